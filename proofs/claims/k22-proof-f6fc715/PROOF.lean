import PyProof.Rows.All
import Wide.All
import OpenK.AllK
import Wide.FinOn
import HandS.ForMost
import HandS.Wide
import HandS.Codes
import HandS.Conv
import HandS.TupAny
import HandS.Style
import HandS.IsInst
import HandS.FStr
import HandS.DictComp
import HandS.NoneIn
import HandS.WideBits
import KE.IntBitsLaws
import KE.GoesEnumKw
import HandS.Zip
import HandS.List
import KE.KTupSum
import KE.GoesMore
import PyProof.WalkInts
import HandS.Lambda
import HandS.SortKw
import KE.SortKeyHeap
import KE.KSortKey
import KE.SortData
import HandS.Sort
import KE.DataMinKey
import KE.GoesEnum
import PyProof.EnumMake
import PyProof.DictUpdate
import PyProof.EvalArms
import KE.DataCmp
import HandS.TupLe
import KE.GoesZip
import KE.KDictZip
import HandS.OwnIter
import HandS.Strs
import HandS.EndBits
import HandS.EndTab
import KE.KNest
import KE.KNestM
import PySem.Challenge.RW_farplaces_k22_whole_elsewhere
set_option Elab.async false
set_option linter.all false
set_option maxRecDepth 100000
set_option maxHeartbeats 8000000
namespace Far
open PySem PySem.Spec PyProof.Rows L2
open C8 (pss_cut tCut)
open SX (S)
def topS (i : Nat) : Stmt := PySem.Challenge.pw_farplaces_k22_whole_elsewhere.main.body.getD i (.Pass ⟨0, 0, 0, 0⟩)

theorem hd_of {A : Around} {k : Nat} (hr : Room k A) (h : 1 ≤ k) : A.units + 64 < cLine := by
  have := hr.units
  omega

/-- a def of the module that may be called by its name -/
structure Cal (P : Program) (w : World) (K : PySem.W.Frag) (mg : Str → Option Value) (base : Heap) (k : Nat) (x : Str) (sp : Sp) : Prop where
  ex : ∃ (f : Addr) (fd : FuncData) (ps : List Str), FnOk P w K mg base CX0 k f fd ps sp ∧ mg x = some (.ref f) ∧ PySem.W.keepIn K (.ref f) = true ∧ Binds K fd ps []
theorem pe_c {X : Cx} {k j : Nat} {x : Str} {sp : Sp} {p pos : Pos} {e : Expr} {es : List Expr} {t : TA} (c : Cal X.prog X.w X.K X.mg X.base k x sp) (hr : Room j X.A) (hk : k ≤ j) (hg : Gl X x) (ha : PA X (e :: es) t)
    (hdb : (x == ("__debug__" : Str)) = false := by decide) (he : starEach (e :: es) X.env = (false, eval e X.env) :: starEach es X.env := by rfl) (hpl : (backTo pos (starEach es X.env)).any (·.1) = false := by rfl) :
    PE X (.Call (.Name x p) (e :: es) [] pos) (tCall sp [] E0 t) := by
  obtain ⟨f, fd, ps, F, hm, kp, b⟩ := c.ex
  exact pe_call F (hr.mono hk) hg hm kp b .nil pass0 ha hdb he hpl

theorem bt_len : bootBuiltins ("len" : Str) = some (.builtin "len") := by decide +kernel
theorem bt_sum : bootBuiltins ("sum" : Str) = some (.builtin "sum") := by decide +kernel
theorem bt_max : bootBuiltins ("max" : Str) = some (.builtin "max") := by decide +kernel
theorem bt_all : bootBuiltins ("all" : Str) = some (.builtin "all") := by decide +kernel
theorem bt_isinstance : bootBuiltins ("isinstance" : Str) = some (.builtin "isinstance") := by decide +kernel
theorem bt_int : bootBuiltins ("int" : Str) = some (.type "int") := by decide +kernel
theorem bt_str : bootBuiltins ("str" : Str) = some (.type "str") := by decide +kernel
theorem bt_tuple : bootBuiltins ("tuple" : Str) = some (.type "tuple") := by decide +kernel
theorem bt_bool : bootBuiltins ("bool" : Str) = some (.type "bool") := by decide +kernel
theorem bt_list : bootBuiltins ("list" : Str) = some (.type "list") := by decide +kernel
/-- rules with the written part named, for use within a comprehension -/
def rLenV (K : PySem.W.Frag) : List V → Hp → VK → Prop := fun xs H Q => ∃ x n, xs = [x] ∧ LenV K x H n ∧ Q (.int n) H
theorem lenK {X : Cx} {K : PySem.W.Frag} (e : X.K = K := by rfl) : CallR X (.builtin "len") (rLenV K) := by
  subst e
  exact call_len
theorem ixl {X : Cx} {K : PySem.W.Frag} (e : X.K = K := by rfl) : IxR X (rIxL K) := by
  subst e
  exact ix_list
theorem ixt {X : Cx} {K : PySem.W.Frag} (e : X.K = K := by rfl) : IxR X (rIxT K) := by
  subst e
  exact ix_tup
/-- what the module's names hold that are built-ins, and its constants -/
structure Txt (mg : Str → Option Value) : Prop where
  len : mg "len" = none
  sum : mg "sum" = none
  range : mg "range" = none
  int : mg "int" = none
  max : mg "max" = none
  list : mg "list" = none
  tuple : mg "tuple" = none

/-- all that stood stands as it was, but for the one object -/
def SmX (d : Addr) (H H' : Hp) : Prop := ∀ b o, b ≠ d → H b = some o → H' b = some o
theorem SmX.refl {d : Addr} (H : Hp) : SmX d H H := fun _ _ _ h => h
theorem SmX.trans {d : Addr} {H H1 H2 : Hp} (a : SmX d H H1) (b : SmX d H1 H2) : SmX d H H2 := fun x o n h => b x o n (a x o n h)
theorem SmX.new {d : Addr} {H H1 : Hp} {p : Addr} {o : HO} (a : SmX d H H1) (n : H1 p = none) : SmX d H (upd H1 p o) := fun x u nx h => by
  rw [upd_ne (ne_of_none (a x u nx h) n)]
  exact a x u nx h
theorem SmX.mut {d : Addr} {H H1 : Hp} {o : HO} (a : SmX d H H1) : SmX d H (upd H1 d o) := fun x u nx h => by
  rw [upd_ne nx]
  exact a x u nx h
/-- an object that the first heap does not know may change -/
theorem SmX.put {d : Addr} {H H1 : Hp} {p : Addr} {o : HO} (a : SmX d H H1) (n : H p = none) : SmX d H (upd H1 p o) := fun x u nx h => by
  rw [upd_ne (ne_of_none h n)]
  exact a x u nx h

/-- the deck at d, its cells at c: at most n were mixed -/
def DeckAt (H : Hp) (d c : Addr) (n : Nat) : Prop := ∃ (cs : List Int) (i l m z : Int), H d = some (.lst [.ref c, .int i, .int l, .int m, .int z]) ∧ H c = some (.lst (cs.map V.int)) ∧ c ≠ d ∧ cs.length ≤ 63 ∧ 0 ≤ i ∧ i ≤ 63 ∧ 0 ≤ l ∧ 0 ≤ m ∧ m ≤ n
theorem DeckAt.new {H : Hp} {d c p : Addr} {o : HO} {n : Nat} (h : DeckAt H d c n) (np : H p = none) : DeckAt (upd H p o) d c n := by
  obtain ⟨cs, i, l, m, z, h1, h2, h3⟩ := h
  exact ⟨cs, i, l, m, z, by rw [upd_ne (ne_of_none h1 np)]; exact h1, by rw [upd_ne (ne_of_none h2 np)]; exact h2, h3⟩
theorem DeckAt.put {H : Hp} {d c p : Addr} {o : HO} {n : Nat} (h : DeckAt H d c n) (nd : p ≠ d) (nc : p ≠ c) : DeckAt (upd H p o) d c n := by
  obtain ⟨cs, i, l, m, z, h1, h2, h3⟩ := h
  exact ⟨cs, i, l, m, z, by rw [upd_ne nd.symm]; exact h1, by rw [upd_ne nc.symm]; exact h2, h3⟩
theorem DeckAt.nd {H : Hp} {d c p : Addr} {n : Nat} (h : DeckAt H d c n) (np : H p = none) : p ≠ d := fun e => by
  obtain ⟨_, _, _, _, _, h1, _⟩ := h
  rw [e, h1] at np
  cases np
theorem DeckAt.nc {H : Hp} {d c p : Addr} {n : Nat} (h : DeckAt H d c n) (np : H p = none) : p ≠ c := fun e => by
  obtain ⟨_, _, _, _, _, _, h2, _⟩ := h
  rw [e, h2] at np
  cases np
theorem DeckAt.mono {H : Hp} {d c : Addr} {n m : Nat} (h : DeckAt H d c n) (le : n ≤ m) : DeckAt H d c m := by
  obtain ⟨cs, i, l, m', z, h1, h2, h3, h4, h5, h6, h7, h8, h9⟩ := h
  exact ⟨cs, i, l, m', z, h1, h2, h3, h4, h5, h6, h7, h8, by omega⟩
theorem SmX.free {d : Addr} {H H' : Hp} {p : Addr} (a : SmX d H H') (n : H' p = none) (nd : p ≠ d) : H p = none := by
  cases q : H p with
  | none => rfl
  | some o =>
    rw [a p o nd q] at n
    cases n

/-- the signs of a name -/
def NameOk (l : List Nat) : Prop := 1 ≤ l.length ∧ l.length ≤ 8 ∧ ∀ c ∈ l, 97 ≤ c ∧ c ≤ 122
theorem sz_le {n : Nat} (h : n ≤ 100000) : n ≤ sizeLine := Nat.le_trans h (by decide)
theorem sz_lt {n : Nat} (h : n ≤ 100000) : n < sizeLine := Nat.lt_of_le_of_lt h (by decide)
theorem atI_in {α : Type} {xs : List α} {i : Int} (h0 : 0 ≤ i) (h1 : i < xs.length) : ∃ v, atI xs i = some v ∧ v ∈ xs := by
  have e : i = ((i.toNat : Nat) : Int) := by omega
  have l : i.toNat < xs.length := by omega
  refine ⟨xs[i.toNat], ?_, List.getElem_mem l⟩
  have q := atI_nat (List.getElem?_eq_getElem l)
  rwa [← e] at q
theorem S_of (z : Str) : ∃ l, z = S l := ⟨z.cps.toList, (SX.S_tl z).symm⟩
theorem join_none : ∀ ys : List (List Nat), TL.joinL [] ys = ys.flatten
  | [] => rfl
  | [x] => by simp [TL.joinL]
  | x :: y :: r => by
    have ih := join_none (y :: r)
    show x ++ ([] ++ TL.joinL [] (y :: r)) = x ++ (y :: r).flatten
    rw [ih]
    rfl
theorem flat_one (cs : List Nat) : (cs.map fun c => [c]).flatten = cs := by
  induction cs with
  | nil => rfl
  | cons c r ih => rw [List.map_cons, List.flatten_cons, ih]; rfl
theorem one_sum' (cs : List Nat) : ((cs.map fun c => S [c]).map (·.length)).sum = cs.length := by
  induction cs with
  | nil => rfl
  | cons c r ih =>
    rw [List.map_cons, List.map_cons, List.sum_cons, ih, List.length_cons, SX.S_len]
    show 1 + r.length = r.length + 1
    omega
theorem bt_min : bootBuiltins ("min" : Str) = some (.builtin "min") := by decide +kernel
theorem same_new {H H1 : Hp} {p : Addr} {o : HO} (a : Same H H1) (n : H1 p = none) : Same H (upd H1 p o) := fun x u h => by
  rw [upd_ne (ne_of_none (a x u h) n)]
  exact a x u h
theorem same_put {H H1 : Hp} {p : Addr} {o : HO} (a : Same H H1) (n : H p = none) : Same H (upd H1 p o) := fun x u h => by
  rw [upd_ne (ne_of_none h n)]
  exact a x u h
end Far

namespace Far
open PySem PySem.Spec PyProof.Rows L2
open C8 (pss_cut tCut)
open SX (S)
theorem bt_abs : bootBuiltins ("abs" : Str) = some (.builtin "abs") := by decide +kernel
structure TxtG (mg : Str → Option Value) : Prop where
  len : mg "len" = none
  max : mg "max" = none
  min : mg "min" = none
  int : mg "int" = none
  range : mg "range" = none
  list : mg "list" = none
  tuple : mg "tuple" = none
  abs : mg "abs" = none
/-- the deck at d, drawn from n times at most -/
def SeedAt (H : Hp) (d : Addr) (n : Nat) : Prop := ∃ a m k : Int, H d = some (.lst [.int a, .int m, .int k]) ∧ 0 ≤ a ∧ 0 ≤ k ∧ k ≤ n ∧ 0 ≤ m ∧ m < 1999999871
theorem SeedAt.new {H : Hp} {d p : Addr} {o : HO} {n : Nat} (h : SeedAt H d n) (np : H p = none) : SeedAt (upd H p o) d n := by
  obtain ⟨a, f, k, h1, h2⟩ := h
  exact ⟨a, f, k, by rw [upd_ne (ne_of_none h1 np)]; exact h1, h2⟩
theorem SeedAt.put {H : Hp} {d p : Addr} {o : HO} {n : Nat} (h : SeedAt H d n) (nd : p ≠ d) : SeedAt (upd H p o) d n := by
  obtain ⟨a, f, k, h1, h2⟩ := h
  exact ⟨a, f, k, by rw [upd_ne nd.symm]; exact h1, h2⟩
theorem SeedAt.nd {H : Hp} {d p : Addr} {n : Nat} (h : SeedAt H d n) (np : H p = none) : p ≠ d := fun e => by
  obtain ⟨a, f, k, h1, _⟩ := h
  rw [e, h1] at np
  cases np
theorem SeedAt.mono {H : Hp} {d : Addr} {n m : Nat} (h : SeedAt H d n) (l : n ≤ m) : SeedAt H d m := by
  obtain ⟨a, f, k, h1, h2, h3, h4, h5⟩ := h
  exact ⟨a, f, k, h1, h2, h3, by omega, h5⟩
theorem SeedAt.lst {H : Hp} {d : Addr} {n : Nat} (h : SeedAt H d n) : ∃ xs, H d = some (.lst xs) := by
  obtain ⟨_, _, _, h1, _⟩ := h
  exact ⟨_, h1⟩
theorem cut_all (xs : List V) (h : xs.length ≤ 63) : cutV xs none (some 63) = xs := by
  unfold cutV
  rw [HT.sIx_none, show HT.sIx xs.length xs.length (some 63) = min 63 xs.length from HT.sIx_nat _ _ 63, Nat.min_eq_right h, List.drop_zero, Nat.sub_zero]
  exact List.take_length
theorem grow_bits {g c : Int} {i : Nat} (hg : Builtin.Int.intBits g ≤ 1048576 + 206 * i) (hc : Builtin.Int.intBits c ≤ 1048576) : Builtin.Int.intBits (g * 2 ^ 205 + (if c < 0 then -c else c)) ≤ 1048576 + 206 * (i + 1) := by
  have h1 := PySem.intBits_le_iff.mp hg
  have h2 := PySem.intBits_le_iff.mp hc
  refine PySem.intBits_le_iff.mpr ?_
  have e : (if c < 0 then -c else c).natAbs = c.natAbs := by split <;> omega
  have a1 : (g * 2 ^ 205 + (if c < 0 then -c else c)).natAbs ≤ (g * 2 ^ 205).natAbs + c.natAbs := by
    rw [← e]
    exact Int.natAbs_add_le _ _
  have a2 : (g * 2 ^ 205 : Int).natAbs = g.natAbs * 2 ^ 205 := by rw [Int.natAbs_mul]; rfl
  rw [a2] at a1
  have a3 : 1048576 + 206 * (i + 1) = (1048576 + 206 * i) + 206 := by omega
  rw [a3, Nat.pow_add]
  have a4 : (2 : Nat) ^ 1048576 ≤ 2 ^ (1048576 + 206 * i) := Nat.pow_le_pow_right (by decide) (by omega)
  have a5 : (2 : Nat) ^ 206 = 2 ^ 205 * 2 := rfl
  generalize (2 : Nat) ^ (1048576 + 206 * i) = k at *
  have a6 : g.natAbs * 2 ^ 205 ≤ (k - 1) * 2 ^ 205 := Nat.mul_le_mul_right _ (by omega)
  have a7 : (k - 1) * 2 ^ 205 + k ≤ k * 2 ^ 206 := by
    have k0 : 0 < k := by omega
    obtain ⟨j, rfl⟩ : ∃ j, k = j + 1 := ⟨k - 1, by omega⟩
    rw [Nat.add_sub_cancel, a5]
    generalize (2 : Nat) ^ 205 = m at *
    have m0 : 1 ≤ m := by
      rcases Nat.eq_zero_or_pos m with z | z
      · rw [z] at a5
        exact absurd a5 (by decide)
      · exact z
    have : (j + 1) * (m * 2) = j * m + (j * m + 2 * m) := by
      rw [Nat.add_mul, Nat.mul_comm m 2, ← Nat.mul_assoc, Nat.mul_comm j 2, Nat.mul_assoc]
      omega
    rw [this]
    have : j ≤ j * m := Nat.le_mul_of_pos_right _ m0
    omega
  omega
abbrev s_law_deck : Stmt := topS 39
abbrev N_law_deck : List Str := ["script", "great", "mixed", "cell"]
theorem sc_law_deck : FnScope N_law_deck ["script"] (defScope s_law_deck) := ⟨rfl, rfl, rfl, by decide +kernel, rfl, by decide +kernel, by decide +kernel⟩
section
variable {P : Program} {w : World} {K : PySem.W.Frag} {mg : Str → Option Value} {base : Heap}
def spDeck (K : PySem.W.Frag) : Sp := fun vs H Q _ => ∃ (a : Addr) (ns : List Int), vs = [.ref a] ∧ SqL K H a (ns.map V.int) ∧ ns.length ≤ 63 ∧ (∀ z ∈ ns, Builtin.Int.intBits z ≤ 1048576) ∧ ∀ (H' : Hp) (d : Addr), Same H H' → H d = none → SeedAt H' d 0 → Q (.ref d) H'
theorem ok_deck {f : Addr} {fd : FuncData} (F : Fun K "_law_deck" "_law_deck" s_law_deck f fd) (T : TxtG mg) : FnOk P w K mg base CX0 1 f fd ["script"] (spDeck K) := by
  refine F.ok sc_law_deck (fun vs H Q E h => ?_) (fun cdv A outer s H vs Q E hr h => ?_)
  · obtain ⟨a, ns, rfl, _⟩ := h
    rfl
  · obtain ⟨a, ns, rfl, hS, hl, hb, q⟩ := h
    refine ⟨_, (pss_cons (ps_set (i := 1) sc_law_deck.nd rfl (.inl rfl) pe_int)
      (pss_cons (ps_set (i := 2) sc_law_deck.nd rfl (.inl rfl) (pe_op op_add (pe_op op_mul pe_int (pe_callB call_len_seq (by rfl) T.len bt_len (pa_cons (pv 0) pa_nil))) pe_int))
      (pss_cut (ps_for PassesOwn.never rfl (pi_list (pe_slice sl_list (pv 0) po_none (po_some pe_int))) (pg_name (i := 3) sc_law_deck.nd rfl (.inl rfl))
        (pss_one (ps_if (pt_cmpR op_ge (pe_callB call_abs (by rfl) T.abs bt_abs (pa_cons (pv 3) pa_nil)) (pe_op op_pow pe_int pe_int) (nomark _))
          (pss_one (ps_set (i := 1) sc_law_deck.nd rfl (.inl rfl) (pe_op op_add (pe_op op_shlN (pv 1) pe_int) (pe_callB call_abs (by rfl) T.abs bt_abs (pa_cons (pv 3) pa_nil)))))
          (pss_one (ps_set (i := 2) sc_law_deck.nd rfl (.inl rfl) (pe_op op_mod (pe_op op_add (pe_op op_mul (pv 2) pe_int) (pv 3)) pe_int))))))
      (pss_one (ps_ret (pe_lst (pa_cons (pv 1) (pa_cons (pv 2) (pa_cons pe_int pa_nil))))))))), ?_⟩
    have hl' : (ns.map V.int).length ≤ 63 := by rw [List.length_map]; exact hl
    refine ⟨_, rfl, a, _, rfl, .inl hS, _, _, rfl, rfl, .inl ⟨by omega, by omega⟩, _, _, rfl, rfl, ?_⟩
    refine ⟨fun σ' H' => ∃ (g m : Int) (x3 : Option V), σ' = [some (.ref a), some (.int g), some (.int m), x3] ∧ Same H H' ∧ 0 ≤ g ∧ 0 ≤ m ∧ m < 1999999871, ?_, fun σ' H' hM => ?_⟩
    · refine ⟨_, rfl, 63, rfl, a, _, rfl, hS, fun c nc => ?_⟩
      rw [cut_all _ hl']
      have S1 := same_new (o := .lst (ns.map V.int)) (Same.refl H) nc
      have hc : (upd H c (.lst (ns.map V.int))) c = some (.lst (ns.map V.int)) := upd_same
      generalize upd H c (.lst (ns.map V.int)) = H1 at S1 hc
      refine ⟨c, rfl, ⟨_, SqL.of hc⟩, for_list (K := K) (a := c) (xs := ns.map V.int) (fun i σ' H' => ∃ (g m : Int) (x3 : Option V), σ' = [some (.ref a), some (.int g), some (.int m), x3] ∧ H' = H1 ∧ 0 ≤ g ∧ Builtin.Int.intBits g ≤ 1048576 + 206 * i ∧ i ≤ 63 ∧ 0 ≤ m ∧ m < 1999999871) ⟨_, _, _, rfl, rfl, by omega, by decide, by omega, by omega, by omega⟩ (fun i σ' H' _ hP => ?_) (fun i v σ' H' hi hP => ?_) (fun σ' H' hP => ?_)⟩
      · obtain ⟨_, _, _, _, rfl, _⟩ := hP
        exact SqL.of hc
      · obtain ⟨g, m, x3, rfl, rfl, g0, gb, i63, m0, m1⟩ := hP
        have il := (List.getElem?_eq_some_iff.mp hi).1
        rw [List.getElem?_map] at hi
        cases e : ns[i]? with
        | none =>
          rw [e] at hi
          cases hi
        | some z =>
          rw [e] at hi
          have ev : v = .int z := (Option.some.inj hi).symm
          subst ev
          have zb := hb z (List.mem_of_getElem? e)
          refine ⟨_, rfl, z, rfl, _, _, rfl, rfl, ⟨by decide, by decide, by decide⟩, _, _, rfl, rfl, _, rfl, ?_⟩
          refine ite2 (fun e1 => ?_) (fun e1 => ?_)
          · refine ⟨_, rfl, g, 205, rfl, rfl, ⟨by decide, by omega⟩, _, rfl, z, rfl, _, _, rfl, rfl, ?_⟩
            refine ⟨_, _, _, rfl, rfl, ?_, grow_bits gb zb, by omega, m0, m1⟩
            have : 0 ≤ g * 2 ^ 205 := Int.mul_nonneg g0 (by decide)
            split <;> omega
          · refine ⟨_, rfl, _, _, rfl, rfl, .inl ⟨by omega, by omega⟩, _, rfl, _, _, rfl, rfl, _, _, rfl, rfl, (by show (0 : Int) < _; decide), ?_⟩
            exact ⟨_, _, _, rfl, rfl, g0, by omega, by omega, Int.emod_nonneg _ (by decide), Int.emod_lt_of_pos _ (by decide)⟩
      · obtain ⟨g, m, x3, rfl, rfl, g0, gb, i63, m0, m1⟩ := hP
        exact ⟨_, _, _, rfl, S1, g0, m0, m1⟩
    · obtain ⟨g, m, x3, rfl, S1, g0, m0, m1⟩ := hM
      refine ⟨_, rfl, _, rfl, (by show 3 ≤ sizeLine; decide), fun d nd => ?_⟩
      exact q _ d (same_new S1 nd) (S1.free nd) ⟨g, m, 0, upd_same, g0, by omega, by omega, m0, m1⟩
end
abbrev s_law_draw : Stmt := topS 40
abbrev N_law_draw : List Str := ["deck", "most", "found", "turn", "one"]
theorem sc_law_draw : FnScope N_law_draw ["deck", "most"] (defScope s_law_draw) := ⟨rfl, rfl, rfl, by decide +kernel, rfl, by decide +kernel, by decide +kernel⟩
section
variable {P : Program} {w : World} {K : PySem.W.Frag} {mg : Str → Option Value} {base : Heap}
def spDraw : Sp := fun vs H Q _ => ∃ (d : Addr) (n : Nat) (many : Int), vs = [.ref d, .int many] ∧ SeedAt H d n ∧ n < 100000 ∧ 0 < many ∧ many < 2 ^ 60 ∧ ∀ (H' : Hp) (r : Int), 0 ≤ r → r < many → SmX d H H' → SeedAt H' d (n + 1) → Q (.int r) H'
theorem ok_draw {f : Addr} {fd : FuncData} (F : Fun K "_law_draw" "_law_draw" s_law_draw f fd) (T : TxtG mg) : FnOk P w K mg base CX0 1 f fd ["deck", "most"] spDraw := by
  refine F.ok sc_law_draw (fun vs H Q E h => ?_) (fun cdv A outer s H vs Q E hr h => ?_)
  · obtain ⟨d, n, many, rfl, _⟩ := h
    rfl
  · obtain ⟨d, n, many, rfl, ⟨a, m, k, h1, a0, k0, k1, m0, m1⟩, hn, hm0, hm1, q⟩ := h
    refine ⟨_, (pss_cons (ps_asg (pe_op op_add (pe_ix ix_list (pv 0) pe_int (fun _ _ => rfl)) pe_int) (pg_sub (pv 0) pe_int set_list))
      (pss_cut (ps_if (pt_cmpR op_gt (pe_ix ix_list (pv 0) pe_int (fun _ _ => rfl)) pe_int (nomark _))
        (pss_cons (ps_set (i := 2) sc_law_draw.nd rfl (.inl rfl) (pe_op op_mod (pe_ix ix_list (pv 0) pe_int (fun _ _ => rfl)) (pv 1)))
        (pss_cons (ps_asg (pe_op op_fdivW (pe_ix ix_list (pv 0) pe_int (fun _ _ => rfl)) (pv 1)) (pg_sub (pv 0) pe_int set_list))
        (pss_one (ps_ret (pv 2)))))
        pss_nil)
      (pss_cons (ps_set (i := 3) sc_law_draw.nd rfl (.inl rfl) (pe_ix ix_list (pv 0) pe_int (fun _ _ => rfl)))
      (pss_cons (ps_set (i := 4) sc_law_draw.nd rfl (.inl rfl) (pe_op op_mod (pe_op op_add (pe_op op_add (pe_ix ix_list (pv 0) pe_int (fun _ _ => rfl)) (pe_op op_mul (pe_op op_mul pe_int (pv 3)) (pv 3))) (pe_op op_mul pe_int (pv 3))) pe_int))
      (pss_cons (ps_set (i := 4) sc_law_draw.nd rfl (.inl rfl) (pe_op op_mod (pe_op op_mul (pv 4) (pv 4)) pe_int))
      (pss_one (ps_ret (pe_op op_mod (pe_op op_fdiv (pe_op op_mod (pe_op op_add (pe_op op_mul (pv 4) pe_int) (pe_op op_mul (pv 3) pe_int)) pe_int) pe_int) (pv 1))))))))), ?_⟩
    refine ⟨_, rfl, d, _, 2, _, rfl, rfl, SqL.of h1, rfl, k, 1, rfl, rfl, ?_⟩
    refine ⟨_, rfl, d, _, 2, 2, rfl, rfl, h1, rfl, ?_⟩
    have h2 : (upd H d (.lst [.int a, .int m, .int (k + 1)])) d = some (.lst [.int a, .int m, .int (k + 1)]) := upd_same
    have S1 : SmX d H (upd H d (.lst [.int a, .int m, .int (k + 1)])) := (SmX.refl H).mut
    refine ⟨fun σ' H' => σ' = [some (.ref d), some (.int many), none, none, none] ∧ SmX d H H' ∧ H' d = some (.lst [.int a, .int m, .int (k + 1)]), ?_, fun σ' H1 hM => ?_⟩
    · refine ⟨_, rfl, d, _, 0, _, rfl, rfl, SqL.of h2, rfl, _, _, rfl, rfl, _, rfl, ?_⟩
      refine ite2 (fun e => ?_) (fun e => ⟨rfl, S1, h2⟩)
      refine ⟨_, rfl, d, _, 0, _, rfl, rfl, SqL.of h2, rfl, _, rfl, _, _, rfl, rfl, hm0, ?_⟩
      refine ⟨_, rfl, d, _, 0, _, rfl, rfl, SqL.of h2, rfl, _, rfl, _, _, rfl, rfl, wide_div (b := 60) hm0 (by omega) (by decide) (by decide), ?_⟩
      refine ⟨_, rfl, d, _, 0, 0, rfl, rfl, h2, rfl, ?_⟩
      refine ⟨_, rfl, ?_⟩
      exact q _ _ (Int.emod_nonneg _ (by omega)) (Int.emod_lt_of_pos _ hm0) S1.mut ⟨a / many, m, k + 1, upd_same, Int.ediv_nonneg a0 (by omega), by omega, by omega, m0, m1⟩
    · obtain ⟨rfl, SM, h3⟩ := hM
      refine ⟨_, rfl, d, _, 2, _, rfl, rfl, SqL.of h3, rfl, ?_⟩
      refine ⟨_, rfl, d, _, 1, _, rfl, rfl, SqL.of h3, rfl, _, rfl, _, _, rfl, rfl, .inl ⟨by omega, by omega⟩, _, rfl, _, _, rfl, rfl, .inr ⟨by omega, by omega⟩, _, _, rfl, rfl, _, rfl, _, _, rfl, rfl, .inl ⟨by omega, by omega⟩, _, _, rfl, rfl, _, _, rfl, rfl, (by show (0 : Int) < _; decide), ?_⟩
      generalize hx : (m + 70003 * (k + 1) * (k + 1) + 5003 * (k + 1)) % 2147483543 = x
      have x0 : 0 ≤ x := hx ▸ Int.emod_nonneg _ (by decide)
      have x1 : x < 2147483543 := hx ▸ Int.emod_lt_of_pos _ (by decide)
      refine ⟨_, rfl, _, rfl, _, _, rfl, rfl, .inl ⟨by omega, by omega⟩, _, _, rfl, rfl, (by show (0 : Int) < _; decide), ?_⟩
      generalize hy : x * x % 2147483497 = y
      have y0 : 0 ≤ y := hy ▸ Int.emod_nonneg _ (by decide)
      have y1 : y < 2147483497 := hy ▸ Int.emod_lt_of_pos _ (by decide)
      refine ⟨_, rfl, _, _, rfl, rfl, .inl ⟨by omega, by omega⟩, _, rfl, _, _, rfl, rfl, .inl ⟨by omega, by omega⟩, _, _, rfl, rfl, _, _, rfl, rfl, (by show (0 : Int) < _; decide), ?_⟩
      refine ⟨_, _, rfl, rfl, ⟨by decide, by decide⟩, _, rfl, _, _, rfl, rfl, hm0, ?_⟩
      exact q _ _ (Int.emod_nonneg _ (by omega)) (Int.emod_lt_of_pos _ hm0) SM ⟨a, m, k + 1, h3, a0, by omega, by omega, m0, m1⟩
end
end Far

namespace Far
open PySem PySem.Spec PyProof.Rows L2
/-! ### t[::-1], t a text -/
def revS (z : Str) : Str := ⟨z.cps.toList.reverse.toArray⟩
def tRevS (te : TE) : TE := fun σ H Q => te σ H fun x H1 => ∃ z, x = .str z ∧ z.length ≤ sizeLine ∧ Q (.str (revS z)) H1
theorem fm_congrS {α β : Type} {f g : α → Option β} : ∀ {l : List α}, (∀ x ∈ l, f x = g x) → l.filterMap f = l.filterMap g
  | [], _ => rfl
  | x :: r, h => by
    rw [List.filterMap_cons, List.filterMap_cons, h x (List.mem_cons_self ..), fm_congrS fun y hy => h y (List.mem_cons_of_mem _ hy)]
theorem back_allS {α : Type} : ∀ (l : List α), (List.range l.length).filterMap (fun m => l[l.length - 1 - m]?) = l.reverse := by
  intro l
  have h := PySem.W.krv_range l.length
  have e : (List.range l.length).filterMap (fun m => l[l.length - 1 - m]?) = ((List.range l.length).map fun k => l.length - 1 - k).filterMap (fun j => l[j]?) := by
    rw [List.filterMap_map]
    rfl
  rw [e, h, List.filterMap_reverse]
  congr 1
  have := PySem.W.krv_all l.toArray
  simpa using this
theorem revS_pick (z : Str) : (⟨((Builtin.Str.strSliceIndices none none (-1) z.length).filterMap (z.cps[·]?)).toArray⟩ : Str) = revS z := by
  unfold revS
  rw [picked_rev, List.filterMap_map, ← back_allS z.cps.toList]
  congr 2
  show _ = (List.range z.cps.toList.length).filterMap _
  rw [Array.length_toList]
  refine fm_congrS fun m hm => ?_
  rw [Array.getElem?_toList]
  rfl
theorem pe_revS {X : Cx} {e : Expr} {te : TE} {k : Nat} {p1 p2 p3 pos : Pos} (he : PE X e te) : PE X (.Subscript e (.Slice none none (some (.UnaryOp .USub (.Constant (.int 1) k p1) p2)) p3) pos) (tRevS te) := by
  refine ⟨fun pins s σ H Q I h => ?_⟩
  refine Subscript_ (thn (he.run pins s σ H _ I h) fun v s1 ⟨x, H1, I1, r1, q1⟩ => ?_)
  obtain ⟨z, ex, hz, q⟩ := q1
  subst ex
  obtain ⟨t, rfl⟩ := r1
  have hst : PO X (some (.UnaryOp .USub (.Constant (.int 1) k p1) p2)) (tPart (tUn (rU fun i => .int (-i)) (tC (.int 1)))) := po_some (pe_un un_neg pe_int)
  refine wpAny_Slice (thn (po_none.run pins s1 σ H1 (fun o H2 => o = none ∧ H2 = H1) I1 ⟨rfl, rfl⟩) fun vl s2 ⟨l, H2, I2, pl, el, e2⟩ => ?_)
  subst el e2
  refine thn (po_none.run pins s2 σ H2 (fun o H3 => o = none ∧ H3 = H2) I2 ⟨rfl, rfl⟩) fun vu s3 ⟨u, H3, I3, pu, eu, e3⟩ => ?_
  subst eu e3
  refine thn (hst.run pins s3 σ H3 (fun o H4 => o = some (-1) ∧ H4 = H3) I3 ⟨1, rfl, -1, rfl, rfl, rfl⟩) fun vs s4 ⟨o, H4, I4, ps, eo, e4⟩ => ?_
  subst eo e4
  have I5 : Inv X pins σ H4 { s4 with heap := s4.heap.push { cls := .type "slice", data := .fields #[vl, vu, vs] } } := I4.kept (t' := s4.toks) fun b ob q => Heap.get?_push_of_some _ q
  obtain ⟨l, rfl, hl⟩ := IsPart.raw pl
  obtain ⟨u, rfl, hu⟩ := IsPart.raw pu
  obtain ⟨y, rfl, hy⟩ := IsPart.raw ps
  show wpAny (model X.prog X.w) X.A (subscriptTail e (.Slice none none (some (.UnaryOp .USub (.Constant (.int 1) k p1) p2)) p3) (.str z t) (.ref s4.heap.objs.size)) (EP X pins σ Q) X.xe _
  refine tail_any (ops := [.str z t, .ref s4.heap.objs.size]) (typeIs_str _ _ _) (F.slot_str_getitem.lookup) ?_ (by with_unfolding_all rfl)
  have hl' : l = none := by cases l with
    | none => rfl
    | some _ => cases hl
  have hu' : u = none := by cases u with
    | none => rfl
    | some _ => cases hu
  obtain ⟨⟨y1, y2⟩, rfl⟩ : ∃ p, y = some p := by cases y with
    | none => cases hy
    | some p => exact ⟨p, rfl⟩
  have hy' : y1 = -1 := by
    have := Option.some.inj hy
    first | exact this | exact this.symm
  subst hl' hu' hy'
  refine wpAny_getItem_str_slice (l := none) (u := none) (st := some (-1, y2)) ⟨_, Heap.get?_push_size _ rfl, rfl, rfl⟩ rfl ?_
  show Made.post (if ((-1 : Int) == 1 && (Builtin.Str.strSliceIndices none none (-1) z.length).length == z.length) = true then Made.val (.str z t)
    else Made.str ⟨((Builtin.Str.strSliceIndices none none (-1) z.length).filterMap (z.cps[·]?)).toArray⟩) (EP X pins σ Q) _
  rw [if_neg (by simp), revS_pick]
  refine ⟨?_, .str _, H4, I5.tok _, ⟨_, rfl⟩, q⟩
  show z.cps.toList.reverse.toArray.size ≤ sizeLine
  rw [List.size_toArray, List.length_reverse, Array.length_toList]
  exact hz
end Far

namespace Far
open PySem PySem.Spec PyProof.Rows L2
open C8 (pss_cut tCut)
open SX (S)
/-! ### lists without an item twice -/
theorem nodup_sub_len {α : Type} [DecidableEq α] : ∀ (l m : List α), l.Nodup → (∀ x ∈ l, x ∈ m) → l.length ≤ m.length
  | [], _, _, _ => Nat.zero_le _
  | a :: r, m, h, hs => by
    obtain ⟨h1, h2⟩ := List.nodup_cons.mp h
    have ha : a ∈ m := hs a (List.mem_cons.mpr (.inl rfl))
    have ih := nodup_sub_len r (m.erase a) h2 fun x hx => by
      have ne : x ≠ a := fun e => h1 (e ▸ hx)
      exact (List.mem_erase_of_ne ne).mpr (hs x (List.mem_cons.mpr (.inr hx)))
    have hl := List.length_erase_of_mem ha
    have hp : 0 < m.length := List.length_pos_of_mem ha
    rw [List.length_cons]
    omega
theorem nd_snoc' {α : Type} {l : List α} {x : α} (h : l.Nodup) (hx : x ∉ l) : (l ++ [x]).Nodup := by
  rw [List.nodup_append]
  exact ⟨h, by simp, fun a ha b hb e => hx (by rw [← List.mem_singleton.mp hb, ← e]; exact ha)⟩

/-! ### texts as data -/
theorem strOk_S {l : List Nat} (h : NameOk l) : PyData.strOk (S l) = true := by
  show (l.toArray.all (· < 0x110000)) = true
  rw [← Array.all_toList, List.all_eq_true]
  intro c hc
  have := h.2.2 c hc
  exact decide_eq_true (by omega)
theorem inV_strs (l : List Nat) (ls : List (List Nat)) : inV (.str (S l)) ((ls.map S).map V.str) = decide (l ∈ ls) := by
  induction ls with
  | nil => rfl
  | cons a r ih =>
    show (S a == S l || inV (.str (S l)) ((r.map S).map V.str)) = _
    rw [ih, SX.S_beq_eq]
    by_cases e : a = l
    · subst e
      simp
    · have : l ≠ a := fun z => e z.symm
      simp [e, this]
theorem flat_strs (ls : List (List Nat)) : ((ls.map S).map V.str).all flatV = true := by
  induction ls with
  | nil => rfl
  | cons a r ih => exact ih
theorem strs_at {ls : List (List Nat)} {v : V} (h : v ∈ (ls.map S).map V.str) : ∃ l ∈ ls, v = .str (S l) := by
  obtain ⟨z, hz, rfl⟩ := List.mem_map.mp h
  obtain ⟨l, hl, rfl⟩ := List.mem_map.mp hz
  exact ⟨l, hl, rfl⟩
theorem dp_strs (K : PySem.W.Frag) (H : Hp) : ∀ ls : List (List Nat), DpAll K H ((ls.map S).map V.str) (ls.map fun l => PyData.str (S l))
  | [] => .nil
  | l :: r => .cons (.str _) (dp_strs K H r)
theorem lay_strs : ∀ {ls : List (List Nat)}, (∀ l ∈ ls, NameOk l) → PyData.canLayAll0 (ls.map fun l => PyData.str (S l)) = true
  | [], _ => rfl
  | l :: r, h => by
    show (PyData.strOk (S l) && PyData.canLayAll0 (r.map fun l => PyData.str (S l))) = true
    rw [strOk_S (h l (List.mem_cons.mpr (.inl rfl))), lay_strs fun x hx => h x (List.mem_cons.mpr (.inr hx))]
    rfl
theorem dep_strs : ∀ ls : List (List Nat), PyData.depthAll (ls.map fun l => PyData.str (S l)) = 0
  | [] => rfl
  | l :: r => by
    show max 0 (PyData.depthAll (r.map fun l => PyData.str (S l))) = 0
    rw [dep_strs r]
    rfl
theorem shaped_strs {ls : List (List Nat)} (h : ∀ l ∈ ls, NameOk l) : SeqAt.shaped (.list (ls.map fun l => PyData.str (S l))) = true := by
  show (PyData.canLayAll0 (ls.map fun l => PyData.str (S l)) && decide (PyData.depthAll (ls.map fun l => PyData.str (S l)) + 1 ≤ 64)) = true
  rw [lay_strs h, dep_strs]
  rfl

/-! ### names made otherwise -/
abbrev abc : Str := "abcdefghijklmnopqrstuvwxyz"
theorem abc_at : ∀ k : _root_.Fin 26, atI abc.cps.toList ((k.val : Nat) : Int) = some (97 + k.val) := by decide +kernel
theorem abc_ok : ∀ c ∈ abc.cps.toList, 97 ≤ c ∧ c ≤ 122 := by decide +kernel
theorem abc_len : abc.cps.toList.length = 26 := by decide +kernel
def cand (j : Nat) : List Nat := [97 + j / 26] ++ [97 + j % 26]
theorem cand_inj {i j : Nat} (h : cand i = cand j) : i = j := by
  unfold cand at h
  simp at h
  omega
theorem cand_ok {j : Nat} (hj : j < 600) : NameOk (cand j) := by
  refine ⟨by simp [cand], by simp [cand], fun c hc => ?_⟩
  unfold cand at hc
  simp at hc
  omega
/-- of the names tried so far all but the last are found already -/
structure Tried (ls : List (List Nat)) (t : Nat) (l : List Nat) : Prop where
  ok : NameOk l
  last : t ≠ 0 → l = cand (t - 1)
  old : ∀ j, j + 1 < t → cand j ∈ ls
theorem Tried.lt {ls : List (List Nat)} {t : Nat} {l : List Nat} (h : Tried ls t l) (hl : l ∈ ls) : t ≤ ls.length := by
  have sub : ∀ x ∈ (List.range t).map cand, x ∈ ls := fun x hx => by
    obtain ⟨j, hj, rfl⟩ := List.mem_map.mp hx
    have hj := List.mem_range.mp hj
    by_cases e : j + 1 < t
    · exact h.old j e
    · have e2 : j = t - 1 := by omega
      rw [e2, ← h.last (by omega)]
      exact hl
  have nd : ((List.range t).map cand).Nodup := by
    rw [List.Nodup, List.pairwise_map]
    exact (List.nodup_range (n := t)).imp fun ne e => ne (cand_inj e)
  have := nodup_sub_len _ ls nd sub
  rw [List.length_map, List.length_range] at this
  exact this
theorem Tried.next {ls : List (List Nat)} {t : Nat} {l : List Nat} (h : Tried ls t l) (hl : l ∈ ls) (h30 : ls.length < 100) : Tried ls (t + 1) (cand t) := by
  have hlt := h.lt hl
  refine ⟨cand_ok (by omega), fun _ => rfl, fun j hj => ?_⟩
  by_cases e : j + 1 < t
  · exact h.old j e
  · have e2 : j = t - 1 := by omega
    rw [e2, ← h.last (by omega)]
    exact hl
theorem revS_S (l : List Nat) : revS (S l) = S l.reverse := by
  show (⟨(l.toArray.toList.reverse).toArray⟩ : Str) = _
  rw [List.toList_toArray]
def NamesAt (H : Hp) (p : Addr) (ls : List (List Nat)) : Prop := H p = some (.lst ((ls.map S).map V.str))
end Far

namespace Far
open PySem PySem.Spec PyProof.Rows L2
/-! ### xs[::e], xs a list, e tells 1 or -1 -/
def tStepL (K : PySem.W.Frag) (te ts : TE) : TE := fun σ H Q => te σ H fun x H1 => tPart ts σ H1 fun o H2 => ∃ a xs i, x = .ref a ∧ o = some i ∧ (i = 1 ∨ i = -1) ∧ SqL K H2 a xs ∧ ∀ p, H2 p = none → Q (.ref p) (upd H2 p (.lst (if i = 1 then xs else xs.reverse)))
theorem range_some {α : Type} : ∀ (l : List α), (List.range l.length).filterMap (fun m => l[m]?) = l
  | [] => rfl
  | a :: r => by
    rw [List.length_cons, List.range_succ_eq_map, List.filterMap_cons]
    show a :: ((List.range r.length).map Nat.succ).filterMap _ = _
    rw [List.filterMap_map]
    congr 1
    exact range_some r
theorem pick_one (items : Array Value) : slicePick items none none (some 1) = items := by
  have h := slicePick_cut items.toList none none
  have e : slicePick items none none (some 1) = slicePick items none none none := by rfl
  rw [e]
  rw [Array.toArray_toList] at h
  rw [h]
  have e1 : HT.sIx items.toList.length items.toList.length none = items.toList.length := rfl
  have e2 : HT.sIx items.toList.length 0 none = 0 := rfl
  rw [e1, e2, List.drop_zero, Nat.sub_zero, List.take_length, Array.toArray_toList]
theorem pe_stepL {X : Cx} {e st : Expr} {te ts : TE} {p3 pos : Pos} (he : PE X e te) (hs : PE X st ts) : PE X (.Subscript e (.Slice none none (some st) p3) pos) (tStepL X.K te ts) := by
  refine ⟨fun pins s σ H Q I h => ?_⟩
  refine Subscript_ (thn (he.run pins s σ H _ I h) fun v s1 ⟨x, H1, I1, r1, q1⟩ => ?_)
  have hst : PO X (some st) (tPart ts) := po_some hs
  refine wpAny_Slice (thn (po_none.run pins s1 σ H1 (fun o H2 => o = none ∧ H2 = H1) I1 ⟨rfl, rfl⟩) fun vl s2 ⟨l, H2, I2, pl, el, e2⟩ => ?_)
  subst el e2
  refine thn (po_none.run pins s2 σ H2 (fun o H3 => o = none ∧ H3 = H2) I2 ⟨rfl, rfl⟩) fun vu s3 ⟨u, H3, I3, pu, eu, e3⟩ => ?_
  subst eu e3
  refine thn (hst.run pins s3 σ H3 _ I3 q1) fun vs s4 ⟨o, H4, I4, ps, q2⟩ => ?_
  obtain ⟨a, xs, i, ex, eo, hi, hx, q⟩ := q2
  subst ex eo
  cases r1
  have I5 : Inv X pins σ H4 { s4 with heap := s4.heap.push { cls := .type "slice", data := .fields #[vl, vu, vs] } } := I4.kept (t' := s4.toks) fun b ob q => Heap.get?_push_of_some _ q
  obtain ⟨its, r, ht, hz⟩ := I5.list hx
  have hlen := r.length
  show wpAny (model X.prog X.w) X.A (subscriptTail e (.Slice none none (some st) p3) (.ref a) (.ref s4.heap.objs.size)) (EP X pins σ Q) X.xe { s4 with heap := s4.heap.push { cls := .type "slice", data := .fields #[vl, vu, vs] } }
  refine tail_any (ops := [.ref a, .ref s4.heap.objs.size]) ht.isList.typeIs (PySem.slot_list_getitem.lookup) ?_ (by with_unfolding_all rfl)
  refine wpAny_getItem_list_slice ht.isList (Heap.IsSliceOf.new _ vl vu vs) pl pu ps (by rcases hi with z | z <;> rw [z] <;> decide) ?_ (by rw [List.size_toArray]; omega)
  have q := q _ (I5.hok.fresh (Nat.le_refl _))
  rcases hi with z | z
  · subst z
    rw [if_pos rfl] at q
    rw [pick_one]
    refine ⟨.ref _, _, I5.laid (t' := s4.toks) (o := .lst xs) (fun b ob q => Heap.get?_push_of_some _ q) (Nat.le_refl _) ?_, rfl, q⟩
    exact ⟨hz, _, 0, r, Heap.get?_push_size _ rfl⟩
  · subst z
    rw [if_neg (by decide)] at q
    rw [PySem.W.krv_pick]
    refine ⟨.ref _, _, I5.laid (t' := s4.toks) (o := .lst xs.reverse) (fun b ob q => Heap.get?_push_of_some _ q) (Nat.le_refl _) ?_, rfl, q⟩
    exact ⟨by rw [List.length_reverse]; exact hz, _, 0, r.reverse, Heap.get?_push_size _ rfl⟩
end Far

namespace Far
open PySem PySem.Spec PyProof.Rows L2
open SX (S)
abbrev Nm := List Nat
abbrev Tie := Nm × Nm × Int
/-- places in an order in which each has one tie to those ahead; the ties in that order -/
inductive Grown : List Nm → List Tie → Prop
  | one (a : Nm) : Grown [a] []
  | leaf {os : List Nm} {es : List Tie} {a b : Nm} {k : Int} {e : Tie} : Grown os es → a ∈ os → b ∉ os → e = (a, b, k) ∨ e = (b, a, k) → 1 ≤ k → k ≤ 1000000 → Grown (os ++ [b]) (es ++ [e])
def IsTree (pl : List Nm) (ts : List Tie) : Prop := ∃ os es, Grown os es ∧ pl.Perm os ∧ ts.Perm es
theorem Grown.nodup {os : List Nm} {es : List Tie} (h : Grown os es) : os.Nodup := by
  induction h with
  | one a => simp
  | leaf _ _ hb _ _ _ ih => exact nd_snoc' ih hb
theorem Grown.len {os : List Nm} {es : List Tie} (h : Grown os es) : os.length = es.length + 1 := by
  induction h with
  | one a => rfl
  | leaf _ _ _ _ _ _ ih => rw [List.length_append, List.length_append, ih]; rfl
theorem Grown.ties {os : List Nm} {es : List Tie} (h : Grown os es) : ∀ e ∈ es, e.1 ∈ os ∧ e.2.1 ∈ os ∧ 1 ≤ e.2.2 ∧ e.2.2 ≤ 1000000 := by
  induction h with
  | one a => simp
  | leaf h1 ha hb he k1 k2 ih =>
    intro e hm
    rcases List.mem_append.mp hm with z | z
    · obtain ⟨a1, a2, a3⟩ := ih e z
      exact ⟨List.mem_append_left _ a1, List.mem_append_left _ a2, a3⟩
    · rw [List.mem_singleton.mp z]
      rcases he with e | e <;> rw [e] <;> simp [ha, k1, k2]
theorem IsTree.nodup {pl : List Nm} {ts : List Tie} (h : IsTree pl ts) : pl.Nodup := by
  obtain ⟨os, es, g, p, _⟩ := h
  exact p.nodup_iff.mpr g.nodup
theorem IsTree.len {pl : List Nm} {ts : List Tie} (h : IsTree pl ts) : pl.length = ts.length + 1 := by
  obtain ⟨os, es, g, p, q⟩ := h
  rw [p.length_eq, q.length_eq]
  exact g.len
theorem IsTree.ties {pl : List Nm} {ts : List Tie} (h : IsTree pl ts) : ∀ e ∈ ts, e.1 ∈ pl ∧ e.2.1 ∈ pl ∧ 1 ≤ e.2.2 ∧ e.2.2 ≤ 1000000 := by
  obtain ⟨os, es, g, p, q⟩ := h
  intro e he
  obtain ⟨a, b, c⟩ := g.ties e (q.mem_iff.mp he)
  exact ⟨p.mem_iff.mpr a, p.mem_iff.mpr b, c⟩

/-! ### as data -/
def tieD (t : Tie) : PyData := .tuple [.str (S t.1), .str (S t.2.1), .int t.2.2]
def strD (l : Nm) : PyData := .str (S l)
def treeD (pl : List Nm) (ts : List Tie) : PyData := .tuple [.tuple (pl.map strD), .tuple (ts.map tieD)]
/-- tuples stand as they stood -/
structure TK (H H' : Hp) : Prop where
  tup : ∀ b xs, H b = some (.tup xs) → H' b = some (.tup xs)
  frz : ∀ b o xs, H b = some (.frz o (.tup xs)) → H' b = some (.frz o (.tup xs))
theorem TK.refl (H : Hp) : TK H H := ⟨fun _ _ h => h, fun _ _ _ h => h⟩
theorem TK.trans {H H1 H2 : Hp} (a : TK H H1) (b : TK H1 H2) : TK H H2 := ⟨fun x o h => b.tup x o (a.tup x o h), fun x o u h => b.frz x o u (a.frz x o u h)⟩
theorem TK.of {H H' : Hp} (a : Same H H') : TK H H' := ⟨fun x _ h => a x _ h, fun x _ _ h => a x _ h⟩
theorem TK.new {H : Hp} {p : Addr} {o : HO} (n : H p = none) : TK H (upd H p o) :=
  ⟨fun b xs h => by rw [upd_ne (ne_of_none h n)]; exact h, fun b u xs h => by rw [upd_ne (ne_of_none h n)]; exact h⟩
theorem TK.mut {H : Hp} {p : Addr} {o : HO} {xs : List V} (n : H p = some (.lst xs)) : TK H (upd H p o) :=
  ⟨fun b ys h => by rw [upd_ne (ne_of h n (by intro z; cases z))]; exact h, fun b u ys h => by rw [upd_ne (ne_of h n (by intro z; cases z))]; exact h⟩
theorem SmX.tk {d : Addr} {H H' : Hp} {xs : List V} (s : SmX d H H') (n : H d = some (.lst xs)) : TK H H' :=
  ⟨fun b ys h => s b _ (ne_of h n (by intro z; cases z)) h, fun b u ys h => s b _ (ne_of h n (by intro z; cases z)) h⟩
theorem DeckAt.lst {H : Hp} {d c : Addr} {n : Nat} (h : DeckAt H d c n) : ∃ xs, H d = some (.lst xs) := by
  obtain ⟨_, _, _, _, _, h1, _⟩ := h
  exact ⟨_, h1⟩
theorem DeckAt.tk {H H' : Hp} {d c : Addr} {n : Nat} (h : DeckAt H d c n) (s : SmX d H H') : TK H H' := by
  obtain ⟨xs, e⟩ := h.lst
  exact s.tk e
mutual
/-- a value that never changes: none, truths, numbers, texts, tuples of such -/
inductive Dt (H : Hp) : V → PyData → Prop
  | non : Dt H .non .none
  | bl (b : Bool) : Dt H (.bl b) (.bool b)
  | int (i : Int) : Dt H (.int i) (.int i)
  | str (x : Str) : Dt H (.str x) (.str x)
  | tup {a : Addr} {xs : List V} {ds : List PyData} : H a = some (.tup xs) → DtAll H xs ds → Dt H (.ref a) (.tuple ds)
  /-- a tuple of texts that is known to have no dict of its own -/
  | tupZ {a : Addr} {pl : List Nm} {ds : List PyData} {o : Obj} : ds = pl.map strD → pl ≠ [] → o.dict = none → H a = some (.frz o (.tup ((pl.map S).map V.str))) → Dt H (.ref a) (.tuple ds)
inductive DtAll (H : Hp) : List V → List PyData → Prop
  | nil : DtAll H [] []
  | cons {v : V} {vs : List V} {d : PyData} {ds : List PyData} : Dt H v d → DtAll H vs ds → DtAll H (v :: vs) (d :: ds)
end
mutual
theorem Dt.keep {H H' : Hp} (t : TK H H') : ∀ {v : V} {d : PyData}, Dt H v d → Dt H' v d
  | _, _, .non => .non
  | _, _, .bl b => .bl b
  | _, _, .int i => .int i
  | _, _, .str x => .str x
  | _, _, .tup a b => .tup (t.tup _ _ a) (DtAll.keep t b)
  | _, _, .tupZ e n d a => .tupZ e n d (t.frz _ _ _ a)
theorem DtAll.keep {H H' : Hp} (t : TK H H') : ∀ {vs : List V} {ds : List PyData}, DtAll H vs ds → DtAll H' vs ds
  | _, _, .nil => .nil
  | _, _, .cons a b => .cons (Dt.keep t a) (DtAll.keep t b)
end
theorem dpa_strs {K : PySem.W.Frag} (H : Hp) : ∀ ls : List Nm, DpAll K H ((ls.map S).map V.str) (ls.map strD)
  | [] => .nil
  | _ :: r => .cons (.str _) (dpa_strs H r)
mutual
theorem Dt.dp {K : PySem.W.Frag} {H : Hp} : ∀ {v : V} {d : PyData}, Dt H v d → Dp K H v d
  | _, _, .non => .non
  | _, _, .bl b => .bl b
  | _, _, .int i => .int i
  | _, _, .str x => .str x
  | _, _, .tup a b => .tup (.inl (.inl a)) (DtAll.dp b)
  | _, _, .tupZ (pl := pl) (o := o) e _ _ a => e ▸ .tup (.inl (.inr ⟨o, a⟩)) (dpa_strs H pl)
theorem DtAll.dp {K : PySem.W.Frag} {H : Hp} : ∀ {vs : List V} {ds : List PyData}, DtAll H vs ds → DpAll K H vs ds
  | _, _, .nil => .nil
  | _, _, .cons a b => .cons (Dt.dp a) (DtAll.dp b)
end
theorem DtAll.len {H : Hp} : ∀ {vs : List V} {ds : List PyData}, DtAll H vs ds → vs.length = ds.length
  | _, _, .nil => rfl
  | _, _, .cons _ t => congrArg (· + 1) (DtAll.len t)
theorem DtAll.app {H : Hp} : ∀ {vs ws : List V} {ds es : List PyData}, DtAll H vs ds → DtAll H ws es → DtAll H (vs ++ ws) (ds ++ es)
  | _, _, _, _, .nil, h => h
  | _, _, _, _, .cons a t, h => .cons a (DtAll.app t h)
theorem DtAll.get {H : Hp} : ∀ {vs : List V} {ds : List PyData} {i : Nat} {v : V}, DtAll H vs ds → vs[i]? = some v → ∃ d, ds[i]? = some d ∧ Dt H v d
  | _, _, _, _, .nil, e => by simp at e
  | _, _, 0, _, .cons a _, e => by
    simp at e
    subst e
    exact ⟨_, rfl, a⟩
  | _, _, i + 1, _, .cons _ t, e => by
    obtain ⟨d, h1, h2⟩ := DtAll.get (i := i) t (by simpa using e)
    exact ⟨d, by simpa using h1, h2⟩
theorem DtAll.del {H : Hp} : ∀ {vs : List V} {ds : List PyData} (i : Nat), DtAll H vs ds → DtAll H (vs.eraseIdx i) (ds.eraseIdx i)
  | _, _, _, .nil => .nil
  | _, _, 0, .cons _ t => t
  | _, _, i + 1, .cons a t => .cons a (DtAll.del i t)
theorem DtAll.strs {H : Hp} : ∀ {ls : List Nm} {vs : List V}, DtAll H vs (ls.map strD) → vs = (ls.map S).map V.str
  | [], _, .nil => rfl
  | l :: r, _, .cons (.str _) t => by
    rw [DtAll.strs (ls := r) t]
    rfl
theorem dt_strs (H : Hp) : ∀ ls : List Nm, DtAll H ((ls.map S).map V.str) (ls.map strD)
  | [] => .nil
  | _ :: r => .cons (.str _) (dt_strs H r)
theorem perm_erase {α : Type} : ∀ {l : List α} {k : Nat} {x : α}, l[k]? = some x → (x :: l.eraseIdx k).Perm l
  | [], _, _, e => by simp at e
  | a :: r, 0, x, e => by
    simp at e
    subst e
    exact .refl _
  | a :: r, k + 1, x, e => by
    have ih := perm_erase (l := r) (k := k) (x := x) (by simpa using e)
    show (x :: a :: r.eraseIdx k).Perm (a :: r)
    exact (List.Perm.swap a x _).trans (ih.cons a)
theorem perm_pick {α : Type} {l1 l2 m : List α} {x : α} {k : Nat} (h : (l1 ++ l2).Perm m) (e : l2[k]? = some x) : ((l1 ++ [x]) ++ l2.eraseIdx k).Perm m := by
  rw [List.append_assoc]
  exact ((List.Perm.refl l1).append (perm_erase e)).trans h
theorem map_erase {α β : Type} (f : α → β) : ∀ (l : List α) (k : Nat), (l.map f).eraseIdx k = (l.eraseIdx k).map f
  | [], _ => rfl
  | _ :: _, 0 => rfl
  | a :: r, k + 1 => congrArg (f a :: ·) (map_erase f r k)
/-- a tuple of texts: of this heap, or one known through and through -/
def TupAt (H : Hp) (a : Addr) (xs : List V) : Prop := H a = some (.tup xs) ∨ ∃ o : Obj, o.dict = none ∧ H a = some (.frz o (.tup xs))
theorem TupAt.sq {K : PySem.W.Frag} {H : Hp} {a : Addr} {xs : List V} (h : TupAt H a xs) : SqT K H a xs := h.elim (fun h => .inl (.inl h)) fun ⟨o, _, h⟩ => .inl (.inr ⟨o, h⟩)
theorem TupAt.ne {H : Hp} {a p : Addr} {xs : List V} (h : TupAt H a xs) (n : H p = none) : a ≠ p := h.elim (fun h => ne_of_none h n) fun ⟨_, _, h⟩ => ne_of_none h n
theorem TupAt.same {H H' : Hp} {a : Addr} {xs : List V} (h : TupAt H a xs) (s : Same H H') : TupAt H' a xs := h.elim (fun h => .inl (s _ _ h)) fun ⟨o, d, h⟩ => .inr ⟨o, d, s _ _ h⟩
theorem TupAt.upd {H : Hp} {a p : Addr} {xs : List V} {o : HO} (h : TupAt H a xs) (n : H p = none) : TupAt (L2.upd H p o) a xs := h.elim (fun q => .inl (by rw [upd_ne (ne_of_none q n)]; exact q)) fun ⟨u, d, q⟩ => .inr ⟨u, d, by rw [upd_ne (ne_of_none q n)]; exact q⟩
theorem TupAt.updN {H : Hp} {a p : Addr} {xs : List V} {o : HO} (h : TupAt H a xs) (n : a ≠ p) : TupAt (L2.upd H p o) a xs := h.elim (fun q => .inl (by rw [upd_ne n]; exact q)) fun ⟨u, d, q⟩ => .inr ⟨u, d, by rw [upd_ne n]; exact q⟩
end Far

namespace Far
open PySem
open SX (S)
/-! ### ways in a tree -/
def Adj (ts : List Tie) (u v : Nm) (k : Int) : Prop := (u, v, k) ∈ ts ∨ (v, u, k) ∈ ts
theorem Adj.symm {ts : List Tie} {u v : Nm} {k : Int} (h : Adj ts u v k) : Adj ts v u k := h.elim .inr .inl
theorem Adj.perm {ts ts' : List Tie} {u v : Nm} {k : Int} (p : ts.Perm ts') (h : Adj ts u v k) : Adj ts' u v k := h.elim (fun h => .inl (p.mem_iff.mp h)) fun h => .inr (p.mem_iff.mp h)
/-- from u to v, no place twice: the places, the length -/
inductive Way (ts : List Tie) (u : Nm) : Nm → List Nm → Int → Prop
  | nil : Way ts u u [u] 0
  | snoc {v w : Nm} {p : List Nm} {L k : Int} : Way ts u v p L → Adj ts v w k → w ∉ p → Way ts u w (p ++ [w]) (L + k)
theorem Way.perm {ts ts' : List Tie} (q : ts.Perm ts') {u v : Nm} {p : List Nm} {L : Int} (h : Way ts u v p L) : Way ts' u v p L := by
  induction h with
  | nil => exact .nil
  | snoc _ ha hn ih => exact .snoc ih (ha.perm q) hn
theorem Way.last {ts : List Tie} {u v : Nm} {p : List Nm} {L : Int} (h : Way ts u v p L) : ∃ q, p = q ++ [v] := by
  cases h with
  | nil => exact ⟨[], rfl⟩
  | snoc _ _ _ => exact ⟨_, rfl⟩
theorem Way.mem {ts : List Tie} {u v : Nm} {p : List Nm} {L : Int} (h : Way ts u v p L) : v ∈ p := by
  obtain ⟨q, rfl⟩ := h.last
  simp
theorem Way.first {ts : List Tie} {u v : Nm} {p : List Nm} {L : Int} (h : Way ts u v p L) : ∃ q, p = u :: q := by
  induction h with
  | nil => exact ⟨[], rfl⟩
  | snoc _ _ _ ih =>
    obtain ⟨q, rfl⟩ := ih
    exact ⟨q ++ [_], rfl⟩
theorem Way.nodup {ts : List Tie} {u v : Nm} {p : List Nm} {L : Int} (h : Way ts u v p L) : p.Nodup := by
  induction h with
  | nil => simp
  | snoc _ _ hn ih => exact nd_snoc' ih hn
theorem Way.inside {ts : List Tie} {pl : List Nm} (ht : ∀ e ∈ ts, e.1 ∈ pl ∧ e.2.1 ∈ pl) {u v : Nm} {p : List Nm} {L : Int} (h : Way ts u v p L) (hu : u ∈ pl) : ∀ x ∈ p, x ∈ pl := by
  induction h with
  | nil =>
    intro x hx
    rw [List.mem_singleton.mp hx]
    exact hu
  | snoc _ ha _ ih =>
    intro x hx
    rcases List.mem_append.mp hx with z | z
    · exact ih x z
    · rw [List.mem_singleton.mp z]
      rcases ha with h | h
      · exact (ht _ h).2
      · exact (ht _ h).1
/-- a place on the way is come to by a way of its own -/
theorem Way.upto {ts : List Tie} {u v x : Nm} {p : List Nm} {L : Int} (h : Way ts u v p L) (hx : x ∈ p) : ∃ q M, Way ts u x q M ∧ ∀ y ∈ q, y ∈ p := by
  induction h with
  | nil =>
    rw [List.mem_singleton.mp hx]
    exact ⟨_, _, .nil, fun _ h => h⟩
  | snoc h1 ha hn ih =>
    rcases List.mem_append.mp hx with z | z
    · obtain ⟨q, M, hq, hs⟩ := ih z
      exact ⟨q, M, hq, fun y hy => List.mem_append_left _ (hs y hy)⟩
    · rw [List.mem_singleton.mp z]
      exact ⟨_, _, .snoc h1 ha hn, fun _ h => h⟩
section leaf
variable {os : List Nm} {es : List Tie} {a b : Nm} {k : Int} {e0 : Tie}
theorem adj_new (hb : ∀ e ∈ es, e.1 ≠ b ∧ e.2.1 ≠ b) (ab : a ≠ b) (he : e0 = (a, b, k) ∨ e0 = (b, a, k)) {x y : Nm} {m : Int} (h : Adj (es ++ [e0]) x y m) :
    (Adj es x y m ∧ x ≠ b ∧ y ≠ b) ∨ (x = a ∧ y = b ∧ m = k) ∨ (x = b ∧ y = a ∧ m = k) := by
  rcases h with h | h <;> rcases List.mem_append.mp h with z | z
  · exact .inl ⟨.inl z, hb _ z⟩
  · have z := List.mem_singleton.mp z
    rcases he with e | e <;> rw [e] at z <;> cases z
    · exact .inr (.inl ⟨rfl, rfl, rfl⟩)
    · exact .inr (.inr ⟨rfl, rfl, rfl⟩)
  · exact .inl ⟨.inr z, (hb _ z).2, (hb _ z).1⟩
  · have z := List.mem_singleton.mp z
    rcases he with e | e <;> rw [e] at z <;> cases z
    · exact .inr (.inr ⟨rfl, rfl, rfl⟩)
    · exact .inr (.inl ⟨rfl, rfl, rfl⟩)
theorem way_old (hb : ∀ e ∈ es, e.1 ≠ b ∧ e.2.1 ≠ b) (ab : a ≠ b) (he : e0 = (a, b, k) ∨ e0 = (b, a, k)) {u v : Nm} {p : List Nm} {L : Int} (h : Way (es ++ [e0]) u v p L) (hu : u ≠ b) :
    (v ≠ b ∧ b ∉ p ∧ Way es u v p L) ∨ (v = b ∧ ∃ q M, p = q ++ [b] ∧ L = M + k ∧ Way es u a q M) := by
  induction h with
  | nil => exact .inl ⟨hu, fun z => hu (List.mem_singleton.mp z).symm, .nil⟩
  | @snoc v w p L m h1 ha hn ih =>
    rcases ih with ⟨hv, hbp, hw⟩ | ⟨hv, q, M, hp, _, hq⟩
    · rcases adj_new hb ab he ha with ⟨ha, _, wb⟩ | ⟨e1, e2, e3⟩ | ⟨e1, _, _⟩
      · refine .inl ⟨wb, fun z => ?_, .snoc hw ha hn⟩
        rcases List.mem_append.mp z with z | z
        · exact hbp z
        · exact wb (List.mem_singleton.mp z).symm
      · subst e1 e2 e3
        exact .inr ⟨rfl, p, L, rfl, rfl, hw⟩
      · exact absurd e1 hv
    · rcases adj_new hb ab he ha with ⟨_, vb, _⟩ | ⟨e1, _, _⟩ | ⟨_, e2, _⟩
      · exact absurd hv vb
      · exact absurd (e1.symm.trans hv) ab
      · refine absurd ?_ hn
        rw [e2, hp]
        exact List.mem_append_left _ hq.mem
theorem way_from (hb : ∀ e ∈ es, e.1 ≠ b ∧ e.2.1 ≠ b) (ab : a ≠ b) (he : e0 = (a, b, k) ∨ e0 = (b, a, k)) {v : Nm} {p : List Nm} {L : Int} (h : Way (es ++ [e0]) b v p L) :
    (v = b ∧ p = [b] ∧ L = 0) ∨ (v ≠ b ∧ ∃ q M, p = b :: q ∧ L = k + M ∧ Way es a v q M) := by
  induction h with
  | nil => exact .inl ⟨rfl, rfl, rfl⟩
  | @snoc v w p L m h1 ha hn ih =>
    rcases ih with ⟨hv, hp, hL⟩ | ⟨hv, q, M, hp, hL, hq⟩
    · rcases adj_new hb ab he ha with ⟨_, vb, _⟩ | ⟨e1, _, _⟩ | ⟨_, e2, e3⟩
      · exact absurd hv vb
      · exact absurd (e1.symm.trans hv) ab
      · subst e2 e3 hp hL
        exact .inr ⟨ab, [w], 0, rfl, by omega, .nil⟩
    · have wb : w ≠ b := fun z => hn (by rw [z, hp]; simp)
      rcases adj_new hb ab he ha with ⟨ha, _, _⟩ | ⟨_, e2, _⟩ | ⟨e1, _, _⟩
      · subst hp hL
        exact .inr ⟨wb, q ++ [w], M + m, rfl, by omega, .snoc hq ha fun z => hn (List.mem_cons.mpr (.inr z))⟩
      · exact absurd e2 wb
      · exact absurd e1 hv
end leaf
theorem Grown.one_way {os : List Nm} {es : List Tie} (g : Grown os es) : ∀ {u v : Nm} {p q : List Nm} {L M : Int}, Way es u v p L → Way es u v q M → p = q ∧ L = M := by
  induction g with
  | one a =>
    intro u v p q L M h1 h2
    cases h1 with
    | nil =>
      cases h2 with
      | nil => exact ⟨rfl, rfl⟩
      | snoc _ ha _ => rcases ha with h | h <;> cases h
    | snoc _ ha _ => rcases ha with h | h <;> cases h
  | @leaf os es a b k e0 g ha hbn he k1 k2 ih =>
    intro u v p q L M h1 h2
    have hb : ∀ e ∈ es, e.1 ≠ b ∧ e.2.1 ≠ b := fun e hm => by
      obtain ⟨i1, i2, _⟩ := g.ties e hm
      exact ⟨fun z => hbn (z ▸ i1), fun z => hbn (z ▸ i2)⟩
    have ab : a ≠ b := fun z => hbn (z ▸ ha)
    by_cases hu : u = b
    · subst hu
      rcases way_from hb ab he h1 with ⟨v1, p1, l1⟩ | ⟨v1, p1, l1, e1, e2, w1⟩ <;> rcases way_from hb ab he h2 with ⟨v2, p2, l2⟩ | ⟨v2, p2, l2, e3, e4, w2⟩
      · exact ⟨p1.trans p2.symm, l1.trans l2.symm⟩
      · exact absurd v1 v2
      · exact absurd v2 v1
      · obtain ⟨z1, z2⟩ := ih w1 w2
        rw [e1, e2, e3, e4, z1, z2]
        exact ⟨rfl, rfl⟩
    · rcases way_old hb ab he h1 hu with ⟨v1, _, w1⟩ | ⟨v1, p1, l1, e1, e2, w1⟩ <;> rcases way_old hb ab he h2 hu with ⟨v2, _, w2⟩ | ⟨v2, p2, l2, e3, e4, w2⟩
      · exact ih w1 w2
      · exact absurd v2 v1
      · exact absurd v1 v2
      · obtain ⟨z1, z2⟩ := ih w1 w2
        rw [e1, e2, e3, e4, z1, z2]
        exact ⟨rfl, rfl⟩
theorem IsTree.one_way {pl : List Nm} {ts : List Tie} (h : IsTree pl ts) {u v : Nm} {p q : List Nm} {L M : Int} (h1 : Way ts u v p L) (h2 : Way ts u v q M) : p = q ∧ L = M := by
  obtain ⟨os, es, g, _, p2⟩ := h
  exact g.one_way (h1.perm p2) (h2.perm p2)
/-- what is closed by ties and holds one place holds all -/
theorem Grown.all_of {os : List Nm} {es : List Tie} (g : Grown os es) : ∀ {F : Nm → Prop}, (∃ u ∈ os, F u) → (∀ x y k, F x → Adj es x y k → F y) → ∀ v ∈ os, F v := by
  induction g with
  | one a =>
    intro F ⟨u, hu, hF⟩ _ v hv
    rw [List.mem_singleton.mp hv, ← List.mem_singleton.mp hu]
    exact hF
  | @leaf os es a b k e0 g ha hbn he k1 k2 ih =>
    intro F ⟨u, hu, hF⟩ cl v hv
    have cab : Adj (es ++ [e0]) a b k := by
      rcases he with e | e
      · exact .inl (by rw [e]; simp)
      · exact .inr (by rw [e]; simp)
    have cl' : ∀ x y m, F x → Adj es x y m → F y := fun x y m hx h => cl x y m hx (h.elim (fun z => .inl (List.mem_append_left _ z)) fun z => .inr (List.mem_append_left _ z))
    have start : ∃ w ∈ os, F w := by
      rcases List.mem_append.mp hu with z | z
      · exact ⟨u, z, hF⟩
      · rw [List.mem_singleton.mp z] at hF
        exact ⟨a, ha, cl b a k hF cab.symm⟩
    have old := ih start cl'
    rcases List.mem_append.mp hv with z | z
    · exact old v z
    · rw [List.mem_singleton.mp z]
      exact cl a b k (old a ha) cab
theorem IsTree.all_of {pl : List Nm} {ts : List Tie} (h : IsTree pl ts) {F : Nm → Prop} {u : Nm} (hu : u ∈ pl) (hF : F u) (cl : ∀ x y k, F x → Adj ts x y k → F y) : ∀ v ∈ pl, F v := by
  obtain ⟨os, es, g, p1, p2⟩ := h
  intro v hv
  exact g.all_of ⟨u, p1.mem_iff.mp hu, hF⟩ (fun x y k hx ha => cl x y k hx (ha.perm p2.symm)) v (p1.mem_iff.mp hv)
theorem IsTree.way {pl : List Nm} {ts : List Tie} (h : IsTree pl ts) {u v : Nm} (hu : u ∈ pl) (hv : v ∈ pl) : ∃ p L, Way ts u v p L := by
  refine h.all_of (F := fun v => ∃ p L, Way ts u v p L) hu ⟨_, _, .nil⟩ (fun x y k ⟨p, L, hw⟩ ha => ?_) v hv
  by_cases hy : y ∈ p
  · obtain ⟨q, M, hq, _⟩ := hw.upto hy
    exact ⟨q, M, hq⟩
  · exact ⟨_, _, .snoc hw ha hy⟩
open Classical in
/-- the way and its length -/
noncomputable def wayOf (ts : List Tie) (u v : Nm) : List Nm × Int := if h : ∃ x : List Nm × Int, Way ts u v x.1 x.2 then h.choose else ([], 0)
noncomputable def path (ts : List Tie) (u v : Nm) : List Nm := (wayOf ts u v).1
noncomputable def dist (ts : List Tie) (u v : Nm) : Int := (wayOf ts u v).2
theorem IsTree.is_way {pl : List Nm} {ts : List Tie} (h : IsTree pl ts) {u v : Nm} {p : List Nm} {L : Int} (w : Way ts u v p L) : path ts u v = p ∧ dist ts u v = L := by
  have hx : ∃ x : List Nm × Int, Way ts u v x.1 x.2 := ⟨(p, L), w⟩
  unfold path dist wayOf
  rw [dif_pos hx]
  exact h.one_way hx.choose_spec w
theorem IsTree.the_way {pl : List Nm} {ts : List Tie} (h : IsTree pl ts) {u v : Nm} (hu : u ∈ pl) (hv : v ∈ pl) : Way ts u v (path ts u v) (dist ts u v) := by
  obtain ⟨p, L, w⟩ := h.way hu hv
  obtain ⟨e1, e2⟩ := h.is_way w
  rw [e1, e2]
  exact w
/-- the way back -/
theorem Way.cons {ts : List Tie} {u v w : Nm} {p : List Nm} {L k : Int} (ha : Adj ts w u k) (h : Way ts u v p L) (hn : w ∉ p) : Way ts w v (w :: p) (k + L) := by
  induction h with
  | nil =>
    have := Way.snoc (ts := ts) (u := w) .nil ha (by simpa using fun z => hn (by rw [z]; simp))
    simpa using this
  | @snoc v x p L m h1 hb hx ih =>
    have hn1 : w ∉ p := fun z => hn (List.mem_append_left _ z)
    have hxw : x ∉ w :: p := fun z => by
      rcases List.mem_cons.mp z with z | z
      · exact hn (by rw [z]; simp)
      · exact hx z
    have := Way.snoc (ih hn1) hb hxw
    rw [← Int.add_assoc]
    exact this
theorem Way.rev {ts : List Tie} {u v : Nm} {p : List Nm} {L : Int} (h : Way ts u v p L) : Way ts v u p.reverse L := by
  induction h with
  | nil => exact .nil
  | @snoc v w p L k h1 ha hn ih =>
    rw [List.reverse_append]
    have := Way.cons ha.symm ih (fun z => hn (List.mem_reverse.mp z))
    rw [Int.add_comm L k]
    exact this
theorem IsTree.dist_symm {pl : List Nm} {ts : List Tie} (h : IsTree pl ts) {u v : Nm} (hu : u ∈ pl) (hv : v ∈ pl) : dist ts u v = dist ts v u ∧ path ts v u = (path ts u v).reverse := by
  obtain ⟨e1, e2⟩ := h.is_way (h.the_way hu hv).rev
  exact ⟨e2.symm, e1⟩
theorem IsTree.dist_self {pl : List Nm} {ts : List Tie} (h : IsTree pl ts) (u : Nm) : dist ts u u = 0 ∧ path ts u u = [u] := by
  obtain ⟨e1, e2⟩ := h.is_way (u := u) .nil
  exact ⟨e2, e1⟩
theorem Way.nonneg {ts : List Tie} (hk : ∀ e ∈ ts, 1 ≤ e.2.2) {u v : Nm} {p : List Nm} {L : Int} (h : Way ts u v p L) : 0 ≤ L ∧ (p.length : Int) ≤ L + 1 := by
  induction h with
  | nil => simp
  | @snoc v w p L k _ ha _ ih =>
    have h1 : 1 ≤ k := ha.elim (fun z => hk _ z) fun z => hk _ z
    rw [List.length_append, List.length_singleton]
    omega
section
open PySem.Spec PyProof.Rows L2
/-! ### dicts by places -/
def dkm (fs : List Nm) (f : Nm → V) : List (Key × V) := fs.map fun l => (Sum.inr (S l), f l)
theorem dkm_get {f : Nm → V} {x : Nm} : ∀ {fs : List Nm}, x ∈ fs → valV (dkm fs f) (Sum.inr (S x)) = some (f x)
  | [], h => by simp at h
  | a :: r, h => by
    show valV ((Sum.inr (S a), f a) :: dkm r f) _ = _
    by_cases e : a = x
    · subst e
      exact valV_pos rfl
    · rw [valV_neg (fun z => e (SX.S_inj (Sum.inr.inj z)))]
      refine dkm_get ?_
      rcases List.mem_cons.mp h with z | z
      · exact absurd z.symm e
      · exact z
theorem dkm_no {f : Nm → V} {x : Nm} : ∀ {fs : List Nm}, x ∉ fs → valV (dkm fs f) (Sum.inr (S x)) = none
  | [], _ => rfl
  | a :: r, h => by
    show valV ((Sum.inr (S a), f a) :: dkm r f) _ = _
    rw [valV_neg (fun z => h (List.mem_cons.mpr (.inl (SX.S_inj (Sum.inr.inj z)).symm)))]
    exact dkm_no fun z => h (List.mem_cons.mpr (.inr z))
theorem dkm_cong {f g : Nm → V} {fs : List Nm} (h : ∀ x ∈ fs, f x = g x) : dkm fs f = dkm fs g := List.map_congr_left fun a ha => by rw [h a ha]
theorem dkm_new {f : Nm → V} {x : Nm} {v : V} {fs : List Nm} (h : x ∉ fs) : putK (dkm fs f) (Sum.inr (S x)) v = dkm (fs ++ [x]) (fun z => if z = x then v else f z) := by
  rw [putK_new _ (dkm_no h)]
  unfold dkm
  rw [List.map_append]
  have e : fs.map (fun l => ((Sum.inr (S l) : Key), f l)) = fs.map (fun l => ((Sum.inr (S l) : Key), if l = x then v else f l)) := List.map_congr_left fun a ha => by rw [if_neg (fun (z : a = x) => h (z ▸ ha))]
  rw [e]
  show _ = _ ++ [((Sum.inr (S x) : Key), if x = x then v else f x)]
  rw [if_pos rfl]
theorem dkm_some {f : Nm → V} {x : Nm} {fs : List Nm} : (valV (dkm fs f) (Sum.inr (S x))).isSome = decide (x ∈ fs) := by
  by_cases h : x ∈ fs
  · rw [dkm_get h, decide_eq_true h]
    rfl
  · rw [dkm_no h, decide_eq_false h]
    rfl
theorem tkD {H : Hp} {D : Addr} {kvs : List (Key × V)} {o : HO} (h : H D = some (.dK kvs)) : TK H (upd H D o) :=
  ⟨fun b xs z => by rw [upd_ne (ne_of z h (by intro q; cases q))]; exact z, fun b u xs z => by rw [upd_ne (ne_of z h (by intro q; cases q))]; exact z⟩
/-! ### a walk through a tree: fs come to, st to be gone on from, ex being gone on from -/
structure Wk (pl : List Nm) (ts : List Tie) (u : Nm) (fs st : List Nm) (prev : Nm → Nm) (ex : Nm → Prop) : Prop where
  nd : fs.Nodup
  sub : ∀ x ∈ fs, x ∈ pl
  sti : ∀ x ∈ st, x ∈ fs
  hu : u ∈ fs
  cl : ∀ x ∈ fs, ∀ y ∈ path ts u x, y ∈ fs
  pr : ∀ x ∈ fs, x ≠ u → prev x ∈ fs ∧ path ts u x = path ts u (prev x) ++ [x]
  done : ∀ x ∈ fs, x ∉ st → ¬ ex x → ∀ y k, Adj ts x y k → y ∈ fs
theorem Wk.start {pl : List Nm} {ts : List Tie} (h : IsTree pl ts) {u : Nm} (hu : u ∈ pl) : Wk pl ts u [u] [u] (fun _ => u) (fun _ => False) := by
  refine ⟨by simp, fun x hx => ?_, fun x hx => hx, by simp, fun x hx => ?_, fun x hx n => ?_, fun x hx n => absurd hx n⟩
  · rw [List.mem_singleton.mp hx]
    exact hu
  · rw [List.mem_singleton.mp hx, (h.dist_self u).2]
    exact fun y hy => hy
  · exact absurd (List.mem_singleton.mp hx) n
theorem Wk.pop {pl : List Nm} {ts : List Tie} {u h : Nm} {fs st : List Nm} {prev : Nm → Nm} (w : Wk pl ts u fs (st ++ [h]) prev (fun _ => False)) : h ∈ fs ∧ Wk pl ts u fs st prev (fun x => x = h) := by
  refine ⟨w.sti h (by simp), w.nd, w.sub, fun x hx => w.sti x (List.mem_append_left _ hx), w.hu, w.cl, w.pr, fun x hx n ne => w.done x hx (fun z => ?_) (fun z => z)⟩
  rcases List.mem_append.mp z with z | z
  · exact n z
  · exact ne (List.mem_singleton.mp z)
theorem Wk.push {pl : List Nm} {ts : List Tie} (tr : IsTree pl ts) {u h y : Nm} {k : Int} {fs st : List Nm} {prev : Nm → Nm} {ex : Nm → Prop} (w : Wk pl ts u fs st prev ex) (hh : h ∈ fs) (ha : Adj ts h y k) (hy : y ∉ fs) :
    dist ts u y = dist ts u h + k ∧ Wk pl ts u (fs ++ [y]) (st ++ [y]) (fun z => if z = y then h else prev z) ex := by
  have wh := tr.the_way (w.sub u w.hu) (w.sub h hh)
  have wy := Way.snoc wh ha fun z => hy (w.cl h hh y z)
  obtain ⟨e1, e2⟩ := tr.is_way wy
  have yp : y ∈ pl := by
    rcases ha with z | z
    · exact (tr.ties _ z).2.1
    · exact (tr.ties _ z).1
  refine ⟨e2, nd_snoc' w.nd hy, fun x hx => ?_, fun x hx => ?_, List.mem_append_left _ w.hu, fun x hx z hz => ?_, fun x hx n => ?_, fun x hx n ne z m hz => ?_⟩
  · rcases List.mem_append.mp hx with z | z
    · exact w.sub x z
    · rw [List.mem_singleton.mp z]
      exact yp
  · rcases List.mem_append.mp hx with z | z
    · exact List.mem_append_left _ (w.sti x z)
    · exact List.mem_append_right _ z
  · rcases List.mem_append.mp hx with q | q
    · exact List.mem_append_left _ (w.cl x q z hz)
    · rw [List.mem_singleton.mp q, e1] at hz
      rcases List.mem_append.mp hz with r | r
      · exact List.mem_append_left _ (w.cl h hh z r)
      · exact List.mem_append_right _ r
  · rcases List.mem_append.mp hx with q | q
    · have xy : x ≠ y := fun e => hy (e ▸ q)
      show (if x = y then h else prev x) ∈ fs ++ [y] ∧ path ts u x = path ts u (if x = y then h else prev x) ++ [x]
      rw [if_neg xy]
      exact ⟨List.mem_append_left _ (w.pr x q n).1, (w.pr x q n).2⟩
    · have xy := List.mem_singleton.mp q
      show (if x = y then h else prev x) ∈ fs ++ [y] ∧ path ts u x = path ts u (if x = y then h else prev x) ++ [x]
      rw [if_pos xy, xy]
      exact ⟨List.mem_append_left _ hh, e1⟩
  · rcases List.mem_append.mp hx with q | q
    · exact List.mem_append_left _ (w.done x q (fun r => n (List.mem_append_left _ r)) ne z m hz)
    · exact absurd (List.mem_append_right _ q) n
theorem Wk.shut {pl : List Nm} {ts : List Tie} {u h : Nm} {fs st : List Nm} {prev : Nm → Nm} (w : Wk pl ts u fs st prev (fun x => x = h)) (hd : ∀ y k, Adj ts h y k → y ∈ fs) : Wk pl ts u fs st prev (fun _ => False) :=
  ⟨w.nd, w.sub, w.sti, w.hu, w.cl, w.pr, fun x hx n _ y k ha => by
    by_cases e : x = h
    · rw [e] at ha
      exact hd y k ha
    · exact w.done x hx n e y k ha⟩
theorem Wk.all {pl : List Nm} {ts : List Tie} (tr : IsTree pl ts) {u : Nm} {fs : List Nm} {prev : Nm → Nm} (w : Wk pl ts u fs [] prev (fun _ => False)) : ∀ x, x ∈ fs ↔ x ∈ pl := fun x =>
  ⟨w.sub x, fun hx => tr.all_of (F := fun z => z ∈ fs) (w.sub u w.hu) w.hu (fun a b k ha hab => w.done a ha (by simp) (fun z => z) b k hab) x hx⟩
structure Fine (pl : List Nm) (ts : List Tie) : Prop where
  tree : IsTree pl ts
  ok : ∀ l ∈ pl, NameOk l
  len : pl.length ≤ 1000
theorem Fine.okT {pl : List Nm} {ts : List Tie} (F : Fine pl ts) {e : Tie} (he : e ∈ ts) : NameOk e.1 ∧ NameOk e.2.1 := by
  obtain ⟨i1, i2, _⟩ := F.tree.ties e he
  exact ⟨F.ok _ i1, F.ok _ i2⟩
theorem Fine.ne {pl : List Nm} {ts : List Tie} (F : Fine pl ts) : pl ≠ [] := fun z => by
  have := F.tree.len
  rw [z] at this
  simp at this
theorem dt_pair {H : Hp} {v : V} {d e : PyData} (h : Dt H v (.tuple [d, e])) (ne : ∀ l : Nm, e ≠ strD l) : ∃ (a : Addr) (x y : V), v = .ref a ∧ H a = some (.tup [x, y]) ∧ Dt H x d ∧ Dt H y e := by
  cases h with
  | tup ha hs =>
    cases hs with
    | cons h1 hr =>
      cases hr with
      | cons h2 hn =>
        cases hn
        exact ⟨_, _, _, rfl, ha, h1, h2⟩
  | @tupZ a pl _ o e _ _ _ =>
    exfalso
    cases pl with
    | nil => cases e
    | cons l r =>
      cases r with
      | nil => cases e
      | cons l2 r2 => exact ne l2 (List.cons.inj (List.cons.inj e).2).1
theorem dt_tup {H : Hp} {v : V} {ds : List PyData} (h : Dt H v (.tuple ds)) (ne : ds ≠ [] → ∃ d ∈ ds, ∀ l : Nm, d ≠ strD l) : ∃ (a : Addr) (xs : List V), v = .ref a ∧ H a = some (.tup xs) ∧ DtAll H xs ds := by
  cases h with
  | tup ha hs => exact ⟨_, _, rfl, ha, hs⟩
  | @tupZ a pl _ o e n _ _ =>
    exfalso
    obtain ⟨d, hd, no⟩ := ne (by rw [e]; simpa using n)
    rw [e] at hd
    obtain ⟨l, _, z⟩ := List.mem_map.mp hd
    exact no l z.symm
theorem dt_names {H : Hp} {v : V} {pl : List Nm} (h : Dt H v (.tuple (pl.map strD))) : ∃ a : Addr, v = .ref a ∧ TupAt H a ((pl.map S).map V.str) := by
  have inj : ∀ {p q : List Nm}, p.map strD = q.map strD → p = q := by
    intro p
    induction p with
    | nil =>
      intro q e
      cases q with
      | nil => rfl
      | cons _ _ => cases e
    | cons a r ih =>
      intro q e
      cases q with
      | nil => cases e
      | cons b t =>
        have e' := List.cons.inj e
        have h1 : S a = S b := PyData.str.inj e'.1
        rw [SX.S_inj h1, ih e'.2]
  generalize hd : pl.map strD = ds at h
  cases h with
  | tup ha hs =>
    subst hd
    rw [DtAll.strs hs] at ha
    exact ⟨_, rfl, .inl ha⟩
  | @tupZ a pl2 _ o e n d ha =>
    rw [← inj (hd.trans e)] at ha
    exact ⟨_, rfl, .inr ⟨o, d, ha⟩⟩
theorem tie_no (e : Tie) (l : Nm) : tieD e ≠ strD l := fun z => nomatch z
/-- a tree in the heap: its parts -/
theorem dt_tree {H : Hp} {v : V} {pl : List Nm} {ts : List Tie} (h : Dt H v (treeD pl ts)) : ∃ (t a b : Addr) (vs : List V), v = .ref t ∧ H t = some (.tup [.ref a, .ref b]) ∧ TupAt H a ((pl.map S).map V.str) ∧ H b = some (.tup vs) ∧ DtAll H vs (ts.map tieD) := by
  obtain ⟨t, x, y, rfl, ht, hx, hy⟩ := dt_pair h fun l z => nomatch z
  obtain ⟨a, rfl, ha⟩ := dt_names hx
  obtain ⟨b, vs, rfl, hb, hv⟩ := dt_tup hy fun n => by
    cases ts with
    | nil => exact absurd rfl n
    | cons e r => exact ⟨tieD e, List.mem_cons_self .., tie_no e⟩
  exact ⟨t, a, b, vs, rfl, ht, ha, hb, hv⟩
theorem dt_tie {H : Hp} {v : V} {e : Tie} (h : Dt H v (tieD e)) : ∃ t : Addr, v = .ref t ∧ H t = some (.tup [.str (S e.1), .str (S e.2.1), .int e.2.2]) := by
  obtain ⟨t, xs, rfl, ht, hs⟩ := dt_tup h fun _ => ⟨.int e.2.2, by simp [tieD], fun l z => nomatch z⟩
  cases hs with
  | cons h1 hr =>
    cases hr with
    | cons h2 hr =>
      cases hr with
      | cons h3 hr =>
        cases hr
        cases h1
        cases h2
        cases h3
        exact ⟨t, rfl, ht⟩
end
end Far

namespace Far
open PySem PySem.Spec PyProof.Rows L2
section
variable {X : Cx}
theorem countU {x : V} : ∀ {ys : List V} {us : List Value}, Vals ys us → ys.all flatV = true → us.countP (eqU x) = ys.countP (fun y => eqV y x)
  | _, _, .nil, _ => rfl
  | y :: ys, u :: us, .cons r t, f => by
    rw [List.all_cons, Bool.and_eq_true] at f
    rw [List.countP_cons, List.countP_cons, eqU_of r f.1, countU t f.2]
/-- list.count of a flat value in a list of flat values -/
def rCountV (K : PySem.W.Frag) : V → List V → Hp → VK → Prop := fun x xs H Q => ∃ (p : Addr) (ys : List V) (y : V), x = .ref p ∧ xs = [y] ∧ SqL K H p ys ∧ flatV y = true ∧ ys.all flatV = true ∧ Q (.int (ys.countP (fun z => eqV z y) : Nat)) H
theorem mt_countV {K : PySem.W.Frag} (eK : X.K = K := by rfl) : MtR X "list.count" (rCountV K) := by
  subst eK
  intro pins s σ H x xs v us Q I rx rxs h
  obtain ⟨p, ys, y, rfl, rfl, hs, fy, fys, q⟩ := h
  cases rx
  obtain ⟨u, rfl, ru⟩ := rxs.one
  obtain ⟨its, rv, ⟨⟨cl, di, da, so⟩, n, ho, hc, hdn, hd⟩, hl⟩ := I.list hs
  simp only at hc hd
  subst hc hd
  refine call_meets PySem.F.slot_list_count ⟨_, ho, rfl⟩ PySem.F.entry_list_count (PySem.F.args_list_count_2 _ _) (SeqAt.list_countAt p its.toArray n di so u (eqU y)) ⟨ho, fun z hz => mem_eqAt ru fy rv fys z (by simpa using hz), ?_⟩
  refine ⟨.int (ys.countP (fun z => eqV z y) : Nat), H, I.tok _, ⟨s.toks, ?_⟩, q⟩
  have e : its.toArray.toList.countP (eqU y) = ys.countP (fun z => eqV z y) := countU rv fys
  rw [e]

/-! ### enumerate(xs, start=c) -/
theorem callWith_typeK {M : Model} {A : Around} {E : Value → Shared → Prop} {s : Shared} {pos : Pos} {T : String} {env : Env} {e : Expr} {rest : List Expr} {kws : List Keyword} {Q : Value → Shared → Prop}
    (h : wpAny M A (spliced (backTo pos (starEach (e :: rest) env))) (fun vs s1 => wpAny M A (evalAll ((backToKw pos (keywordEach kws env)).map (·.2)))
      (fun ws s2 => wpAny M A (call (.type T) vs (((backToKw pos (keywordEach kws env)).filterMap (·.1)).zip ws)) Q E s2) E s1) E s)
    (he : backTo pos (starEach (e :: rest) env) = (false, eval e env) :: backTo pos (starEach rest env) := by rfl)
    (hp : (backTo pos (starEach (e :: rest) env)).any (·.1) = false := by rfl)
    (ha : (backToKw pos (keywordEach kws env)).all (·.1.isSome) = true := by rfl)
    (hk : (backToKw pos (keywordEach kws env)).any (·.1.isNone) = false := by rfl) :
    wpAny M A (callWith pos (.type T) [] (backTo pos (starEach (e :: rest) env)) (backToKw pos (keywordEach kws env))) Q E s := by
  unfold callWith
  refine wpAny_bind (wpAny_holding (wpAny_mono (Q := fun a s1 => wpAny M A (call (.type T) ([] ++ a.pos) a.kw) Q E s1) ?_ (fun a s1 h1 => wpAny_bind (wpAny_standAt ?_)) fun _ _ x => x))
  · rw [he] at h ⊢
    exact evalArgs_kwB ha h
  · simp only [hp, hk, Bool.or_false]
    exact wpAny_bind (wpAny_pure (wpAny_bind (wpAny_mono h1 (fun r s2 hr => wpAny_bind (wpAny_holding (wpAny_point (wpAny_pure hr)))) fun _ _ x => x)))
/-- the pairs (c + i, item) of the list at a as it stands at each turn -/
def Ites (K : PySem.W.Frag) (a : Addr) (c : Int) : It :=
  ⟨fun i H => ∃ (xs : List V) (x : V), SqL K H a xs ∧ xs[i]? = some x,
   fun i H v H' => ∃ T x, v = .ref T ∧ H T = none ∧ H' = upd H T (.tup [.int (c + (i : Nat)), x]) ∧ ∀ xs, SqL K H a xs → xs[i]? = some x,
   fun i H => ∃ xs : List V, SqL K H a xs ∧ xs.length ≤ i⟩
theorem turn_enumS {P : Program} {w : World} {K : PySem.W.Frag} {elts : List Expr} {kk : Nat} {tpos : Pos} (a e it : Addr) (c : Int) :
    Turn P w K (.Tuple elts kk tpos) (Ites K a c) [e, it] e (fun i h => (∃ o, IsEnum h e it (c + ((i : Nat) : Int)) o) ∧ h.IsListIter it a i ∧ e ≠ it ∧ a ≠ it) where
  mem := by simp
  obj := fun i h st b hb => by
    obtain ⟨⟨o', he⟩, ⟨o, ho, hc, hd⟩, _⟩ := st
    rcases (show b = e ∨ b = it by simpa using hb) with rfl | rfl
    · exact ⟨_, he, fun v q => nomatch q⟩
    · exact ⟨o, ho, fun v q => by rw [hd] at q; cases q⟩
  keep := fun i h h' ⟨⟨o, he⟩, hi, hne⟩ k => ⟨⟨o, k e (by simp) _ he⟩, hi.at fun o q => k it (by simp) o q, hne⟩
  item := by
    intro X hP hw hK hc i pins s σ H E I hf st hg
    subst hP hw hK
    obtain ⟨⟨old, he⟩, hit, hne, hna⟩ := st
    obtain ⟨xs, x, hq, hx⟩ := hg
    obtain ⟨its, rv, p, hz⟩ := I.list hq
    obtain ⟨u, hu, ru⟩ := rv.get hx
    have hel : e < s.heap.objs.size := Heap.lt_size he
    have hil : it < s.heap.objs.size := by
      obtain ⟨_, q, _⟩ := hit
      exact Heap.lt_size q
    have hea : e ∉ [it, a] := by
      intro hm
      rcases List.mem_cons.mp hm with z | z
      · exact hne z
      · have z := List.mem_singleton.mp z
        obtain ⟨o, m, q, _⟩ := p.isList
        rw [← z, he] at m
        cases m
        have q : Value.type "enumerate" = Value.type "list" := q
        exact absurd q (by decide)
    have hlt : i < its.toArray.size := by
      have := (List.getElem?_eq_some_iff.mp hu).1
      simpa using this
    refine wpAny_pyNext_enum_itemC (Draws.list (A := X.A.in1) (I.ok.hd hc) it a hna its.toArray) he ⟨hit, p.isList⟩ hlt hne hea fun x' h' tk hx' ho hst' hT hsz hk => ?_
    have ex : x' = u := by
      have : its.toArray[i]? = some u := by simpa using hu
      exact Option.some.inj (hx'.symm.trans this)
    subst ex
    refine ⟨_, rfl, wpAny_letOwnedTupleGo_enum (s := { s with heap := h', toks := tk + 1 }) ho fun h2 he2 sb => ?_⟩
    have hT2 : h2.get? s.heap.objs.size = some { cls := .type "tuple", data := .seq #[.int (c + (i : Nat)) tk, x'] } := (sb.2 _ (Nat.ne_of_gt hel)).trans hT
    have new : ObjOk X.prog X.w (upd H s.heap.objs.size (.tup [.int (c + (i : Nat)), x])) h2 s.heap.objs.size (.tup [.int (c + (i : Nat)), x]) :=
      ⟨by show 2 ≤ sizeLine; decide, [.int (c + (i : Nat)) tk, x'], .cons ⟨_, rfl⟩ (.cons ru .nil), ⟨_, hT2, rfl, _, rfl⟩⟩
    have I1 : Inv X pins σ (upd H s.heap.objs.size (.tup [.int (c + (i : Nat)), x])) { s with heap := h2, toks := tk + 1 } :=
      I.turnedNew (ch := [e, it]) (fun b ob hb q => (sb.2 b (fun z => hb (by simp [z]))).trans (hk b ob (fun z => hb (by simp [z])) (fun z => hb (by simp [z])) q)) hf (Nat.le_refl _) new
    refine ⟨.ref s.heap.objs.size, _, I1, rfl, ⟨_, x, rfl, I.hok.fresh (Nat.le_refl _), rfl, fun ys hy => by rw [I.list_inj hy hq]; exact hx⟩, ⟨⟨x', ?_⟩, hst'.1.at fun o q => (sb.2 it (Ne.symm hne)).trans q, hne, hna⟩, fun b hb => ?_⟩
    · rw [show c + ((i + 1 : Nat) : Int) = c + (i : Nat) + 1 by omega]
      exact he2
    · have hb' : b < s.heap.objs.size := by
        rcases (show b = e ∨ b = it by simpa using hb) with z | z
        · rw [z]; exact hel
        · rw [z]; exact hil
      rw [upd_ne (Nat.ne_of_lt hb')]
      exact (hf b hb).1
  done := by
    intro X hP hw hK hc i pins s σ H E I hf st hg
    subst hP hw hK
    obtain ⟨⟨old, he⟩, hit, hne, hna⟩ := st
    obtain ⟨xs, hq, hx⟩ := hg
    obtain ⟨its, rv, p, hz⟩ := I.list hq
    obtain ⟨f0, f1, f2, f3, f4, f5⟩ := hf it (by simp)
    have hl := rv.length
    have D : Draws X.prog X.w X.A.in1 it [it, a] i (fun _ _ => True) (fun j h => (h.IsListIter it a j ∧ h.IsList a its.toArray) ∧ j = i) :=
      { live := fun _ _ st => let ⟨o, ho, _⟩ := st.1.1; ⟨o, ho⟩
        frame := fun _ _ _ st hk => ⟨⟨st.1.1.at fun o e => hk it (by simp) o e, st.1.2.at fun o e => hk a (by simp) o e⟩, st.2⟩
        item := fun j _ _ _ hj st _ => absurd st.2 (by omega)
        done := fun s Q E st hE => wpAny_nextOf_list_end (I.ok.hd hc) st.1.1 st.1.2 (by simp; omega) hE }
    exact wpAny_pyNext_enum_endD D he ⟨⟨hit, p.isList⟩, rfl⟩ fun h' eb => ⟨rfl, I.turned (t' := s.toks) (fun b o hb q => eb b o hb q) f0 f1 f3 f4 f5⟩
  self := fun A i s Q E st h => by
    obtain ⟨⟨_, he⟩, _⟩ := st
    exact wpAny_pyIter_enum he h
/-- for .. in enumerate(xs, start=c) -/
def iEnumS (K : PySem.W.Frag) (c : Int) (ta : TA) : TI := fun σ H R => ta σ H fun vs H1 => ∃ a xs, vs = [.ref a] ∧ SqL K H1 a xs ∧ R (Ites K a c) H1
theorem pi_enumS {e : Expr} {ta : TA} {p pos tpos kp cp : Pos} {elts : List Expr} {kk j : Nat} {c : Int} (hg : Gl X "enumerate") (hm : X.mg "enumerate" = none) (ha : PA X [e] ta) (c0 : -(2 ^ 63) ≤ c) (c1 : c < 2 ^ 63) (hs : starEach [e] X.env = [(false, eval e X.env)] := by rfl) :
    PI X (.Tuple elts kk tpos) (.Call (.Name "enumerate" p) [e] [⟨some (Str.ofString "start"), .Constant (.int c) j cp, kp⟩] pos) (iEnumS X.K c ta) := by
  refine ⟨fun pins s σ H R I h => ?_⟩
  show wpAny _ _ (eval (.Name "enumerate" p) X.env >>= _) _ _ _
  refine wpAny_bind (ld_blt I hg hm boot_enumerate (callWith_typeK (thn (ha.run pos pins s σ H _ I h) fun us s1 ⟨vs, H1, I1, r1, q1⟩ => kws_cons (wpAny_Constant_int (kws_nil ?_))) ?_ ?_ ?_ ?_))
  · obtain ⟨a, xs, ex, hq, q⟩ := q1
    subst ex
    cases r1 with
    | cons r rr =>
      cases rr
      cases r
      obtain ⟨its, rv, p', hz⟩ := I1.list hq
      show wpAny _ _ (call (.type "enumerate") [.ref a] [(Str.ofString "start", .int c s1.toks)]) _ _ _
      refine enum_begins_start (s := { s1 with toks := s1.toks + 1 }) (begins_list a its.toArray) p'.isList c0 c1 fun h' he hit hsz hk => wpAny_pyIter_enum he ?_
      have I2 : Inv X pins σ H1 { s1 with heap := h', toks := s1.toks + 1 } := I1.kept (t' := s1.toks + 1) hk
      have hal : a < s1.heap.objs.size := by
        obtain ⟨o, m, _⟩ := p'.isList
        exact Heap.lt_size m
      refine ⟨s1.heap.objs.size + 1, [s1.heap.objs.size + 1, s1.heap.objs.size], _, _, H1, rfl, I2, turn_enumS a (s1.heap.objs.size + 1) s1.heap.objs.size c, ⟨⟨.none, by simpa using he⟩, ⟨_, hit, rfl, rfl⟩, Nat.succ_ne_self _, Nat.ne_of_lt hal⟩, fun b hb => ?_, q⟩
      have hle : s1.heap.objs.size ≤ b := by
        rcases (show b = s1.heap.objs.size + 1 ∨ b = s1.heap.objs.size by simpa using hb) with z | z
        · rw [z]; exact Nat.le_add_right _ _
        · rw [z]; exact Nat.le_refl _
      exact I1.fpOk hle (I1.hok.fresh hle)
  · rw [hs]
    rfl
  · rw [hs]
    rfl
  all_goals rfl
end
end Far

namespace Far
open PySem PySem.Spec PyProof.Rows L2
section
variable {X : Cx}
/-- name = {k: v for ..} on one line, the name a local one -/
theorem ps_setDc {i : Nat} {y : Str} {py spos pos : Pos} {kx vx tg iter : Expr} {ifs : List Expr} {scope : Scope} {own : List (Str × Nat)} {wi : TI} {g : TG} {tt : TT} {tk tv : TE}
    (hc : X.calm = true) (hN : X.N.Nodup) (hy : X.N[i]? = some y) (hyl : X.env.scope.names.lookup y = some .local) (hsw : swapsWith (.DictComp kx vx [⟨tg, iter, ifs, 0⟩] scope pos) (some (.Name y py)) spos.line X.env = pure true)
    (hi : PI X tg iter wi) (ok : BlkOk X.N X.env.scope scope own)
    (hg : ∀ (s : Shared) (H : Hp) (C : Addr) (l : List (Str × Addr)) (fp : List Addr), PG (X.blk s H scope (compEnvC scope l C X.env) fp) tg g)
    (ht : ∀ (s : Shared) (H : Hp) (C : Addr) (l : List (Str × Addr)) (fp : List Addr), PTs (X.blk s H scope (compEnvC scope l C X.env) fp) ifs tt)
    (hk : ∀ (s : Shared) (H : Hp) (C : Addr) (l : List (Str × Addr)) (fp : List Addr), PE (X.blk s H scope (compEnvC scope l C X.env) fp) kx tk)
    (hv : ∀ (s : Shared) (H : Hp) (C : Addr) (l : List (Str × Addr)) (fp : List Addr), PE (X.blk s H scope (compEnvC scope l C X.env) fp) vx tv)
    (hs : ∀ x, foldedSetIterable iter X.env x = pure x := by intro _; rfl) : PS X (.Assign [.Name y py] (.DictComp kx vx [⟨tg, iter, ifs, 0⟩] scope pos) spos) (tAsg (tDc wi g tt tk tv (own.map (·.2))) (gName i)) := by
  refine ⟨fun pins s σ H D I h => ?_⟩
  replace h : tDc wi g tt tk tv (own.map (·.2)) σ H (fun v H1 => gName i v σ H1 D.nx) := h
  rw [exec_Assign_Name_used _ _ _ _ hsw]
  refine wpAny_bind (wpAny_standAt (wpAny_bind ?_))
  show wpAny _ X.A (do let _ ← comprehension (.DictComp kx vx [⟨tg, iter, ifs, 0⟩] scope pos) scope X.env (firstIterPos [⟨tg, iter, ifs, 0⟩] pos) newDict false (eval iter X.env) (some (assign (.Name y py) X.env))) _ _ s
  refine wpAny_bind (thn (dc_core (Qf := fun _ s1 => SP X pins D .next s1) hc hN I hi ok hg ht hk hv hs h fun L C s1 m H1 I1 q hn f => ?_) fun _ s1 z => wpAny_pure (wpAny_pure z))
  show wpAny _ _ (assign (.Name y py) X.env (.ref L)) _ _ _
  obtain ⟨f0, f1, f2, f3, f4, f5⟩ := f
  refine wpAny_assign_Name (store_ok2 (v := V.ref L) I1 hN hy (.inl hyl) rfl (fun s2 I2 ⟨a, sb, ha⟩ => ⟨m, hn.sameBut sb ?_, fun h3 sb3 => ?_⟩) (.inr hyl))
  · rcases ha with z | z
    · exact z ▸ f1
    · exact fun e => f4 y a z e.symm
  · exact ⟨_, H1, I2.turned (t' := s2.toks) (fun b o hb e => (sb3.2 b hb).trans e) f0 f1 f3 f4 f5, q⟩
theorem swD_true {kx vx : Expr} {gs : List Comprehension} {scope : Scope} {pos py : Pos} {y : Str} {l : Nat} {env : Env} (hk : env.scope.kind = .function) (hy : env.scope.names.lookup y = some .local) (hl : (py.line == pos.line) = true)
    (ha : (scope.names.any fun (n, k) => n == y && (k == .local || k == .cell)) = false) : swapsWith (.DictComp kx vx gs scope pos) (some (.Name y py)) l env = pure true := by
  have e1 : env.kindOf y = some .local := hy
  have e2 : env.blockKind = .function := by unfold Env.blockKind; rw [hk]; rfl
  unfold swapsWith
  simp only [e2, e1, ha, Expr.pos, hl]
  rfl
end
end Far

namespace Far
open PySem PySem.Spec PyProof.Rows L2
open C8 (pss_cut tCut)
open SX (S)
/-! ### the program's own names -/
structure TxtP (mg : Str → Option Value) : Prop where
  len : mg "len" = none
  all : mg "all" = none
  tuple : mg "tuple" = none
  int : mg "int" = none
  list : mg "list" = none
  enumerate : mg "enumerate" = none
  LETTERS : ∃ t, mg "LETTERS" = some (.str ("abcdefghijklmnopqrstuvwxyz" : Str) t)
  FIGURES : ∃ t, mg "FIGURES" = some (.str ("0123456789" : Str) t)
  LONGEST_NAME : ∃ t, mg "LONGEST_NAME" = some (.int 8 t)
/-- a comprehension over a text's signs -/
theorem lc_str {x : Str} {g : TG} {tt : TT} {te : TE} {vs : List Nat} {σ : L2.St} {H1 : Hp} {D : Addr} {Qd : Hp → Prop} (Pv : Nat → Hp → Prop) (h0 : Pv 0 (upd H1 D (.lst [])))
    (hs : ∀ i c H, x.cps[i]? = some c → Pv i H → g (.str ⟨#[c]⟩) (wipe σ vs) H fun σ2 H2 => wipe σ2 vs = wipe σ vs ∧ tt σ2 H2 fun b H3 =>
      if b = true then te σ2 H3 fun y H4 => ∃ acc, H4 D = some (.lst acc) ∧ acc.length < sizeLine ∧ Pv (i + 1) (upd H4 D (.lst (acc ++ [y]))) else Pv (i + 1) H3) (hd : ∀ H, Pv x.cps.size H → Qd H) :
    ∃ W : Nat → Nat → Hp → Prop, (∃ m, W 0 m (upd H1 D (.lst []))) ∧ ∀ i m H, W i m H →
      ((Its x).stop i H ∧ Qd H) ∨ ((Its x).go i H ∧ ∃ Nx : Hp → Prop, (∀ H', Nx H' → ∃ m', m' < m ∧ W (i + 1) m' H') ∧ ∀ v H', (Its x).yld i H v H' → g v (wipe σ vs) H' fun σ2 H2 => wipe σ2 vs = wipe σ vs ∧ tt σ2 H2 fun b H3 =>
        if b = true then te σ2 H3 fun y H4 => ∃ acc, H4 D = some (.lst acc) ∧ acc.length < sizeLine ∧ Nx (upd H4 D (.lst (acc ++ [y]))) else Nx H3) := by
  refine ⟨fun i m H => m = x.cps.size - i ∧ i ≤ x.cps.size ∧ Pv i H, ⟨x.cps.size, by simp, Nat.zero_le _, h0⟩, fun i m H ⟨em, hi, p⟩ => ?_⟩
  by_cases lt : i < x.cps.size
  · refine .inr ⟨lt, Pv (i + 1), fun H' p' => ⟨x.cps.size - (i + 1), by omega, rfl, lt, p'⟩, fun v H' ⟨e, c, hc, ev⟩ => ?_⟩
    rw [e, ev]
    exact hs i c H hc p
  · have e : i = x.cps.size := by omega
    rw [e] at p
    exact .inl ⟨by show x.cps.size ≤ i; omega, hd H p⟩
theorem letters_is (c : Nat) : decide (c ∈ ("abcdefghijklmnopqrstuvwxyz" : Str).cps.toList) = (decide (97 ≤ c) && decide (c ≤ 122)) := by
  have e : ("abcdefghijklmnopqrstuvwxyz" : Str).cps.toList = List.range' 97 26 := by decide +kernel
  rw [e]
  by_cases h : 97 ≤ c ∧ c ≤ 122
  · rw [decide_eq_true h.1, decide_eq_true h.2]
    exact decide_eq_true (List.mem_range'_1.mpr (by omega))
  · have n : ¬ c ∈ List.range' 97 26 := fun m => h (by have := List.mem_range'_1.mp m; omega)
    rw [decide_eq_false n]
    by_cases h1 : 97 ≤ c
    · rw [decide_eq_false (show ¬ c ≤ 122 by omega), Bool.and_false]
    · rw [decide_eq_false h1, Bool.false_and]
theorem figures_is (c : Nat) : decide (c ∈ ("0123456789" : Str).cps.toList) = (decide (48 ≤ c) && decide (c ≤ 57)) := by
  have e : ("0123456789" : Str).cps.toList = List.range' 48 10 := by decide +kernel
  rw [e]
  by_cases h : 48 ≤ c ∧ c ≤ 57
  · rw [decide_eq_true h.1, decide_eq_true h.2]
    exact decide_eq_true (List.mem_range'_1.mpr (by omega))
  · have n : ¬ c ∈ List.range' 48 10 := fun m => h (by have := List.mem_range'_1.mp m; omega)
    rw [decide_eq_false n]
    by_cases h1 : 48 ≤ c
    · rw [decide_eq_false (show ¬ c ≤ 57 by omega), Bool.and_false]
    · rw [decide_eq_false h1, Bool.false_and]
def isName (l : Nm) : Bool := decide (1 ≤ l.length) && decide (l.length ≤ 8) && l.all fun c => decide (97 ≤ c) && decide (c ≤ 122)
theorem isName_iff {l : Nm} : isName l = true ↔ NameOk l := by
  unfold isName NameOk
  simp only [Bool.and_eq_true, decide_eq_true_eq, List.all_eq_true, and_assoc]
def isLen (l : Nm) : Bool := !(decide (l = []) || decide (l.head? = some 48)) && l.all fun c => decide (48 ≤ c) && decide (c ≤ 57)
abbrev s_is_name : Stmt := topS 36
abbrev N_is_name : List Str := ["word", "sign"]
theorem sc_is_name : FnScope N_is_name ["word"] (defScope s_is_name) := ⟨rfl, rfl, rfl, by decide +kernel, rfl, by decide +kernel, by decide +kernel⟩
abbrev s_is_length : Stmt := topS 37
abbrev N_is_length : List Str := ["word", "sign"]
theorem sc_is_length : FnScope N_is_length ["word"] (defScope s_is_length) := ⟨rfl, rfl, rfl, by decide +kernel, rfl, by decide +kernel, by decide +kernel⟩
section
variable {P : Program} {w : World} {K : PySem.W.Frag} {mg : Str → Option Value} {base : Heap}
theorem all_take {α : Type} {p : α → Bool} {cs : List α} {i : Nat} {c : α} (h : cs[i]? = some c) : (cs.take (i + 1)).map p = (cs.take i).map p ++ [p c] := by
  rw [List.take_add_one, h, List.map_append]
  rfl
def spIsName : Sp := fun vs H Q _ => ∃ l : Nm, vs = [.str (S l)] ∧ l.length ≤ 100000 ∧ ∀ H', Same H H' → Q (.bl (isName l)) H'
theorem ok_is_name {f : Addr} {fd : FuncData} (F : Fun K "is_name" "is_name" s_is_name f fd) (T : TxtP mg) : FnOk P w K mg base CX0 1 f fd ["word"] spIsName := by
  obtain ⟨t1, h_LETTERS⟩ := T.LETTERS
  obtain ⟨t3, h_LONGEST_NAME⟩ := T.LONGEST_NAME
  refine F.ok sc_is_name (fun vs H Q E h => ?_) (fun cdv A outer s H vs Q E hr h => ?_)
  · obtain ⟨l, rfl, _⟩ := h
    rfl
  · obtain ⟨l, rfl, hl, q⟩ := h
    refine ⟨_, (pss_cut (ps_if (pt_not (pt_chain op_le op_le pe_int (pe_callB call_len (by rfl) T.len bt_len (pa_cons (pv 0) pa_nil)) (pe_glob (v := .int 8) rfl h_LONGEST_NAME ⟨_, rfl⟩)))
        (pss_one (ps_ret pe_bl))
        pss_nil)
      (pss_one (ps_ret (pe_callB (cr_all rfl) (by rfl) T.all bt_all (pa_cons (pe_lc (own := [("sign", 1)]) (g := gName 1) (tt := tYes) rfl sc_is_name.nd (pi_str (pv 0)) (blkOk_by (N := N_is_name) (sc := defScope s_is_name) (by decide +kernel)) (fun _ _ _ _ _ => pg_name (i := 1) sc_is_name.nd rfl (Or.inl rfl)) (fun _ _ _ _ _ => pts_nil) (fun _ _ _ _ _ => (pe_cmpR op_in_sign (pv 1) (pe_glob (v := .str ("abcdefghijklmnopqrstuvwxyz" : Str)) rfl h_LETTERS ⟨_, rfl⟩) rfl))) pa_nil))))), ?_⟩
    refine ⟨fun σ' H' => σ' = [some (.str (S l)), none] ∧ H' = H ∧ (1 ≤ l.length ∧ l.length ≤ 8), ?_, fun σ' H' hM => ?_⟩
    · refine ⟨_, rfl, _, _, rfl, ⟨by rw [SX.S_len]; exact sz_le hl, (SX.S_len _).symm⟩, _, _, rfl, rfl, _, rfl, ite2 (fun e1 => ?_) (fun e1 => ?_)⟩
      · refine ⟨_, _, rfl, rfl, _, rfl, ?_⟩
        have h1 := of_decide_eq_true e1
        by_cases h2 : (l.length : Int) ≤ 8
        · rw [decide_eq_true h2]
          exact iteF ⟨rfl, rfl, by omega, by omega⟩
        · rw [decide_eq_false h2]
          have : isName l = false := by
            cases e : isName l with
            | false => rfl
            | true => exact absurd (isName_iff.mp e).2.1 (by omega)
          have := q H (Same.refl H)
          rw [‹isName l = false›] at this
          exact iteT this
      · refine ⟨_, rfl, ?_⟩
        have : isName l = false := by
          cases e : isName l with
          | false => rfl
          | true => exact absurd (decide_eq_true (show (1 : Int) ≤ (l.length : Int) from by have := (isName_iff.mp e).1; omega)) e1
        have := q H (Same.refl H)
        rw [‹isName l = false›] at this
        exact iteT this
    · obtain ⟨rfl, rfl, h1, h8⟩ := hM
      refine ⟨_, rfl, _, rfl, fun D nD => ?_⟩
      refine lc_str (x := S l) (fun i H'' => H'' = upd H' D (.lst (((l.take i).map fun c => decide (97 ≤ c) && decide (c ≤ 122)).map V.bl))) rfl (fun i c H'' hc hP => ?_) (fun H'' hP => ?_)
      · subst hP
        have hc : l[i]? = some c := by simpa using hc
        have il := (List.getElem?_eq_some_iff.mp hc).1
        refine ⟨rfl, _, rfl, c, _, rfl, rfl, _, upd_same, by rw [List.length_map, List.length_map, List.length_take]; exact sz_lt (by omega), ?_⟩
        rw [upd_upd, letters_is, all_take hc, List.map_append]
        rfl
      · subst hP
        have e : (S l).cps.size = l.length := by simp
        rw [e, List.take_length]
        refine ⟨D, _, rfl, SqL.of upd_same, ?_⟩
        have e2 : isName l = (l.map fun c => decide (97 ≤ c) && decide (c ≤ 122)).all id := by
          unfold isName
          rw [decide_eq_true h1, decide_eq_true h8, List.all_map]
          rfl
        rw [← e2]
        refine q _ fun b o hb => ?_
        rw [upd_ne (ne_of_none hb nD)]
        exact hb
def spIsLen : Sp := fun vs H Q _ => ∃ l : Nm, vs = [.str (S l)] ∧ l.length ≤ 100000 ∧ ∀ H', Same H H' → Q (.bl (isLen l)) H'
theorem starts0 (l : Nm) : Txt.startswith (S l) ("0" : Str) = decide (l.head? = some 48) := by
  cases l with
  | nil => decide +kernel
  | cons c r =>
    have e : ("0" : Str) = S [48] := by decide +kernel
    unfold Txt.startswith
    rw [PySem.StrLaws.subAt_eq, e]
    have h1 : decide (0 + (S [48]).length ≤ (S (c :: r)).length) = true := decide_eq_true (by rw [SX.S_len, SX.S_len]; simp)
    rw [h1, Bool.true_and]
    show ((c :: r).take 1 == [48]) = decide (some c = some 48)
    by_cases h : c = 48
    · subst h
      simp
    · rw [decide_eq_false (fun z => h (Option.some.inj z))]
      simp [h]
theorem ok_is_length {f : Addr} {fd : FuncData} (F : Fun K "is_length" "is_length" s_is_length f fd) (T : TxtP mg) : FnOk P w K mg base CX0 1 f fd ["word"] spIsLen := by
  obtain ⟨t1, h_FIGURES⟩ := T.FIGURES
  refine F.ok sc_is_length (fun vs H Q E h => ?_) (fun cdv A outer s H vs Q E hr h => ?_)
  · obtain ⟨l, rfl, _⟩ := h
    rfl
  · obtain ⟨l, rfl, hl, q⟩ := h
    refine ⟨_, (pss_cut (ps_if (PW.pt (pw_or (pt_cmpR op_eq (pv 0) pe_str (nomark _)) (pw_or1 (pt_val (pe_m1 PySem.F.slot_str_startswith PySem.F.type_str_startswith mt_startswith (pv 0) pe_str)))))
        (pss_one (ps_ret pe_bl))
        pss_nil)
      (pss_one (ps_ret (pe_callB (cr_all rfl) (by rfl) T.all bt_all (pa_cons (pe_lc (own := [("sign", 1)]) (g := gName 1) (tt := tYes) rfl sc_is_length.nd (pi_str (pv 0)) (blkOk_by (N := N_is_length) (sc := defScope s_is_length) (by decide +kernel)) (fun _ _ _ _ _ => pg_name (i := 1) sc_is_length.nd rfl (Or.inl rfl)) (fun _ _ _ _ _ => pts_nil) (fun _ _ _ _ _ => (pe_cmpR op_in_sign (pv 1) (pe_glob (v := .str ("0123456789" : Str)) rfl h_FIGURES ⟨_, rfl⟩) rfl))) pa_nil))))), ?_⟩
    have e0 : ("" : Str) = S [] := by decide +kernel
    refine ⟨fun σ' H' => σ' = [some (.str (S l)), none] ∧ H' = H ∧ isLen l = l.all fun c => decide (48 ≤ c) && decide (c ≤ 57), ?_, fun σ' H' hM => ?_⟩
    · refine ⟨_, rfl, rfl, _, rfl, ite2 (fun e1 => ?_) (fun e1 => ?_)⟩
      · have el : l = [] := by
          have := of_decide_eq_true e1
          rw [e0] at this
          exact SX.S_inj (V.str.inj this)
        subst el
        exact iteT (q H (Same.refl H))
      · have nl : l ≠ [] := fun z => e1 (by rw [z]; exact decide_eq_true (by rw [e0]))
        refine ⟨_, rfl, ⟨_, rfl⟩, _, _, rfl, rfl, _, rfl, ?_⟩
        rw [starts0]
        by_cases h0 : l.head? = some 48
        · rw [decide_eq_true h0]
          have : isLen l = false := by
            unfold isLen
            rw [decide_eq_true h0, Bool.or_true]
            rfl
          have := q H (Same.refl H)
          rw [‹isLen l = false›] at this
          exact iteT this
        · rw [decide_eq_false h0]
          refine iteF ⟨rfl, rfl, ?_⟩
          unfold isLen
          rw [decide_eq_false h0, decide_eq_false nl]
          rfl
    · obtain ⟨rfl, rfl, he⟩ := hM
      refine ⟨_, rfl, _, rfl, fun D nD => ?_⟩
      refine lc_str (x := S l) (fun i H'' => H'' = upd H' D (.lst (((l.take i).map fun c => decide (48 ≤ c) && decide (c ≤ 57)).map V.bl))) rfl (fun i c H'' hc hP => ?_) (fun H'' hP => ?_)
      · subst hP
        have hc : l[i]? = some c := by simpa using hc
        have il := (List.getElem?_eq_some_iff.mp hc).1
        refine ⟨rfl, _, rfl, c, _, rfl, rfl, _, upd_same, by rw [List.length_map, List.length_map, List.length_take]; exact sz_lt (by omega), ?_⟩
        rw [upd_upd, figures_is, all_take hc, List.map_append]
        rfl
      · subst hP
        have e : (S l).cps.size = l.length := by simp
        rw [e, List.take_length]
        refine ⟨D, _, rfl, SqL.of upd_same, ?_⟩
        have e2 : isLen l = (l.map fun c => decide (48 ≤ c) && decide (c ≤ 57)).all id := by
          rw [he, List.all_map]
          rfl
        rw [← e2]
        refine q _ fun b o hb => ?_
        rw [upd_ne (ne_of_none hb nD)]
        exact hb
end
end Far

namespace Far
open PySem PySem.Spec PyProof.Rows L2
open C8 (pss_cut tCut)
open SX (S)
/-! ### rows of a text -/
def joinW (ws : List Nm) : Nm := TL.joinL [32] ws
def numW (k : Int) : Nm := TL.numL k.toNat
def rowT (t : Tie) : Nm := joinW [t.1, t.2.1, numW t.2.2]
theorem joinL_len (s : Nm) : ∀ ys : List Nm, (TL.joinL s ys).length ≤ (ys.map (·.length)).sum + ys.length * s.length
  | [] => by simp [TL.joinL]
  | [x] => by simp [TL.joinL]
  | x :: y :: r => by
    have ih := joinL_len s (y :: r)
    show (x ++ (s ++ TL.joinL s (y :: r))).length ≤ _
    rw [List.length_append, List.length_append, List.map_cons, List.sum_cons, List.length_cons, Nat.succ_mul]
    omega
theorem sum_le {B : Nat} : ∀ {ys : List Nm}, (∀ y ∈ ys, y.length ≤ B) → (ys.map (·.length)).sum ≤ ys.length * B
  | [], _ => Nat.zero_le _
  | y :: r, h => by
    have ih := sum_le (ys := r) fun z hz => h z (List.mem_cons.mpr (.inr hz))
    have := h y (List.mem_cons.mpr (.inl rfl))
    rw [List.map_cons, List.sum_cons, List.length_cons, Nat.succ_mul]
    omega
theorem blank_is : (" " : Str) = S [32] := by decide +kernel
theorem feed_is : ("\n" : Str) = S [10] := by decide +kernel
theorem name_no {l : Nm} (h : NameOk l) {c : Nat} (hc : c < 97) : c ∉ l := fun hm => by
  have := h.2.2 c hm
  omega
theorem split_words {ws : List Nm} (hne : ws ≠ []) (h : ∀ p ∈ ws, 32 ∉ p) : Txt.split (S (joinW ws)) (" " : Str) = ws.map S := by
  rw [blank_is, SX.split_S (by simp) (by decide)]
  unfold joinW
  rw [SX.spl_join hne h]
theorem num_digits (k : Int) : ∀ c ∈ numW k, 48 ≤ c ∧ c ≤ 57 := fun c hc => TL.numL_digits k.toNat c hc
theorem num_no {k : Int} {c : Nat} (h : c < 48) : c ∉ numW k := fun hm => by
  have := num_digits k c hm
  omega
theorem numL_head : ∀ n : Nat, 0 < n → (TL.numL n).head? ≠ some 48 := by
  intro n
  induction n using Nat.strongRecOn with
  | _ n ih =>
    intro h
    by_cases h10 : n < 10
    · rw [TL.numL_lt h10]
      simp
      omega
    · rw [TL.numL_step (by omega)]
      have := ih (n / 10) (by omega) (by omega)
      cases e : TL.numL (n / 10) with
      | nil => exact absurd e (TL.numL_ne _)
      | cons c r =>
        rw [e] at this
        simpa using this
theorem num_isLen {k : Int} (h : 1 ≤ k) : isLen (numW k) = true := by
  unfold isLen numW
  rw [decide_eq_false (TL.numL_ne _), decide_eq_false (numL_head _ (by omega))]
  rw [Bool.or_false, Bool.not_false, Bool.true_and, List.all_eq_true]
  intro c hc
  have := TL.numL_digits k.toNat c hc
  rw [Bool.and_eq_true]
  exact ⟨decide_eq_true this.1, decide_eq_true this.2⟩
theorem num_len {k : Int} (h : k ≤ 1000000) : (numW k).length ≤ 7 := TL.numL_len (by decide) (by
  have : (10 : Nat) ^ 7 = 10000000 := by decide
  omega)
theorem num_int {k : Int} (h : 1 ≤ k) (h2 : k ≤ 1000000) : PySem.intText? (S (numW k)) = some k := by
  have e := SX.int_S (a := numW k) (List.all_eq_true.mpr fun c hc => by
    have := num_digits k c hc
    rw [Bool.and_eq_true]
    exact ⟨decide_eq_true this.1, decide_eq_true this.2⟩) (TL.numL_ne _) (by have := num_len h2; omega)
  rw [e]
  unfold numW
  rw [TL.numL_val]
  congr 1
  omega
theorem count_one {l : Nm} : ∀ {pl : List Nm}, pl.Nodup → (((pl.map S).map V.str).countP fun z => eqV z (.str (S l))) ≤ 1
  | [], _ => Nat.zero_le _
  | a :: r, h => by
    obtain ⟨h1, h2⟩ := List.nodup_cons.mp h
    have ih := count_one (l := l) h2
    rw [List.map_cons, List.map_cons, List.countP_cons]
    by_cases e : a = l
    · subst e
      have : (((r.map S).map V.str).countP fun z => eqV z (.str (S a))) = 0 := by
        rw [List.countP_eq_zero]
        intro z hz
        obtain ⟨b, hb, rfl⟩ := strs_at hz
        show ¬ (S b == S a) = true
        rw [SX.S_beq_eq]
        intro q
        exact h1 (of_decide_eq_true q ▸ hb)
      rw [this]
      split <;> omega
    · have : (eqV (V.str (S a)) (.str (S l))) = false := by
        show (S a == S l) = false
        rw [SX.S_beq_eq]
        exact decide_eq_false e
      rw [this]
      simpa using ih
/-! ### the parts of a tree's reading: each place's mark -/
def partsK (pl : List Nm) (mk : Nm → Nm) : List (Key × V) := pl.map fun l => (Sum.inr (S l), V.str (S (mk l)))
theorem key_eq (a b : Nm) : decide ((Sum.inr (S a) : Key) = Sum.inr (S b)) = decide (a = b) := by
  by_cases h : a = b
  · rw [h, decide_eq_true rfl, decide_eq_true rfl]
  · rw [decide_eq_false h]
    exact decide_eq_false fun z => h (SX.S_inj (Sum.inr.inj z))
theorem parts_get {mk : Nm → Nm} {x : Nm} : ∀ {pl : List Nm}, x ∈ pl → valV (partsK pl mk) (Sum.inr (S x)) = some (.str (S (mk x)))
  | [], h => by simp at h
  | a :: r, h => by
    show valV ((Sum.inr (S a), V.str (S (mk a))) :: partsK r mk) _ = _
    by_cases e : a = x
    · subst e
      exact valV_pos rfl
    · rw [valV_neg (fun z => e (SX.S_inj (Sum.inr.inj z)))]
      refine parts_get ?_
      rcases List.mem_cons.mp h with z | z
      · exact absurd z.symm e
      · exact z
theorem parts_no {mk : Nm → Nm} {x : Nm} : ∀ {pl : List Nm}, x ∉ pl → valV (partsK pl mk) (Sum.inr (S x)) = none
  | [], _ => rfl
  | a :: r, h => by
    show valV ((Sum.inr (S a), V.str (S (mk a))) :: partsK r mk) _ = _
    rw [valV_neg (fun z => h (List.mem_cons.mpr (.inl (SX.S_inj (Sum.inr.inj z)).symm)))]
    exact parts_no fun z => h (List.mem_cons.mpr (.inr z))
theorem parts_put {mk : Nm → Nm} {x y : Nm} {pl : List Nm} (h : x ∈ pl) : putK (partsK pl mk) (Sum.inr (S x)) (.str (S y)) = partsK pl (fun z => if z = x then y else mk z) := by
  unfold putK
  rw [valV_any, parts_get h, if_pos (show (some (V.str (S (mk x)))).isSome = true from rfl)]
  unfold partsK
  rw [List.map_map]
  refine List.map_congr_left fun a _ => ?_
  show (if (Sum.inr (S a) : Key) = Sum.inr (S x) then _ else _) = _
  by_cases e : a = x
  · subst e
    rw [if_pos rfl]
    show (_, _) = (_, V.str (S (if a = a then y else mk a)))
    rw [if_pos rfl]
  · rw [if_neg (fun z => e (SX.S_inj (Sum.inr.inj z)))]
    show (_, _) = (_, V.str (S (if a = x then y else mk a)))
    rw [if_neg e]
theorem parts_cong {mk mk' : Nm → Nm} {pl : List Nm} (h : ∀ x ∈ pl, mk x = mk' x) : partsK pl mk = partsK pl mk' :=
  List.map_congr_left fun a ha => by rw [h a ha]
def PartsAt (H : Hp) (d : Addr) (pl : List Nm) (mk : Nm → Nm) : Prop := H d = some (.dK (partsK pl mk))
abbrev s_read_places : Stmt := topS 33
abbrev N_read_places : List Str := ["row", "names", "name"]
theorem sc_read_places : FnScope N_read_places ["row"] (defScope s_read_places) := ⟨rfl, rfl, rfl, by decide +kernel, rfl, by decide +kernel, by decide +kernel⟩
abbrev s_read_tie : Stmt := topS 34
abbrev N_read_tie : List Str := ["row", "number", "parts", "words", "one", "other", "length"]
theorem sc_read_tie : FnScope N_read_tie ["row", "number", "parts"] (defScope s_read_tie) := ⟨rfl, rfl, rfl, by decide +kernel, rfl, by decide +kernel, by decide +kernel⟩
abbrev s_hang_together : Stmt := topS 35
abbrev N_hang_together : List Str := ["parts", "one", "other", "kept", "gone", "place"]
theorem sc_hang_together : FnScope N_hang_together ["parts", "one", "other"] (defScope s_hang_together) := ⟨rfl, rfl, rfl, by decide +kernel, rfl, by decide +kernel, by decide +kernel⟩
section
variable {P : Program} {w : World} {K : PySem.W.Frag} {mg : Str → Option Value} {base : Heap}
def spPlaces : Sp := fun vs H Q _ => ∃ pl : List Nm, vs = [.str (S (joinW pl))] ∧ pl ≠ [] ∧ pl.Nodup ∧ (∀ l ∈ pl, NameOk l) ∧ pl.length ≤ 1000 ∧ ∀ (H' : Hp) (t : Addr), Same H H' → H t = none → H' t = some (.tup ((pl.map S).map V.str)) → Q (.ref t) H'
theorem ok_read_places {f : Addr} {fd : FuncData} (F : Fun K "_read_places" "_read_places" s_read_places f fd) (T : TxtP mg) (Cis_name : Cal P w K mg base 1 "is_name" spIsName) : FnOk P w K mg base CX0 2 f fd ["row"] spPlaces := by
  refine F.ok sc_read_places (fun vs H Q E h => ?_) (fun cdv A outer s H vs Q E hr h => ?_)
  · obtain ⟨pl, rfl, _⟩ := h
    rfl
  · obtain ⟨pl, rfl, hne, nd, ok, hl, q⟩ := h
    refine ⟨_, (pss_cons (ps_set (i := 1) sc_read_places.nd rfl (.inl rfl) (pe_split (pv 0) pe_str))
      (pss_cut (ps_for PassesOwn.never rfl (pi_list (pv 1)) (pg_name (i := 2) sc_read_places.nd rfl (.inl rfl))
        (pss_one (ps_if (PW.pt (pw_or (pt_not (pt_val (pe_c Cis_name hr (by decide) rfl (pa_cons (pv 2) pa_nil)))) (pw_or1 (pt_cmpR op_gt (pe_bm PySem.F.plainAttrs_list PySem.F.slot_list_count PySem.F.type_list_count mt_countV (pv 1) (pa_cons (pv 2) pa_nil)) pe_int (nomark _)))))
          (pss_one ps_never)
          pss_nil)))
      (pss_one (ps_ret (pe_tupleOf (by rfl) T.tuple (pv 1)))))), ?_⟩
    have lw : (joinW pl).length ≤ 9000 := by
      have h1 := joinL_len [32] pl
      have h2 := sum_le (B := 8) fun y hy => (ok y hy).2.1
      have h3 : ([32] : Nm).length = 1 := rfl
      rw [h3] at h1
      unfold joinW
      omega
    refine ⟨_, rfl, ⟨_, rfl⟩, _, _, rfl, rfl, by decide +kernel, by rw [SX.S_len]; exact Nat.le_trans (show _ ≤ 100000 by omega) (by decide), fun p np => ?_⟩
    rw [split_words hne fun x hx => name_no (ok x hx) (by decide)]
    refine ⟨fun σ' H' => ∃ x2, σ' = [some (.str (S (joinW pl))), some (.ref p), x2] ∧ Same H H' ∧ H' p = some (.lst ((pl.map S).map V.str)), ?_, fun σ' H' hM => ?_⟩
    · refine ⟨_, rfl, p, rfl, ⟨_, SqL.of upd_same⟩, for_list (K := K) (a := p) (xs := (pl.map S).map V.str) (fun i σ' H' => ∃ x2, σ' = [some (.str (S (joinW pl))), some (.ref p), x2] ∧ Same H H' ∧ H' p = some (.lst ((pl.map S).map V.str))) ⟨none, rfl, same_new (Same.refl H) np, upd_same⟩ (fun i σ' H' _ hP => ?_) (fun i x σ' H' hi hP => ?_) (fun σ' H' hP => ?_)⟩
      · obtain ⟨_, _, _, hp⟩ := hP
        exact SqL.of hp
      · obtain ⟨x2, rfl, sm, hp⟩ := hP
        obtain ⟨l, hl', rfl⟩ := strs_at (List.mem_of_getElem? hi)
        have okl := ok l hl'
        refine ⟨_, rfl, l, rfl, by have := okl.2.1; omega, fun H1 S1 => ?_⟩
        rw [isName_iff.mpr okl]
        refine ⟨_, rfl, iteF ?_⟩
        have hp1 := S1 _ _ hp
        refine ⟨_, rfl, .inl ⟨rfl, _, SqL.of hp1⟩, _, rfl, p, _, .str (S l), rfl, rfl, SqL.of hp1, rfl, flat_strs pl, _, _, rfl, rfl, _, rfl, ?_⟩
        have c1 := count_one (l := l) nd
        rw [decide_eq_false (by omega)]
        exact iteF ⟨_, rfl, sm.trans S1, hp1⟩
      · exact hP
    · obtain ⟨x2, rfl, sm, hp⟩ := hM
      refine ⟨_, rfl, .inl ⟨p, _, rfl, SqL.of hp, fun t nt => q _ t (same_new sm nt) (sm.free nt) upd_same⟩⟩
def spTie : Sp := fun vs H Q _ => ∃ (t : Tie) (n : Int) (d : Addr) (pl : List Nm) (mk : Nm → Nm), vs = [.str (S (rowT t)), .int n, .ref d] ∧ PartsAt H d pl mk ∧ t.1 ∈ pl ∧ t.2.1 ∈ pl ∧ NameOk t.1 ∧ NameOk t.2.1 ∧ 1 ≤ t.2.2 ∧ t.2.2 ≤ 1000000 ∧ mk t.1 ≠ mk t.2.1 ∧
  ∀ (H' : Hp) (q : Addr), Same H H' → H q = none → H' q = some (.tup [.str (S t.1), .str (S t.2.1), .int t.2.2]) → Q (.ref q) H'
theorem ok_read_tie {f : Addr} {fd : FuncData} (F : Fun K "_read_tie" "_read_tie" s_read_tie f fd) (T : TxtP mg) (Cis_length : Cal P w K mg base 1 "is_length" spIsLen) : FnOk P w K mg base CX0 2 f fd ["row", "number", "parts"] spTie := by
  refine F.ok sc_read_tie (fun vs H Q E h => ?_) (fun cdv A outer s H vs Q E hr h => ?_)
  · obtain ⟨t, n, d, pl, mk, rfl, _⟩ := h
    rfl
  · obtain ⟨⟨a, b, k⟩, n, d, pl, mk, rfl, hD, ha, hb, oka, okb, k1, k2, hne, q⟩ := h
    dsimp only at ha hb oka okb k1 k2 hne
    refine ⟨_, (pss_cons (ps_set (i := 3) sc_read_tie.nd rfl (.inl rfl) (pe_split (pv 0) pe_str))
      (pss_cut (ps_if (pt_cmpR op_ne (pe_callB call_len_seq (by rfl) T.len bt_len (pa_cons (pv 3) pa_nil)) pe_int (nomark _))
        (pss_one ps_never)
        pss_nil)
      (pss_cons (ps_asg (pv 3) (pg_unl rfl (pgs_cons (pg_name (i := 4) sc_read_tie.nd rfl (.inl rfl)) (pgs_cons (pg_name (i := 5) sc_read_tie.nd rfl (.inl rfl)) (pgs_cons (pg_name (i := 6) sc_read_tie.nd rfl (.inl rfl)) pgs_nil)))))
      (pss_cut (ps_if (PW.pt (pw_or (pt_cmp (pc_dnotin (hu_of hr) (pv 4) (pv 2))) (pw_or1 (pt_cmp (pc_dnotin (hu_of hr) (pv 5) (pv 2))))))
        (pss_one ps_never)
        pss_nil)
      (pss_cut (ps_if (PW.pt (pw_or (pt_not (pt_val (pe_c Cis_length hr (by decide) rfl (pa_cons (pv 6) pa_nil)))) (pw_or1 (pt_cmpR op_eq (pe_dget (hu_of hr) (pv 2) (pv 4) (fun _ _ => rfl)) (pe_dget (hu_of hr) (pv 2) (pv 5) (fun _ _ => rfl)) (nomark _)))))
        (pss_one ps_never)
        pss_nil)
      (pss_one (ps_ret (pe_tup (pa_cons (pv 4) (pa_cons (pv 5) (pa_cons (pe_callTy call_int_str (by rfl) T.int bt_int (pa_cons (pv 6) pa_nil)) pa_nil))))))))))), ?_⟩
    have ln := num_len k2
    have la := oka.2.1
    have lb := okb.2.1
    have lw : (rowT (a, b, k)).length ≤ 30 := by
      show (a ++ ([32] ++ (b ++ ([32] ++ numW k)))).length ≤ 30
      simp
      omega
    refine ⟨_, rfl, ⟨_, rfl⟩, _, _, rfl, rfl, by decide +kernel, by rw [SX.S_len]; exact Nat.le_trans (show _ ≤ 100000 by omega) (by decide), fun p np => ?_⟩
    have ep : Txt.split (S (rowT (a, b, k))) (" " : Str) = [a, b, numW k].map S := split_words (by simp) (fun x hx => by
      rcases List.mem_cons.mp hx with rfl | hx
      · exact name_no oka (by decide)
      · rcases List.mem_cons.mp hx with rfl | hx
        · exact name_no okb (by decide)
        · rw [List.mem_singleton.mp hx]
          exact num_no (by decide))
    rw [ep]
    have hp : (upd H p (.lst (([a, b, numW k].map S).map V.str))) p = some (.lst [.str (S a), .str (S b), .str (S (numW k))]) := upd_same
    have hD1 : PartsAt (upd H p (.lst (([a, b, numW k].map S).map V.str))) d pl mk := by
      unfold PartsAt
      rw [upd_ne (ne_of_none hD np)]
      exact hD
    generalize hH1 : upd H p (.lst (([a, b, numW k].map S).map V.str)) = H1 at hp hD1
    have S1 : Same H H1 := hH1 ▸ same_new (Same.refl H) np
    refine ⟨fun σ' H' => σ' = [some (.str (S (rowT (a, b, k)))), some (.int n), some (.ref d), some (.ref p), none, none, none] ∧ H' = H1, ?_, fun σ' H' hM => ?_⟩
    · exact ⟨_, rfl, p, _, rfl, .inl (SqL.of hp), rfl, _, rfl, iteF ⟨rfl, rfl⟩⟩
    · obtain ⟨rfl, rfl⟩ := hM
      refine ⟨_, rfl, p, _, rfl, SqL.of hp, rfl, _, _, rfl, _, _, rfl, _, _, rfl, rfl, ?_⟩
      refine ⟨fun σ' H'' => σ' = [some (.str (S (rowT (a, b, k)))), some (.int n), some (.ref d), some (.ref p), some (.str (S a)), some (.str (S b)), some (.str (S (numW k)))] ∧ H'' = H', ?_, fun σ' H'' hM => ?_⟩
      · refine ⟨_, rfl, _, rfl, d, _, rfl, DGet.k (k := Sum.inr (S a)) hD1, _, rfl, ?_⟩
        rw [parts_get ha]
        refine iteF ⟨_, rfl, _, rfl, d, _, rfl, DGet.k (k := Sum.inr (S b)) hD1, _, rfl, ?_⟩
        rw [parts_get hb]
        exact iteF ⟨rfl, rfl⟩
      · obtain ⟨rfl, rfl⟩ := hM
        refine ⟨fun σ' H1 => σ' = [some (.str (S (rowT (a, b, k)))), some (.int n), some (.ref d), some (.ref p), some (.str (S a)), some (.str (S b)), some (.str (S (numW k)))] ∧ Same H H1, ?_, fun σ' H1 hM => ?_⟩
        · refine ⟨_, rfl, numW k, rfl, by omega, fun H2 S2 => ?_⟩
          rw [num_isLen k1]
          have hD2 : PartsAt H2 d pl mk := S2 _ _ hD1
          refine ⟨_, rfl, iteF ⟨_, rfl, _, rfl, d, _, rfl, by rw [← parts_get ha]; exact DGet.k (k := Sum.inr (S a)) hD2, _, rfl, _, rfl, d, _, rfl, by rw [← parts_get hb]; exact DGet.k (k := Sum.inr (S b)) hD2, rfl, _, rfl, ?_⟩⟩
          rw [decide_eq_false (fun z => hne (SX.S_inj (V.str.inj z)))]
          exact iteF ⟨rfl, S1.trans S2⟩
        · obtain ⟨rfl, S2⟩ := hM
          refine ⟨_, rfl, _, rfl, _, rfl, S (numW k), k, rfl, num_int k1 k2, by rw [SX.S_len]; omega, (by show 3 ≤ sizeLine; decide), fun t nt => ?_⟩
          exact q _ t (same_new S2 nt) (S2.free nt) upd_same
/-- the part of other has the mark of the part of one -/
def merged (mk : Nm → Nm) (a b : Nm) : Nm → Nm := fun x => if mk x = mk b then mk a else mk x
def spHang : Sp := fun vs H Q _ => ∃ (d : Addr) (pl : List Nm) (mk : Nm → Nm) (a b : Nm), vs = [.ref d, .str (S a), .str (S b)] ∧ PartsAt H d pl mk ∧ pl.Nodup ∧ pl.length ≤ 1000 ∧ a ∈ pl ∧ b ∈ pl ∧
  ∀ H' : Hp, SmX d H H' → PartsAt H' d pl (merged mk a b) → Q .non H'
theorem ok_hang {f : Addr} {fd : FuncData} (F : Fun K "_hang_together" "_hang_together" s_hang_together f fd) (T : TxtP mg) : FnOk P w K mg base CX0 1 f fd ["parts", "one", "other"] spHang := by
  refine F.ok sc_hang_together (fun vs H Q E h => ?_) (fun cdv A outer s H vs Q E hr h => ?_)
  · obtain ⟨d, pl, mk, a, b, rfl, _⟩ := h
    rfl
  · obtain ⟨d, pl, mk, a, b, rfl, hD, nd, hl, ha, hb, q⟩ := h
    refine ⟨_, (pss_cons (ps_set (i := 3) sc_hang_together.nd rfl (.inl rfl) (pe_dget (hu_of hr) (pv 0) (pv 1) (fun _ _ => rfl)))
      (pss_cons (ps_set (i := 4) sc_hang_together.nd rfl (.inl rfl) (pe_dget (hu_of hr) (pv 0) (pv 2) (fun _ _ => rfl)))
      (pss_one (ps_for PassesOwn.never rfl (pi_list (pe_callTy (call_list_dK rfl) (by rfl) T.list bt_list (pa_cons (pv 0) pa_nil))) (pg_name (i := 5) sc_hang_together.nd rfl (.inl rfl))
        (pss_one (ps_if (pt_cmpR op_eq (pe_dget (hu_of hr) (pv 0) (pv 5) (fun _ _ => rfl)) (pv 4) (nomark _))
          (pss_one (ps_dput (hu_of hr) (pv 0) (pv 5) (pv 3) rfl))
          pss_nil)))))), ?_⟩
    refine ⟨_, rfl, _, rfl, d, _, rfl, by rw [← parts_get ha]; exact DGet.k (k := Sum.inr (S a)) hD, ?_⟩
    refine ⟨_, rfl, _, rfl, d, _, rfl, by rw [← parts_get hb]; exact DGet.k (k := Sum.inr (S b)) hD, ?_⟩
    refine ⟨_, rfl, d, _, rfl, hD, fun p np => ?_⟩
    have npd : p ≠ d := (ne_of_none hD np).symm
    have ek : (partsK pl mk).map (fun kv => kV kv.1) = (pl.map S).map V.str := by
      unfold partsK
      rw [List.map_map, List.map_map]
      rfl
    rw [ek]
    have lk : (partsK pl mk).length = pl.length := List.length_map _
    refine ⟨p, rfl, ⟨_, SqL.of upd_same⟩, for_list (K := K) (a := p) (xs := (pl.map S).map V.str) (fun i σ' H' => ∃ x5, σ' = [some (.ref d), some (.str (S a)), some (.str (S b)), some (.str (S (mk a))), some (.str (S (mk b))), x5] ∧ SmX d H H' ∧ H' p = some (.lst ((pl.map S).map V.str)) ∧ PartsAt H' d pl (fun x => if x ∈ pl.take i ∧ mk x = mk b then mk a else mk x))
      ⟨none, rfl, (SmX.refl H).new np, upd_same, ?_⟩ (fun i σ' H' _ hP => ?_) (fun i x σ' H' hi hP => ?_) (fun σ' H' hP => ?_)⟩
    · unfold PartsAt
      rw [upd_ne npd.symm, hD]
      exact congrArg (fun z => some (HO.dK z)) (parts_cong fun x _ => by simp)
    · obtain ⟨_, _, _, hp, _⟩ := hP
      exact SqL.of hp
    · obtain ⟨x5, rfl, sm, hp, hD'⟩ := hP
      have hi0 := hi
      rw [List.getElem?_map, List.getElem?_map] at hi
      cases el : pl[i]? with
      | none =>
        rw [el] at hi
        cases hi
      | some l =>
        rw [el] at hi
        have ex : x = .str (S l) := (Option.some.inj hi).symm
        subst ex
        have hl' : l ∈ pl := List.mem_of_getElem? el
        have ln : l ∉ pl.take i := fun hm => by
          obtain ⟨j, hj, ej⟩ := List.mem_take_iff_getElem.mp hm
          obtain ⟨hi', ei⟩ := List.getElem?_eq_some_iff.mp el
          have := (List.getElem_inj nd).mp (ej.trans ei.symm)
          omega
        have et : pl.take (i + 1) = pl.take i ++ [l] := by
          rw [List.take_add_one, el]
          rfl
        refine ⟨_, rfl, _, rfl, d, _, rfl, by rw [← parts_get hl']; exact DGet.k (k := Sum.inr (S l)) hD', _, rfl, rfl, _, rfl, ?_⟩
        rw [if_neg (fun z => ln z.1)]
        by_cases e : mk l = mk b
        · rw [e, decide_eq_true rfl]
          refine iteT ⟨_, rfl, _, rfl, _, rfl, d, _, rfl, DPut.k (k := Sum.inr (S l)) hD' (by show (partsK pl _).length < sizeLine; unfold partsK; rw [List.length_map]; exact sz_lt (by omega)), ?_⟩
          refine ⟨_, rfl, sm.mut, by rw [upd_ne npd]; exact hp, ?_⟩
          unfold PartsAt
          rw [upd_same, parts_put hl']
          congr 2
          refine parts_cong fun x _ => ?_
          rw [et]
          by_cases ex : x = l
          · subst ex
            rw [if_pos rfl, if_pos ⟨by simp, e⟩]
          · rw [if_neg ex]
            simp [ex]
        · rw [decide_eq_false (fun z => e (SX.S_inj (V.str.inj z)))]
          refine iteF ⟨_, rfl, sm, hp, ?_⟩
          unfold PartsAt at hD' ⊢
          rw [hD']
          congr 2
          refine parts_cong fun x _ => ?_
          rw [et]
          by_cases ex : x = l
          · subst ex
            rw [if_neg (fun z => e z.2), if_neg (fun z => e z.2)]
          · simp [ex]
    · obtain ⟨x5, rfl, sm, hp, hD'⟩ := hP
      refine q H' sm ?_
      unfold PartsAt at hD' ⊢
      rw [hD', List.length_map, List.length_map, List.take_length]
      congr 2
      refine parts_cong fun x hx => ?_
      unfold merged
      simp [hx]
end
end Far

namespace Far
open PySem PySem.Spec PyProof.Rows L2
open C8 (pss_cut tCut)
open SX (S)
/-! ### a tree's tie taken out leaves two sides -/
theorem snoc_split {α : Type} {es l r : List α} {e0 e : α} (h : es ++ [e0] = l ++ e :: r) : (r = [] ∧ es = l ∧ e0 = e) ∨ ∃ r', r = r' ++ [e0] ∧ es = l ++ e :: r' := by
  rcases List.eq_nil_or_concat r with hr | ⟨r', e1, hr⟩
  · subst hr
    have := List.append_inj' h rfl
    exact .inl ⟨rfl, this.1, (List.cons.inj this.2).1⟩
  · rw [List.concat_eq_append] at hr
    subst hr
    have h2 : es ++ [e0] = (l ++ e :: r') ++ [e1] := by
      rw [h]
      simp
    have := List.append_inj' h2 rfl
    have e2 := (List.cons.inj this.2).1
    subst e2
    exact .inr ⟨r', rfl, this.1⟩
theorem Grown.cut {os : List Nm} {es : List Tie} (h : Grown os es) : ∀ (l r : List Tie) (e : Tie), es = l ++ e :: r → ∃ f : Nm → Bool, (∀ x ∈ l ++ r, f x.1 = f x.2.1) ∧ f e.1 ≠ f e.2.1 := by
  induction h with
  | one a => intro l r e h; simp at h
  | @leaf os es a b k e0 g ha hb he0 k1 k2 ih =>
    intro l r e hs
    have inos := g.ties
    rcases snoc_split hs with ⟨hr, h1, h2⟩ | ⟨r', hr, h1⟩
    · subst hr h1 h2
      refine ⟨fun x => x == b, fun x hx => ?_, ?_⟩
      · rw [List.append_nil] at hx
        obtain ⟨i1, i2, _⟩ := inos x hx
        have n1 : (x.1 == b) = false := beq_eq_false_iff_ne.mpr fun z => hb (z ▸ i1)
        have n2 : (x.2.1 == b) = false := beq_eq_false_iff_ne.mpr fun z => hb (z ▸ i2)
        show (x.1 == b) = (x.2.1 == b)
        rw [n1, n2]
      · have na : (a == b) = false := beq_eq_false_iff_ne.mpr fun z => hb (z ▸ ha)
        rcases he0 with z | z <;> rw [z] <;> simp [na]
    · subst hr
      obtain ⟨f, hf, hne⟩ := ih l r' e h1
      have old : ∀ y : Nm, y ∈ os → (if y = b then f a else f y) = f y := fun y hy => if_neg fun (z : y = b) => hb (z ▸ hy)
      refine ⟨fun x => if x = b then f a else f x, fun x hx => ?_, ?_⟩
      · have hx : x ∈ l ++ r' ∨ x = e0 := by
          rw [← List.append_assoc] at hx
          rcases List.mem_append.mp hx with z | z
          · exact .inl z
          · exact .inr (List.mem_singleton.mp z)
        rcases hx with hx | rfl
        · have hm : x ∈ es := by
            rw [h1]
            rcases List.mem_append.mp hx with z | z
            · exact List.mem_append_left _ z
            · exact List.mem_append_right _ (List.mem_cons.mpr (.inr z))
          obtain ⟨i1, i2, _⟩ := inos x hm
          show (if x.1 = b then f a else f x.1) = (if x.2.1 = b then f a else f x.2.1)
          rw [old _ i1, old _ i2]
          exact hf x hx
        · rcases he0 with z | z <;> rw [z]
          · show (if a = b then f a else f a) = (if b = b then f a else f b)
            rw [old a ha, if_pos rfl]
          · show (if b = b then f a else f b) = (if a = b then f a else f a)
            rw [old a ha, if_pos rfl]
      · obtain ⟨i1, i2, _⟩ := inos e (by rw [h1]; simp)
        show (if e.1 = b then f a else f e.1) ≠ (if e.2.1 = b then f a else f e.2.1)
        rw [old _ i1, old _ i2]
        exact hne
theorem IsTree.cut {pl : List Nm} {ts l r : List Tie} {e : Tie} (h : IsTree pl ts) (hs : ts = l ++ e :: r) : ∃ f : Nm → Bool, (∀ x ∈ l ++ r, f x.1 = f x.2.1) ∧ f e.1 ≠ f e.2.1 := by
  obtain ⟨os, es, g, _, p⟩ := h
  have hm : e ∈ es := p.mem_iff.mp (by rw [hs]; simp)
  obtain ⟨l', r', he⟩ := List.append_of_mem hm
  obtain ⟨f, hf, hne⟩ := g.cut l' r' e he
  refine ⟨f, fun x hx => hf x ?_, hne⟩
  have q : (e :: (l ++ r)).Perm (e :: (l' ++ r')) := (List.perm_middle.symm.trans (by rw [← hs, ← he]; exact p)).trans List.perm_middle
  exact q.cons_inv.mem_iff.mp hx
/-- places that have one mark hang together by these ties -/
def MarkInv (done : List Tie) (pl : List Nm) (mk : Nm → Nm) : Prop := ∀ f : Nm → Bool, (∀ e ∈ done, f e.1 = f e.2.1) → ∀ x ∈ pl, f (mk x) = f x
theorem MarkInv.start (pl : List Nm) : MarkInv [] pl id := fun _ _ _ _ => rfl
theorem MarkInv.ne {pl : List Nm} {ts l r : List Tie} {e : Tie} {mk : Nm → Nm} (h : IsTree pl ts) (hs : ts = l ++ e :: r) (M : MarkInv l pl mk) : mk e.1 ≠ mk e.2.1 := fun z => by
  obtain ⟨f, hf, hne⟩ := h.cut hs
  obtain ⟨i1, i2, _⟩ := h.ties e (by rw [hs]; simp)
  have hl : ∀ x ∈ l, f x.1 = f x.2.1 := fun x hx => hf x (List.mem_append_left _ hx)
  exact hne (by rw [← M f hl _ i1, ← M f hl _ i2, z])
theorem MarkInv.next {pl : List Nm} {l : List Tie} {e : Tie} {mk : Nm → Nm} (M : MarkInv l pl mk) (i1 : e.1 ∈ pl) (i2 : e.2.1 ∈ pl) : MarkInv (l ++ [e]) pl (merged mk e.1 e.2.1) := fun f hf x hx => by
  have hl : ∀ y ∈ l, f y.1 = f y.2.1 := fun y hy => hf y (List.mem_append_left _ hy)
  unfold merged
  by_cases z : mk x = mk e.2.1
  · rw [if_pos z, M f hl _ i1, hf e (by simp), ← M f hl _ i2, ← z, M f hl x hx]
  · rw [if_neg z]
    exact M f hl x hx
/-! ### a tree's text -/
def rowsT (pl : List Nm) (ts : List Tie) : List Nm := joinW pl :: ts.map rowT
def textT (pl : List Nm) (ts : List Tie) : Nm := TL.joinL [10] (rowsT pl ts)
theorem joinL_mem {c : Nat} {s : Nm} : ∀ {ys : List Nm}, c ∈ TL.joinL s ys → c ∈ s ∨ ∃ y ∈ ys, c ∈ y
  | [], h => by simp [TL.joinL] at h
  | [x], h => .inr ⟨x, by simp, h⟩
  | x :: y :: r, h => by
    have h : c ∈ x ++ (s ++ TL.joinL s (y :: r)) := h
    rcases List.mem_append.mp h with z | z
    · exact .inr ⟨x, by simp, z⟩
    · rcases List.mem_append.mp z with z | z
      · exact .inl z
      · rcases joinL_mem z with z | ⟨w, hw, z⟩
        · exact .inl z
        · exact .inr ⟨w, List.mem_cons.mpr (.inr hw), z⟩
theorem joinW_no {ws : List Nm} (h : ∀ x ∈ ws, 10 ∉ x) : 10 ∉ joinW ws := fun hm => by
  rcases joinL_mem hm with z | ⟨w, hw, z⟩
  · simp at z
  · exact h w hw z
theorem split_rows {ys : List Nm} (hne : ys ≠ []) (h : ∀ p ∈ ys, 10 ∉ p) : Txt.split (S (TL.joinL [10] ys)) ("\n" : Str) = ys.map S := by
  rw [feed_is, SX.split_S (by simp) (by decide), SX.spl_join hne h]
theorem Fine.rowLen {pl : List Nm} {ts : List Tie} (F : Fine pl ts) {e : Tie} (he : e ∈ ts) : (rowT e).length ≤ 30 := by
  obtain ⟨o1, o2⟩ := F.okT he
  obtain ⟨_, _, _, k2⟩ := F.tree.ties e he
  have ln := num_len k2
  have la := o1.2.1
  have lb := o2.2.1
  show (e.1 ++ ([32] ++ (e.2.1 ++ ([32] ++ numW e.2.2)))).length ≤ 30
  simp
  omega
theorem Fine.headLen {pl : List Nm} {ts : List Tie} (F : Fine pl ts) : (joinW pl).length ≤ 9000 := by
  have h1 := joinL_len [32] pl
  have h2 := sum_le (B := 8) fun y hy => (F.ok y hy).2.1
  have h3 : ([32] : Nm).length = 1 := rfl
  have h4 := F.len
  rw [h3] at h1
  unfold joinW
  omega
theorem Fine.sumLen {pl : List Nm} {ts : List Tie} (F : Fine pl ts) : ((rowsT pl ts).map (·.length)).sum + (rowsT pl ts).length ≤ 50000 := by
  have h1 := F.headLen
  have h2 := sum_le (ys := ts.map rowT) (B := 30) fun y hy => by
    obtain ⟨e, he, rfl⟩ := List.mem_map.mp hy
    exact F.rowLen he
  have h3 := F.tree.len
  have h4 := F.len
  unfold rowsT
  rw [List.map_cons, List.sum_cons, List.length_cons]
  rw [List.length_map] at h2 ⊢
  omega
theorem Fine.textLen {pl : List Nm} {ts : List Tie} (F : Fine pl ts) : (textT pl ts).length ≤ 50000 := by
  have h1 := joinL_len [10] (rowsT pl ts)
  have h2 := F.sumLen
  have h3 : ([10] : Nm).length = 1 := rfl
  rw [h3] at h1
  unfold textT
  omega
theorem Fine.noFeed {pl : List Nm} {ts : List Tie} (F : Fine pl ts) : ∀ y ∈ rowsT pl ts, 10 ∉ y := fun y hy => by
  rcases List.mem_cons.mp hy with rfl | hy
  · exact joinW_no fun x hx => name_no (F.ok x hx) (by decide)
  · obtain ⟨e, he, rfl⟩ := List.mem_map.mp hy
    obtain ⟨o1, o2⟩ := F.okT he
    refine joinW_no fun x hx => ?_
    rcases List.mem_cons.mp hx with rfl | hx
    · exact name_no o1 (by decide)
    · rcases List.mem_cons.mp hx with rfl | hx
      · exact name_no o2 (by decide)
      · rw [List.mem_singleton.mp hx]
        exact num_no (by decide)
/-! ### walks by enumerate from c on -/
theorem for_enumS {K : PySem.W.Frag} {a : Addr} {c : Int} {xs : List V} {g : TG} {tb : TS} {D : Ends} {σ : L2.St} {H : Hp} (Pv : Nat → L2.St → Hp → Prop) (h0 : Pv 0 σ H) (hl : ∀ i σ H, Pv i σ H → SqL K H a xs)
    (hs : ∀ i x σ H T, xs[i]? = some x → Pv i σ H → H T = none → g (.ref T) σ (upd H T (.tup [.int (c + (i : Nat)), x])) fun σ2 H2 => tb { D with nx := Pv (i + 1), ct := Pv (i + 1), bk := D.nx } σ2 H2) (hd : ∀ σ H, Pv xs.length σ H → D.nx σ H) :
    ∃ W : Nat → Nat → L2.St → Hp → Prop, (∃ m, W 0 m σ H) ∧ ∀ i m σ H, W i m σ H →
      ((Ites K a c).stop i H ∧ D.nx σ H) ∨ ((Ites K a c).go i H ∧ ∃ N : L2.St → Hp → Prop, (∀ σ' H', N σ' H' → ∃ m', m' < m ∧ W (i + 1) m' σ' H') ∧ ∀ x H', (Ites K a c).yld i H x H' → g x σ H' fun σ2 H2 => tb { D with nx := N, ct := N, bk := D.nx } σ2 H2) := by
  refine ⟨fun i m σ H => m = xs.length - i ∧ i ≤ xs.length ∧ Pv i σ H, ⟨xs.length, by simp, Nat.zero_le _, h0⟩, fun i m σ H ⟨em, hi, p⟩ => ?_⟩
  have q := hl i σ H p
  by_cases lt : i < xs.length
  · refine .inr ⟨⟨xs, xs[i], q, by simp [lt]⟩, Pv (i + 1), fun σ' H' p' => ⟨xs.length - (i + 1), by omega, rfl, lt, p'⟩, fun v H' ⟨T, x, ev, nT, eH, hx⟩ => ?_⟩
    rw [ev, eH]
    exact hs i x σ H T (hx xs q) p nT
  · have e : i = xs.length := by omega
    rw [e] at p
    exact .inl ⟨⟨xs, q, by omega⟩, hd σ H p⟩
theorem same_smx {H H1 H2 : Hp} {d : Addr} (a : Same H H1) (s : SmX d H1 H2) (n : H d = none) : Same H H2 := fun b o h => s b o (ne_of_none h n) (a b o h)
theorem free_smx {H1 H2 : Hp} {d p : Addr} (s : SmX d H1 H2) (h : H2 p = none) (n : p ≠ d) : H1 p = none := s.free h n
abbrev s_read_tree : Stmt := topS 31
abbrev N_read_tree : List Str := ["text", "rows", "places", "parts", "ties", "number", "row", "tie", "place"]
theorem sc_read_tree : FnScope N_read_tree ["text"] (defScope s_read_tree) := ⟨rfl, rfl, rfl, by decide +kernel, rfl, by decide +kernel, by decide +kernel⟩
abbrev s_tree_shown : Stmt := topS 32
abbrev N_tree_shown : List Str := ["tree", "places", "ties", "rows", "one", "other", "length"]
theorem sc_tree_shown : FnScope N_tree_shown ["tree"] (defScope s_tree_shown) := ⟨rfl, rfl, rfl, by decide +kernel, rfl, by decide +kernel, by decide +kernel⟩
section
variable {P : Program} {w : World} {K : PySem.W.Frag} {mg : Str → Option Value} {base : Heap}
def spRead : Sp := fun vs H Q _ => ∃ (pl : List Nm) (ts : List Tie), vs = [.str (S (textT pl ts))] ∧ Fine pl ts ∧ ∀ (H' : Hp) (t : Addr), Same H H' → H t = none → Dt H' (.ref t) (treeD pl ts) → Q (.ref t) H'
theorem ok_read_tree {f : Addr} {fd : FuncData} (F : Fun K "read_tree" "read_tree" s_read_tree f fd) (T : TxtP mg) (C_read_places : Cal P w K mg base 2 "_read_places" spPlaces) (C_read_tie : Cal P w K mg base 2 "_read_tie" spTie) (C_hang_together : Cal P w K mg base 1 "_hang_together" spHang) : FnOk P w K mg base CX0 3 f fd ["text"] spRead := by
  refine F.ok sc_read_tree (fun vs H Q E h => ?_) (fun cdv A outer s H vs Q E hr h => ?_)
  · obtain ⟨pl, ts, rfl, _⟩ := h
    rfl
  · obtain ⟨pl, ts, rfl, fine, q⟩ := h
    refine ⟨_, (pss_cons (ps_set (i := 1) sc_read_tree.nd rfl (.inl rfl) (pe_split (pv 0) pe_str))
      (pss_cons (ps_set (i := 2) sc_read_tree.nd rfl (.inl rfl) (pe_c C_read_places hr (by decide) rfl (pa_cons (pe_ix ix_list (pv 1) pe_int (fun _ _ => rfl)) pa_nil)))
      (pss_cons (ps_setDc (i := 3) (own := [("place", 8)]) (g := gName 8) (tt := tYes) rfl sc_read_tree.nd rfl rfl (swD_true rfl rfl rfl (by decide +kernel)) (pi_tup (pv 2)) (blkOk_by (N := N_read_tree) (sc := defScope s_read_tree) (by decide +kernel)) (fun _ _ _ _ _ => pg_name (i := 8) sc_read_tree.nd rfl (Or.inl rfl)) (fun _ _ _ _ _ => pts_nil) (fun _ _ _ _ _ => (pv 8)) (fun _ _ _ _ _ => (pv 8)))
      (pss_cons (ps_set (i := 4) sc_read_tree.nd rfl (.inl rfl) (pe_lst pa_nil))
      (pss_cut (ps_for PassesOwn.never rfl (pi_enumS (by rfl) T.enumerate (pa_cons (pe_slice sl_list (pv 1) (po_some pe_int) po_none) pa_nil) (by decide) (by decide)) (pg_tup rfl (pgs_cons (pg_name (i := 5) sc_read_tree.nd rfl (.inl rfl)) (pgs_cons (pg_name (i := 6) sc_read_tree.nd rfl (.inl rfl)) pgs_nil)))
        (pss_cons (ps_set (i := 7) sc_read_tree.nd rfl (.inl rfl) (pe_c C_read_tie hr (by decide) rfl (pa_cons (pv 6) (pa_cons (pv 5) (pa_cons (pv 3) pa_nil)))))
        (pss_cons (ps_expr (pe_c C_hang_together hr (by decide) rfl (pa_cons (pv 3) (pa_cons (pe_ix ix_tup (pv 7) pe_int (fun _ _ => rfl)) (pa_cons (pe_ix ix_tup (pv 7) pe_int (fun _ _ => rfl)) pa_nil)))))
        (pss_one (ps_expr (pe_bm PySem.F.plainAttrs_list PySem.F.slot_list_append PySem.F.type_list_append mt_append (pv 4) (pa_cons (pv 7) pa_nil)))))))
      (pss_cut (ps_if (pt_cmpR op_lt (pe_callB call_len_seq (by rfl) T.len bt_len (pa_cons (pv 4) pa_nil)) (pe_op op_sub (pe_callB call_len_seq (by rfl) T.len bt_len (pa_cons (pv 2) pa_nil)) pe_int) (nomark _))
        (pss_one ps_never)
        pss_nil)
      (pss_one (ps_ret (pe_tup (pa_cons (pv 2) (pa_cons (pe_tupleOf (by rfl) T.tuple (pv 4)) pa_nil))))))))))), ?_⟩
    have tl := fine.textLen
    have nd := fine.tree.nodup
    have pl1 := fine.len
    have len := fine.tree.len
    refine ⟨_, rfl, ⟨_, rfl⟩, _, _, rfl, rfl, by decide +kernel, by rw [SX.S_len]; exact Nat.le_trans (show _ ≤ 100000 by omega) (by decide), fun p np => ?_⟩
    rw [show Txt.split (S (textT pl ts)) ("\n" : Str) = (rowsT pl ts).map S from split_rows (by simp [rowsT]) fine.noFeed]
    -- places
    refine ⟨_, rfl, p, _, 0, .str (S (joinW pl)), rfl, rfl, SqL.of upd_same, atI_nat (j := 0) rfl, pl, rfl, fine.ne, nd, fine.ok, pl1, fun H1 t S1 nt ht => ?_⟩
    have hp1 := S1 p _ upd_same
    have SM1 : Same H H1 := (same_new (Same.refl H) np).trans S1
    have nt0 : H t = none := (same_new (o := .lst (((rowsT pl ts).map S).map V.str)) (Same.refl H) np).free nt
    -- parts
    refine ⟨_, rfl, t, rfl, ⟨_, SqT.of ht⟩, fun D nD => ?_⟩
    have D0 : H D = none := SM1.free nD
    have Dt' : D ≠ t := (ne_of_none ht nD).symm
    have Dp' : D ≠ p := (ne_of_none hp1 nD).symm
    refine dc_tup (K := K) (a := t) (xs := (pl.map S).map V.str) (fun i H' => H' = upd H1 D (.dK (partsK (pl.take i) id))) rfl (fun i H' _ hP => ?_) (fun i x H' hi hP => ?_) (fun H' hP => ?_)
    · rw [hP]
      exact SqT.of (by rw [upd_ne Dt'.symm]; exact ht)
    · subst hP
      rw [List.getElem?_map, List.getElem?_map] at hi
      cases el : pl[i]? with
      | none =>
        rw [el] at hi
        cases hi
      | some l =>
        rw [el] at hi
        have ex : x = .str (S l) := (Option.some.inj hi).symm
        subst ex
        have ln : l ∉ pl.take i := fun hm => by
          obtain ⟨j, hj, ej⟩ := List.mem_take_iff_getElem.mp hm
          obtain ⟨hi', ei⟩ := List.getElem?_eq_some_iff.mp el
          have := (List.getElem_inj nd).mp (ej.trans ei.symm)
          omega
        refine ⟨rfl, _, rfl, _, rfl, _, Sum.inr (S l), rfl, upd_same, by unfold partsK; rw [List.length_map, List.length_take]; exact sz_lt (by omega), ?_⟩
        rw [upd_upd, putK_new _ (parts_no ln), List.take_add_one, el]
        unfold partsK
        rw [List.map_append]
        rfl
    · subst hP
      rw [List.length_map, List.length_map, List.take_length]
      -- ties
      refine ⟨Nat.zero_le _, fun g ng => ?_⟩
      have gD : g ≠ D := (ne_of_none upd_same ng).symm
      have ng1 : H1 g = none := by rw [upd_ne gD] at ng; exact ng
      have g0 : H g = none := SM1.free ng1
      have gt : g ≠ t := (ne_of_none ht ng1).symm
      have gp : g ≠ p := (ne_of_none hp1 ng1).symm
      refine ⟨fun σ' H' => ∃ (x5 x6 x7 : Option V) (vs : List V), σ' = [some (.str (S (textT pl ts))), some (.ref p), some (.ref t), some (.ref D), some (.ref g), x5, x6, x7, none] ∧ Same H H' ∧ H' t = some (.tup ((pl.map S).map V.str)) ∧ H' g = some (.lst vs) ∧ DtAll H' vs (ts.map tieD), ?_, fun σ' H' hM => ?_⟩
      · -- rows[1:]
        refine ⟨_, rfl, 1, rfl, p, _, rfl, SqL.of (by rw [upd_ne gp.symm, upd_ne Dp'.symm]; exact hp1), fun c nc => ?_⟩
        have cg : c ≠ g := (ne_of_none upd_same nc).symm
        have nc1 : (upd H1 D (.dK (partsK pl id))) c = none := by rw [upd_ne cg] at nc; exact nc
        have cD : c ≠ D := (ne_of_none upd_same nc1).symm
        have nc2 : H1 c = none := by rw [upd_ne cD] at nc1; exact nc1
        have c0 : H c = none := SM1.free nc2
        have ct : c ≠ t := (ne_of_none ht nc2).symm
        have ecut : cutV (((rowsT pl ts).map S).map V.str) (some 1) none = ((ts.map rowT).map S).map V.str := by
          unfold cutV
          rw [show HT.sIx (((rowsT pl ts).map S).map V.str).length 0 (some 1) = min 1 (((rowsT pl ts).map S).map V.str).length from HT.sIx_nat _ 0 1, HT.sIx_none]
          unfold rowsT
          simp
          exact List.take_of_length_le (by simp)
        rw [ecut]
        refine ⟨c, _, rfl, SqL.of upd_same, for_enumS (K := K) (a := c) (c := 1) (xs := ((ts.map rowT).map S).map V.str) (fun i σ' H' => ∃ (x5 x6 x7 : Option V) (vs : List V) (mk : Nm → Nm), σ' = [some (.str (S (textT pl ts))), some (.ref p), some (.ref t), some (.ref D), some (.ref g), x5, x6, x7, none] ∧ Same H H' ∧ H' t = some (.tup ((pl.map S).map V.str)) ∧ H' c = some (.lst (((ts.map rowT).map S).map V.str)) ∧ PartsAt H' D pl mk ∧ MarkInv (ts.take i) pl mk ∧ H' g = some (.lst vs) ∧ DtAll H' vs ((ts.take i).map tieD))
          ⟨none, none, none, [], id, rfl, same_put (same_put (same_put SM1 D0) g0) c0, by rw [upd_ne ct.symm, upd_ne gt.symm, upd_ne Dt'.symm]; exact ht, upd_same, by unfold PartsAt; rw [upd_ne cD.symm, upd_ne gD.symm]; exact upd_same, MarkInv.start pl, by rw [upd_ne cg.symm]; exact upd_same, .nil⟩ (fun i σ' H' hP => ?_) (fun i x σ' H' T hi hP nT => ?_) (fun σ' H' hP => ?_)⟩
        · obtain ⟨_, _, _, _, _, _, _, _, hc, _⟩ := hP
          exact SqL.of hc
        · obtain ⟨x5, x6, x7, vs, mk, rfl, SM, ht', hc, hD, M, hg, hA⟩ := hP
          rw [List.getElem?_map, List.getElem?_map, List.getElem?_map] at hi
          cases ee : ts[i]? with
          | none =>
            rw [ee] at hi
            cases hi
          | some e =>
            rw [ee] at hi
            have ex : x = .str (S (rowT e)) := (Option.some.inj hi).symm
            subst ex
            have em : e ∈ ts := List.mem_of_getElem? ee
            obtain ⟨i1, i2, k1, k2⟩ := fine.tree.ties e em
            obtain ⟨o1, o2⟩ := fine.okT em
            obtain ⟨hi', ei⟩ := List.getElem?_eq_some_iff.mp ee
            have hsp : ts = ts.take i ++ e :: ts.drop (i + 1) := by
              rw [← ei, List.getElem_cons_drop, List.take_append_drop]
            have et : ts.take (i + 1) = ts.take i ++ [e] := by
              rw [List.take_add_one, ee]
              rfl
            refine ⟨T, _, rfl, SqT.of upd_same, rfl, _, _, rfl, _, _, rfl, rfl, ?_⟩
            have sT : Same H' (upd H' T (.tup [.int (1 + (i : Nat)), .str (S (rowT e))])) := same_new (Same.refl H') nT
            refine ⟨_, rfl, _, rfl, _, rfl, e, _, D, pl, mk, rfl, sT _ _ hD, i1, i2, o1, o2, k1, k2, M.ne fine.tree hsp, fun H2 u S2 nu hu => ?_⟩
            have S02 : Same H' H2 := sT.trans S2
            refine ⟨_, rfl, _, rfl, u, _, 0, _, rfl, rfl, SqT.of hu, rfl, _, rfl, u, _, 1, _, rfl, rfl, SqT.of hu, rfl, D, pl, mk, e.1, e.2.1, rfl, S02 _ _ hD, nd, pl1, i1, i2, fun H3 S3 hD3 => ?_⟩
            have uD : u ≠ D := (ne_of_none (sT _ _ hD) nu).symm
            have hg3 : H3 g = some (.lst vs) := S3 g _ gD (S02 _ _ hg)
            have vl : vs.length = (ts.take i).length := by
              have := DtAll.len hA
              rwa [List.length_map] at this
            rw [List.length_take] at vl
            refine ⟨_, rfl, .inl ⟨rfl, _, SqL.of hg3⟩, _, rfl, g, _, _, rfl, rfl, hg3, sz_lt (by omega), ?_⟩
            have tk2 : TK H2 H3 := ⟨fun b ys h => S3 b _ (ne_of h (S02 _ _ hD) (by intro z; cases z)) h, fun b u ys h => S3 b _ (ne_of h (S02 _ _ hD) (by intro z; cases z)) h⟩
            have tk3 : TK H3 (upd H3 g (.lst (vs ++ [.ref u]))) := TK.mut hg3
            refine ⟨_, _, _, vs ++ [.ref u], merged mk e.1 e.2.1, rfl, same_put (same_smx (SM.trans S02) S3 D0) g0, by rw [upd_ne gt.symm]; exact S3 t _ Dt'.symm (S02 _ _ ht'), by rw [upd_ne cg]; exact S3 c _ cD (S02 _ _ hc), by unfold PartsAt; rw [upd_ne gD.symm]; exact hD3, by rw [et]; exact M.next i1 i2, upd_same, ?_⟩
            rw [et, List.map_append]
            exact DtAll.app (DtAll.keep (((TK.of S02).trans tk2).trans tk3) hA) (.cons (Dt.keep (tk2.trans tk3) (.tup hu (.cons (.str _) (.cons (.str _) (.cons (.int _) .nil))))) .nil)
        · obtain ⟨x5, x6, x7, vs, mk, rfl, SM, ht', hc, hD, M, hg, hA⟩ := hP
          rw [List.length_map, List.length_map, List.length_map, List.take_length] at hA
          exact ⟨x5, x6, x7, vs, rfl, SM, ht', hg, hA⟩
      · obtain ⟨x5, x6, x7, vs, rfl, SM, ht', hg, hA⟩ := hM
        have vl : vs.length = ts.length := by
          have := DtAll.len hA
          rwa [List.length_map] at this
        refine ⟨fun σ'' H'' => σ'' = [some (.str (S (textT pl ts))), some (.ref p), some (.ref t), some (.ref D), some (.ref g), x5, x6, x7, none] ∧ H'' = H', ?_, fun σ'' H'' hM => ?_⟩
        · refine ⟨_, rfl, g, _, rfl, .inl (SqL.of hg), _, rfl, t, _, rfl, .inr (SqT.of ht'), _, _, rfl, rfl, _, _, rfl, rfl, _, rfl, ?_⟩
          rw [List.length_map, List.length_map, decide_eq_false (by omega)]
          exact iteF ⟨rfl, rfl⟩
        · obtain ⟨rfl, rfl⟩ := hM
          refine ⟨_, rfl, _, rfl, .inl ⟨g, _, rfl, SqL.of hg, fun a2 na2 => ?_⟩⟩
          refine ⟨(by show 2 ≤ sizeLine; decide), fun a3 na3 => ?_⟩
          have tk : TK H'' (upd (upd H'' a2 (.tup vs)) a3 (.tup [.ref t, .ref a2])) := (TK.new na2).trans (TK.new na3)
          refine q _ a3 (same_new (same_new SM na2) na3) ((same_new (o := .tup vs) SM na2).free na3) (.tup upd_same (.cons (.tup (tk.tup _ _ ht') (dt_strs _ pl)) (.cons (.tup ((TK.new na3).tup _ _ upd_same) (DtAll.keep tk hA)) .nil)))
def spShown : Sp := fun vs H Q _ => ∃ (v : V) (pl : List Nm) (ts : List Tie), vs = [v] ∧ Dt H v (treeD pl ts) ∧ Fine pl ts ∧ ∀ H' : Hp, Same H H' → Q (.str (S (textT pl ts))) H'
theorem ok_tree_shown {f : Addr} {fd : FuncData} (F : Fun K "tree_shown" "tree_shown" s_tree_shown f fd) : FnOk P w K mg base CX0 1 f fd ["tree"] spShown := by
  refine F.ok sc_tree_shown (fun vs H Q E h => ?_) (fun cdv A outer s H vs Q E hr h => ?_)
  · obtain ⟨v, pl, ts, rfl, _⟩ := h
    rfl
  · obtain ⟨v, pl, ts, rfl, hd, fine, q⟩ := h
    obtain ⟨t, a, b, vs, rfl, ht, ha, hb, hA⟩ := dt_tree hd
    refine ⟨_, (pss_cons (ps_asg (pv 0) (pg_tup rfl (pgs_cons (pg_name (i := 1) sc_tree_shown.nd rfl (.inl rfl)) (pgs_cons (pg_name (i := 2) sc_tree_shown.nd rfl (.inl rfl)) pgs_nil))))
      (pss_cons (ps_set (i := 3) sc_tree_shown.nd rfl (.inl rfl) (pe_lst (pa_cons (pe_join pe_str (pv 1)) pa_nil)))
      (pss_cut (ps_for PassesOwn.never rfl (pi_tup (pv 2)) (pg_tup rfl (pgs_cons (pg_name (i := 4) sc_tree_shown.nd rfl (.inl rfl)) (pgs_cons (pg_name (i := 5) sc_tree_shown.nd rfl (.inl rfl)) (pgs_cons (pg_name (i := 6) sc_tree_shown.nd rfl (.inl rfl)) pgs_nil))))
        (pss_one (ps_expr (pe_bm PySem.F.plainAttrs_list PySem.F.slot_list_append PySem.F.type_list_append mt_append (pv 3) (pa_cons (pe_joined (.cons (pe_fmt (pv 4)) (.cons pe_str (.cons (pe_fmt (pv 5)) (.cons pe_str (.cons (pe_fmt (pv 6)) .nil)))))) pa_nil)))))
      (pss_one (ps_ret (pe_join pe_str (pv 3))))))), ?_⟩
    have hl := fine.headLen
    have pl1 := fine.len
    have len := fine.tree.len
    have vl : vs.length = ts.length := by
      have := DtAll.len hA
      rwa [List.length_map] at this
    refine ⟨_, rfl, t, _, rfl, SqT.of ht, rfl, _, _, rfl, _, _, rfl, rfl, ?_⟩
    have ej : Txt.join (" " : Str) (pl.map S) = S (joinW pl) := by
      rw [blank_is, SX.join_S]
      rfl
    have sj : ((pl.map S).map (·.length)).sum + (pl.map S).length * ((" " : Str)).length ≤ 16777216 := by
      have h2 := sum_le (B := 8) fun y hy => (fine.ok y hy).2.1
      have h3 : ((" " : Str)).length = 1 := by decide +kernel
      rw [SX.lens, List.length_map, h3]
      exact Nat.le_trans (Nat.add_le_add (show _ ≤ pl.length * 8 from h2) (Nat.le_refl _)) (by omega)
    refine ⟨⟨_, rfl⟩, _, rfl, _, a, pl.map S, rfl, rfl, .inr ha.sq, sj, (by show 1 ≤ sizeLine; decide), fun p np => ?_⟩
    rw [ej]
    refine ⟨fun σ' H' => ∃ x4 x5 x6, σ' = [some (.ref t), some (.ref a), some (.ref b), some (.ref p), x4, x5, x6] ∧ Same H H' ∧ H' p = some (.lst (((rowsT pl ts).map S).map V.str)), ?_, fun σ' H' hM => ?_⟩
    · refine ⟨_, rfl, b, rfl, ⟨_, SqT.of (by rw [upd_ne (ne_of_none hb np)]; exact hb)⟩, for_tup (K := K) (a := b) (xs := vs) (fun i σ' H' => ∃ x4 x5 x6, σ' = [some (.ref t), some (.ref a), some (.ref b), some (.ref p), x4, x5, x6] ∧ Same H H' ∧ H' p = some (.lst (((rowsT pl (ts.take i)).map S).map V.str)))
        ⟨none, none, none, rfl, same_new (Same.refl H) np, upd_same⟩ (fun i σ' H' _ hP => ?_) (fun i x σ' H' hi hP => ?_) (fun σ' H' hP => ?_)⟩
      · obtain ⟨_, _, _, _, sm, _⟩ := hP
        exact SqT.of (sm _ _ hb)
      · obtain ⟨x4, x5, x6, rfl, sm, hp⟩ := hP
        obtain ⟨d, hd, hx⟩ := DtAll.get hA hi
        rw [List.getElem?_map] at hd
        cases ee : ts[i]? with
        | none =>
          rw [ee] at hd
          cases hd
        | some e =>
          rw [ee] at hd
          have ed : d = tieD e := (Option.some.inj hd).symm
          subst ed
          obtain ⟨u, rfl, hu⟩ := dt_tie hx
          have em : e ∈ ts := List.mem_of_getElem? ee
          obtain ⟨i1, i2, k1, k2⟩ := fine.tree.ties e em
          obtain ⟨o1, o2⟩ := fine.okT em
          have ln := num_len k2
          have l1 := o1.2.1
          have l2 := o2.2.1
          have et : ts.take (i + 1) = ts.take i ++ [e] := by
            rw [List.take_add_one, ee]
            rfl
          refine ⟨u, _, rfl, SqT.of (sm _ _ hu), rfl, _, _, rfl, _, _, rfl, _, _, rfl, rfl, ?_⟩
          have ek : (toString e.2.2 : String) = toString ((e.2.2.toNat : Nat) : Int) := by
            congr 1
            omega
          have en : Str.ofString (toString e.2.2) = S (numW e.2.2) := by
            rw [ek]
            exact SX.num_S _
          have e0 : Str.empty = S [] := by decide +kernel
          have lb : e.2.2.natAbs.log2 < 1920 := Nat.lt_trans (PySem.Flt.log2_lt_of (k := 20) (by decide) (by
            have : (2 : Nat) ^ 20 = 1048576 := by decide
            omega)) (by decide)
          refine ⟨_, rfl, .inl ⟨rfl, _, SqL.of hp⟩, _, rfl, .inl ⟨S e.1, rfl, by rw [SX.S_len]; exact sz_le (by omega), S e.1, rfl, by rw [e0, SX.S_cat, SX.S_len]; exact sz_le (by simp; omega), " ", rfl, by rw [e0, SX.S_cat, blank_is, SX.S_cat, SX.S_len]; exact sz_le (by simp; omega),
            _, rfl, .inl ⟨S e.2.1, rfl, by rw [SX.S_len]; exact sz_le (by omega), S e.2.1, rfl, by rw [e0, SX.S_cat, blank_is, SX.S_cat, SX.S_cat, SX.S_len]; exact sz_le (by simp; omega), " ", rfl, by rw [e0, SX.S_cat, blank_is, SX.S_cat, SX.S_cat, SX.S_cat, SX.S_len]; exact sz_le (by simp; omega),
            _, rfl, .inr ⟨e.2.2, rfl, lb, S (numW e.2.2), congrArg V.str en, by rw [e0, SX.S_cat, blank_is, SX.S_cat, SX.S_cat, SX.S_cat, SX.S_cat, SX.S_len]; exact sz_le (by simp; omega), p, _, _, rfl, rfl, hp, by rw [List.length_map, List.length_map]; unfold rowsT; rw [List.length_cons, List.length_map, List.length_take]; exact sz_lt (by omega), ?_⟩⟩⟩⟩
          refine ⟨_, _, _, rfl, same_put sm np, ?_⟩
          rw [upd_same, e0, SX.S_cat, blank_is, SX.S_cat, SX.S_cat, SX.S_cat, SX.S_cat, et]
          have er : [] ++ e.1 ++ [32] ++ e.2.1 ++ [32] ++ numW e.2.2 = rowT e := by
            show _ = e.1 ++ ([32] ++ (e.2.1 ++ ([32] ++ numW e.2.2)))
            simp
          rw [er]
          unfold rowsT
          rw [List.map_append, List.map_cons, List.map_cons, List.map_cons, List.map_cons, List.map_append, List.map_append]
          rfl
      · obtain ⟨x4, x5, x6, rfl, sm, hp⟩ := hP
        rw [vl, List.take_length] at hp
        exact ⟨_, _, _, rfl, sm, hp⟩
    · obtain ⟨x4, x5, x6, rfl, sm, hp⟩ := hM
      have s1 := fine.sumLen
      have h3 : (("\n" : Str)).length = 1 := by decide +kernel
      refine ⟨⟨_, rfl⟩, _, rfl, _, p, (rowsT pl ts).map S, rfl, rfl, .inl (SqL.of hp), by rw [SX.lens, List.length_map, h3, Nat.mul_one]; exact Nat.le_trans (show _ ≤ 50000 from s1) (by decide), ?_⟩
      rw [feed_is, SX.join_S]
      exact q H' sm
end
end Far

namespace Far
open PySem PySem.Spec PyProof.Rows L2
open C8 (pss_cut tCut)
open SX (S)
/-- places with ties among them -/
structure Tied (pl : List Nm) (ts : List Tie) : Prop where
  nd : pl.Nodup
  ok : ∀ l ∈ pl, NameOk l
  len : pl.length ≤ 1000
  tlen : ts.length ≤ 1000
  tin : ∀ e ∈ ts, e.1 ∈ pl ∧ e.2.1 ∈ pl
/-- a part of the places, ps, with the ties among them, es, from which no tie leads on -/
structure FineC (pl : List Nm) (ts : List Tie) (ps : List Nm) (es : List Tie) : Prop where
  tree : IsTree ps es
  sub : ∀ x ∈ ps, x ∈ pl
  cl : ∀ x y k, x ∈ ps → Adj ts x y k → Adj es x y k
  inn : ∀ x y k, Adj es x y k → Adj ts x y k
  nd : pl.Nodup
  ok : ∀ l ∈ pl, NameOk l
  len : pl.length ≤ 1000
  tlen : ts.length ≤ 1000
  tin : ∀ e ∈ ts, e.1 ∈ pl ∧ e.2.1 ∈ pl
theorem Fine.comp {pl : List Nm} {ts : List Tie} (F : Fine pl ts) : FineC pl ts pl ts :=
  ⟨F.tree, fun _ h => h, fun _ _ _ _ h => h, fun _ _ _ h => h, F.tree.nodup, F.ok, F.len, by have := F.tree.len; have := F.len; omega, fun e he => ⟨(F.tree.ties e he).1, (F.tree.ties e he).2.1⟩⟩
theorem FineC.plen {pl : List Nm} {ts : List Tie} {ps : List Nm} {es : List Tie} (F : FineC pl ts ps es) : ps.length ≤ 1000 := Nat.le_trans (nodup_sub_len ps pl F.tree.nodup F.sub) F.len
theorem FineC.tied {pl : List Nm} {ts : List Tie} {ps : List Nm} {es : List Tie} (F : FineC pl ts ps es) : Tied pl ts := ⟨F.nd, F.ok, F.len, F.tlen, F.tin⟩
theorem Fine.tied {pl : List Nm} {ts : List Tie} (F : Fine pl ts) : Tied pl ts := F.comp.tied
/-- the lengths from u to those of fs at fa, those come to at wa, all else as at H0 -/
structure LW (H0 H' : Hp) (fa wa : Addr) (ts : List Tie) (u : Nm) (fs st : List Nm) : Prop where
  same : Same H0 H'
  far : H' fa = some (.dK (dkm fs fun x => .int (dist ts u x)))
  wait : H' wa = some (.lst ((st.map S).map V.str))
theorem LW.ne {H0 H' : Hp} {fa wa : Addr} {ts : List Tie} {u : Nm} {fs st : List Nm} (w : LW H0 H' fa wa ts u fs st) : fa ≠ wa := ne_of w.far w.wait (by intro z; cases z)
theorem LW.new {H0 H' : Hp} {fa wa p : Addr} {o : HO} {ts : List Tie} {u : Nm} {fs st : List Nm} (w : LW H0 H' fa wa ts u fs st) (np : H' p = none) : LW H0 (upd H' p o) fa wa ts u fs st :=
  ⟨same_new w.same np, by rw [upd_ne (ne_of_none w.far np)]; exact w.far, by rw [upd_ne (ne_of_none w.wait np)]; exact w.wait⟩
theorem LW.setW {H0 H' : Hp} {fa wa : Addr} {ts : List Tie} {u : Nm} {fs st st' : List Nm} (w : LW H0 H' fa wa ts u fs st) (n0 : H0 wa = none) : LW H0 (upd H' wa (.lst ((st'.map S).map V.str))) fa wa ts u fs st' :=
  ⟨same_put w.same n0, by rw [upd_ne w.ne]; exact w.far, upd_same⟩
theorem LW.setF {H0 H' : Hp} {fa wa : Addr} {ts : List Tie} {u y : Nm} {n : Int} {fs st : List Nm} (w : LW H0 H' fa wa ts u fs st) (n0 : H0 fa = none) (e : dist ts u y = n) : LW H0 (upd H' fa (.dK (dkm (fs ++ [y]) fun z => if z = y then V.int n else .int (dist ts u z)))) fa wa ts u (fs ++ [y]) st := by
  refine ⟨same_put w.same n0, ?_, by rw [upd_ne w.ne.symm]; exact w.wait⟩
  rw [upd_same]
  refine congrArg (fun z => some (HO.dK z)) (dkm_cong fun z _ => ?_)
  by_cases q : z = y
  · rw [if_pos q, q, e]
  · rw [if_neg q]
/-- the first i ties are gone along from h -/
def NbT (l : List Tie) (h : Nm) (fs : List Nm) : Prop := ∀ e ∈ l, (e.1 = h → e.2.1 ∈ fs) ∧ (e.2.1 = h → e.1 ∈ fs)
theorem NbT.more {l : List Tie} {h y : Nm} {fs : List Nm} (n : NbT l h fs) : NbT l h (fs ++ [y]) := fun e he => ⟨fun z => List.mem_append_left _ ((n e he).1 z), fun z => List.mem_append_left _ ((n e he).2 z)⟩
theorem Wk.popH {pl : List Nm} {ts : List Tie} {u h : Nm} {fs st : List Nm} {prev : Nm → Nm} (w : Wk pl ts u fs (h :: st) prev (fun _ => False)) : h ∈ fs ∧ Wk pl ts u fs st prev (fun x => x = h) := by
  refine ⟨w.sti h (by simp), w.nd, w.sub, fun x hx => w.sti x (List.mem_cons_of_mem _ hx), w.hu, w.cl, w.pr, fun x hx n ne => w.done x hx (fun z => ?_) (fun z => z)⟩
  rcases List.mem_cons.mp z with z | z
  · exact ne z
  · exact n z
abbrev s_law_lengths : Stmt := topS 43
abbrev N_law_lengths : List Str := ["tree", "place", "found", "layer", "behind", "here", "one", "other", "length", "near", "there"]
theorem sc_law_lengths : FnScope N_law_lengths ["tree", "place"] (defScope s_law_lengths) := ⟨rfl, rfl, rfl, by decide +kernel, rfl, by decide +kernel, by decide +kernel⟩
section
variable {P : Program} {w : World} {K : PySem.W.Frag} {mg : Str → Option Value} {base : Heap}
def spLayC : Sp := fun vs H Q _ => ∃ (v : V) (pl : List Nm) (ts : List Tie) (ps : List Nm) (es : List Tie) (u : Nm), vs = [v, .str (S u)] ∧ Dt H v (treeD pl ts) ∧ FineC pl ts ps es ∧ u ∈ ps ∧
  ∀ (H' : Hp) (D : Addr) (fs : List Nm), Same H H' → H D = none → H' D = some (.dK (dkm fs fun x => .int (dist es u x))) → fs.Nodup → (∀ x, x ∈ fs ↔ x ∈ ps) → Q (.ref D) H'
theorem ok_layC {f : Addr} {fd : FuncData} (F : Fun K "_law_lengths" "_law_lengths" s_law_lengths f fd) : FnOk P w K mg base CX0 2 f fd ["tree", "place"] spLayC := by
  refine F.ok sc_law_lengths (fun vs H Q E h => ?_) (fun cdv A outer s H vs Q E hr h => ?_)
  · obtain ⟨v, pl, ts, ps, es, u, rfl, _⟩ := h
    rfl
  · obtain ⟨v, pl, ts, ps, es, u, rfl, hd, fine, hu, q⟩ := h
    obtain ⟨t, a, b, vs, rfl, ht, ha, hb, hA⟩ := dt_tree hd
    have tr := fine.tree
    have nd := tr.nodup
    have pl1 := fine.plen
    have tl1 := tr.len
    have vl : vs.length = ts.length := by
      have := DtAll.len hA
      rwa [List.length_map] at this
    refine ⟨_, (pss_cons (ps_set (i := 2) sc_law_lengths.nd rfl (.inl rfl) (pe_disp (pps_cons (pv 1) pe_int pps_nil) (by rfl) (by rfl) (fun z => by cases z) (by decide)))
      (pss_cons (ps_set (i := 3) sc_law_lengths.nd rfl (.inl rfl) (pe_lst (pa_cons (pv 1) pa_nil)))
      (pss_cut (ps_while PassesOwn.never (pt_cmpR (op_neD (hd_of hr (by decide))) (pv 3) (pe_lst pa_nil) (nomark _))
        (pss_cons (ps_set (i := 4) sc_law_lengths.nd rfl (.inl rfl) (pe_lst pa_nil))
        (pss_cut (ps_for PassesOwn.never rfl (pi_list (pv 3)) (pg_name (i := 5) sc_law_lengths.nd rfl (.inl rfl))
          (pss_one (ps_for PassesOwn.never rfl (pi_tup (pe_ix ix_tup (pv 0) pe_int (fun _ _ => rfl))) (pg_tup rfl (pgs_cons (pg_name (i := 6) sc_law_lengths.nd rfl (.inl rfl)) (pgs_cons (pg_name (i := 7) sc_law_lengths.nd rfl (.inl rfl)) (pgs_cons (pg_name (i := 8) sc_law_lengths.nd rfl (.inl rfl)) pgs_nil))))
            (pss_one (ps_for PassesOwn.never rfl (pi_list (pe_lst (pa_cons (pe_tup (pa_cons (pv 6) (pa_cons (pv 7) pa_nil))) (pa_cons (pe_tup (pa_cons (pv 7) (pa_cons (pv 6) pa_nil))) pa_nil)))) (pg_tup rfl (pgs_cons (pg_name (i := 9) sc_law_lengths.nd rfl (.inl rfl)) (pgs_cons (pg_name (i := 10) sc_law_lengths.nd rfl (.inl rfl)) pgs_nil)))
              (pss_one (ps_if (PW.pt (pw_and (pt_cmpR op_eq (pv 9) (pv 5) (nomark _)) (pw_and1 (pt_cmp (pc_dnotin (hu_of hr) (pv 10) (pv 2))))))
                (pss_cons (ps_dput (hu_of hr) (pv 2) (pv 10) (pe_op op_add (pe_dget (hu_of hr) (pv 2) (pv 5) (fun _ _ => rfl)) (pv 8)) rfl)
                (pss_one (ps_expr (pe_bm PySem.F.plainAttrs_list PySem.F.slot_list_append PySem.F.type_list_append mt_append (pv 4) (pa_cons (pv 10) pa_nil)))))
                pss_nil)))))))
        (pss_one (ps_set (i := 3) sc_law_lengths.nd rfl (.inl rfl) (pv 4))))))
      (pss_one (ps_ret (pv 2)))))), ?_⟩
    refine fun fa nfa => ⟨_, rfl, upd_same, [(Sum.inr (S u), .int 0)], rfl, (by decide : 1 ≤ 15), ?_⟩
    rw [upd_upd]
    refine ⟨_, rfl, (by show 1 ≤ sizeLine; decide), fun l0 nl0 => ?_⟩
    have fw : fa ≠ l0 := ne_of_none upd_same nl0
    have L0 : LW H (upd (upd H fa (.dK (mergeK [] [((Sum.inr (S u) : Key), V.int 0)]))) l0 (.lst [.str (S u)])) fa l0 es u [u] [u] := by
      refine ⟨same_new (same_new (Same.refl H) nfa) nl0, ?_, upd_same⟩
      rw [upd_ne fw]
      refine upd_same.trans ?_
      unfold dkm
      rw [List.map_singleton]
      show some (HO.dK [((Sum.inr (S u) : Key), V.int 0)]) = some (HO.dK [((Sum.inr (S u) : Key), V.int (dist es u u))])
      rw [(tr.dist_self u).1]
    generalize upd (upd H fa (.dK (mergeK [] [((Sum.inr (S u) : Key), V.int 0)]))) l0 (.lst [.str (S u)]) = H1 at L0
    -- the walk
    refine ⟨fun σ2 H2 => ∃ (fs : List Nm) (prev : Nm → Nm) (la : Addr) (x4 x5 x6 x7 x8 x9 x10 : Option V), σ2 = [some (.ref t), some (.str (S u)), some (.ref fa), some (.ref la), x4, x5, x6, x7, x8, x9, x10] ∧ LW H H2 fa la es u fs [] ∧ Wk ps es u fs [] prev (fun _ => False), ?_, fun σ2 H2 hM => ?_⟩
    rotate_left
    · obtain ⟨fs, prev, la, x4, x5, x6, x7, x8, x9, x10, rfl, L2', wk⟩ := hM
      exact ⟨_, rfl, q H2 fa fs L2'.same nfa L2'.far wk.nd (wk.all tr)⟩
    · refine ⟨fun m σ2 H2 => ∃ (fs L : List Nm) (prev : Nm → Nm) (la : Addr) (x4 x5 x6 x7 x8 x9 x10 : Option V), σ2 = [some (.ref t), some (.str (S u)), some (.ref fa), some (.ref la), x4, x5, x6, x7, x8, x9, x10] ∧ LW H H2 fa la es u fs L ∧ Wk ps es u fs L prev (fun _ => False) ∧ L.length ≤ fs.length ∧ 2 * fs.length + m = 2 * ps.length + L.length,
        ⟨2 * ps.length - 1, [u], [u], fun _ => u, l0, none, none, none, none, none, none, none, rfl, L0, Wk.start tr hu, Nat.le_refl _, by have := List.length_pos_of_mem hu; simp; omega⟩, ?_⟩
      rintro m σ2 H2 ⟨fs, L, prev, la, x4, x5, x6, x7, x8, x9, x10, rfl, L2', wk, sl, em⟩
      refine ⟨_, rfl, Nat.zero_le _, fun p2 np2 => ?_⟩
      have L3 := L2'.new (o := .lst []) np2
      have ok : ∀ l ∈ L, NameOk l := fun l hl => fine.ok l (fine.sub _ (wk.sub l (wk.sti l hl)))
      refine ⟨_, _, .lst (SqL.of L3.wait) (dp_strs _ _ L), .lst (SqL.of upd_same) .nil, shaped_strs ok, rfl, _, rfl, ?_⟩
      refine ite2 (fun e1 => ?_) (fun e1 => ?_)
      rotate_left
      · have st0 : L = [] := by
          cases L with
          | nil => rfl
          | cons a r => exact absurd rfl e1
        subst st0
        exact ⟨fs, prev, la, _, _, _, _, _, _, _, rfl, L3, wk⟩
      · have Lpos : 0 < L.length := by
          cases L with
          | nil => exact absurd e1 (by decide)
          | cons a r => simp
        have fl := nodup_sub_len fs ps wk.nd wk.sub
        refine ⟨fun σ' H'' => ∃ (fs' L' : List Nm) (prev' : Nm → Nm) (la' : Addr) (x4 x5 x6 x7 x8 x9 x10 : Option V), σ' = [some (.ref t), some (.str (S u)), some (.ref fa), some (.ref la'), x4, x5, x6, x7, x8, x9, x10] ∧ LW H H'' fa la' es u fs' L' ∧ Wk ps es u fs' L' prev' (fun _ => False) ∧ fs'.length = fs.length + L'.length, ?_, ?_⟩
        · rintro σ' H'' ⟨fs', L', prev', la', y4, y5, y6, y7, y8, y9, y10, e1, e2, e7, e8⟩
          have fl' := nodup_sub_len fs' ps e7.nd e7.sub
          exact ⟨2 * ps.length + L'.length - 2 * fs'.length, by omega, fs', L', prev', la', y4, y5, y6, y7, y8, y9, y10, e1, e2, e7, by omega, by omega⟩
        generalize upd H2 p2 (.lst []) = H3 at L3
        refine ⟨Nat.zero_le _, fun be nbe => ?_⟩
        have hla := L3.wait
        have lb : la ≠ be := ne_of_none hla nbe
        have be0 : H be = none := L3.same.free nbe
        have LB : LW H (upd H3 be (.lst [])) fa be es u fs [] := ⟨same_new L3.same nbe, by rw [upd_ne (ne_of_none L3.far nbe)]; exact L3.far, upd_same⟩
        have hla2 : (upd H3 be (.lst [])) la = some (.lst ((L.map S).map V.str)) := by rw [upd_ne lb]; exact hla
        generalize upd H3 be (.lst []) = H4 at LB hla2
        refine ⟨fun σ' H'' => ∃ (fs' bh : List Nm) (prev' : Nm → Nm) (x5 x6 x7 x8 x9 x10 : Option V), σ' = [some (.ref t), some (.str (S u)), some (.ref fa), some (.ref la), some (.ref be), x5, x6, x7, x8, x9, x10] ∧ LW H H'' fa be es u fs' bh ∧ Wk ps es u fs' bh prev' (fun _ => False) ∧ fs'.length = fs.length + bh.length, ?_, fun σ' H'' hM => ?_⟩
        rotate_left
        · obtain ⟨fs', bh, prev', y5, y6, y7, y8, y9, y10, rfl, LE, wkE, lE⟩ := hM
          exact ⟨_, rfl, fs', bh, prev', be, _, _, _, _, _, _, _, rfl, LE, wkE, lE⟩
        · refine ⟨_, rfl, la, rfl, ⟨_, SqL.of hla2⟩, for_list (K := K) (a := la) (xs := (L.map S).map V.str) (fun i σ' H'' => ∃ (fs' bh : List Nm) (prev' : Nm → Nm) (x5 x6 x7 x8 x9 x10 : Option V), σ' = [some (.ref t), some (.str (S u)), some (.ref fa), some (.ref la), some (.ref be), x5, x6, x7, x8, x9, x10] ∧ LW H H'' fa be es u fs' bh ∧ H'' la = some (.lst ((L.map S).map V.str)) ∧ Wk ps es u fs' (L.drop i ++ bh) prev' (fun _ => False) ∧ fs'.length = fs.length + bh.length)
            ⟨fs, [], prev, x5, x6, x7, x8, x9, x10, rfl, LB, hla2, by rw [List.drop_zero, List.append_nil]; exact wk, rfl⟩ (fun i σ' H'' _ hP => ?_) (fun i x σ' H'' hi hP => ?_) (fun σ' H'' hP => ?_)⟩
          · obtain ⟨_, _, _, _, _, _, _, _, _, _, _, h, _⟩ := hP
            exact SqL.of h
          · obtain ⟨fs1, bh1, prev1, y5, y6, y7, y8, y9, y10, rfl, L4, hla4, wk4, em4⟩ := hP
            rw [List.getElem?_map, List.getElem?_map] at hi
            cases eh : L[i]? with
            | none => rw [eh] at hi; cases hi
            | some h =>
              rw [eh] at hi
              have ex : x = .str (S h) := (Option.some.inj hi).symm
              subst ex
              obtain ⟨iL, ehL⟩ := List.getElem?_eq_some_iff.mp eh
              rw [List.drop_eq_getElem_cons iL, ehL, List.cons_append] at wk4
              obtain ⟨hh, wk1⟩ := wk4.popH
              generalize L.drop (i + 1) = R at wk1
              -- the ties
              refine ⟨_, rfl, t, _, 1, .ref b, rfl, rfl, SqT.of (L4.same _ _ ht), atI_nat (j := 1) rfl, b, rfl, ⟨_, SqT.of (L4.same _ _ hb)⟩, for_tup (K := K) (a := b) (xs := vs) (fun i σ' H'' => ∃ (fs' bh : List Nm) (prev' : Nm → Nm) (x6 x7 x8 x9 x10 : Option V), σ' = [some (.ref t), some (.str (S u)), some (.ref fa), some (.ref la), some (.ref be), some (.str (S h)), x6, x7, x8, x9, x10] ∧ LW H H'' fa be es u fs' bh ∧ H'' la = some (.lst ((L.map S).map V.str)) ∧ Wk ps es u fs' (R ++ bh) prev' (fun x => x = h) ∧ fs'.length = fs.length + bh.length ∧ h ∈ fs' ∧ NbT (ts.take i) h fs')
                ⟨fs1, bh1, prev1, y6, y7, y8, y9, y10, rfl, L4, hla4, wk1, em4, hh, fun e he => (by cases he)⟩ (fun i σ' H'' _ hP => ?_) (fun i x σ' H'' hi hP => ?_) (fun σ' H'' hP => ?_)⟩
              · obtain ⟨_, _, _, _, _, _, _, _, _, L5, _⟩ := hP
                exact SqT.of (L5.same _ _ hb)
              · obtain ⟨fs', bh, prev', y6, y7, y8, y9, y10, rfl, L5, hla5, wk5, em5, hh5, nb5⟩ := hP
                obtain ⟨d, hd', hx⟩ := DtAll.get hA hi
                rw [List.getElem?_map] at hd'
                cases ee : ts[i]? with
                | none =>
                  rw [ee] at hd'
                  cases hd'
                | some e =>
                  rw [ee] at hd'
                  have ed : d = tieD e := (Option.some.inj hd').symm
                  subst ed
                  obtain ⟨g, rfl, hg⟩ := dt_tie hx
                  have hem : e ∈ ts := List.mem_of_getElem? ee
                  have et : ts.take (i + 1) = ts.take i ++ [e] := by
                    rw [List.take_add_one, ee]
                    rfl
                  refine ⟨g, _, rfl, SqT.of (L5.same _ _ hg), rfl, _, _, rfl, _, _, rfl, _, _, rfl, rfl, ?_⟩
                  -- the two ways about
                  refine ⟨_, rfl, _, rfl, (by show 2 ≤ sizeLine; decide), fun c1 nc1 => ?_⟩
                  have L6 := L5.new (o := .tup [.str (S e.1), .str (S e.2.1)]) nc1
                  have hla6 := same_new (o := .tup [.str (S e.1), .str (S e.2.1)]) (Same.refl H'') nc1 _ _ hla5
                  refine ⟨_, rfl, _, rfl, (by show 2 ≤ sizeLine; decide), fun c2 nc2 => ?_⟩
                  have L7 := L6.new (o := .tup [.str (S e.2.1), .str (S e.1)]) nc2
                  have hla7 := same_new (o := .tup [.str (S e.2.1), .str (S e.1)]) (Same.refl _) nc2 _ _ hla6
                  refine ⟨(by show 2 ≤ sizeLine; decide), fun c3 nc3 => ?_⟩
                  have cb : c3 ≠ be := fun z => by
                    have := L7.wait
                    rw [← z, nc3] at this
                    cases this
                  have L8 := L7.new (o := .lst [.ref c1, .ref c2]) nc3
                  have hla8 := same_new (o := .lst [.ref c1, .ref c2]) (Same.refl _) nc3 _ _ hla7
                  have h1 : (upd (upd (upd H'' c1 (.tup [.str (S e.1), .str (S e.2.1)])) c2 (.tup [.str (S e.2.1), .str (S e.1)])) c3 (.lst [.ref c1, .ref c2])) c1 = some (.tup [.str (S e.1), .str (S e.2.1)]) := ((TK.new nc2).trans (TK.new nc3)).tup _ _ upd_same
                  have h2 : (upd (upd (upd H'' c1 (.tup [.str (S e.1), .str (S e.2.1)])) c2 (.tup [.str (S e.2.1), .str (S e.1)])) c3 (.lst [.ref c1, .ref c2])) c2 = some (.tup [.str (S e.2.1), .str (S e.1)]) := (TK.new nc3).tup _ _ upd_same
                  have h3 : (upd (upd (upd H'' c1 (.tup [.str (S e.1), .str (S e.2.1)])) c2 (.tup [.str (S e.2.1), .str (S e.1)])) c3 (.lst [.ref c1, .ref c2])) c3 = some (.lst [.ref c1, .ref c2]) := upd_same
                  generalize upd (upd (upd H'' c1 (.tup [.str (S e.1), .str (S e.2.1)])) c2 (.tup [.str (S e.2.1), .str (S e.1)])) c3 (.lst [.ref c1, .ref c2]) = H8 at L8 h1 h2 h3 hla8
                  refine ⟨c3, rfl, ⟨_, SqL.of h3⟩, for_list (K := K) (a := c3) (xs := [.ref c1, .ref c2]) (fun j σ' H9 => ∃ (fs' bh : List Nm) (prev' : Nm → Nm) (x9 x10 : Option V), σ' = [some (.ref t), some (.str (S u)), some (.ref fa), some (.ref la), some (.ref be), some (.str (S h)), some (.str (S e.1)), some (.str (S e.2.1)), some (.int e.2.2), x9, x10] ∧ LW H H9 fa be es u fs' bh ∧ H9 la = some (.lst ((L.map S).map V.str)) ∧ H9 c3 = some (.lst [.ref c1, .ref c2]) ∧ TK H8 H9 ∧ Wk ps es u fs' (R ++ bh) prev' (fun x => x = h) ∧ fs'.length = fs.length + bh.length ∧ h ∈ fs' ∧ NbT (ts.take i) h fs' ∧ (1 ≤ j → e.1 = h → e.2.1 ∈ fs') ∧ (2 ≤ j → e.2.1 = h → e.1 ∈ fs'))
                    ⟨fs', bh, prev', y9, y10, rfl, L8, hla8, h3, TK.refl _, wk5, em5, hh5, nb5, fun z => absurd z (by omega), fun z => absurd z (by omega)⟩ (fun j σ' H9 _ hP => ?_) (fun j x σ' H9 hj hP => ?_) (fun σ' H9 hP => ?_)⟩
                  · obtain ⟨_, _, _, _, _, _, _, _, h, _⟩ := hP
                    exact SqL.of h
                  · clear wk5 em5 hh5 nb5 L5 L6 L7 L8 hla5 hla6 hla7 hla8
                    clear fs' bh prev'
                    obtain ⟨fs', bh, prev', y9, y10, rfl, L9, hla9, hc9, tk9, wk9, em9, hh9, nb9, n1, n2⟩ := hP
                    obtain ⟨cc, pp, qq, rfl, hcc, hpq⟩ : ∃ (cc : Addr) (pp qq : Nm), x = .ref cc ∧ H8 cc = some (.tup [.str (S pp), .str (S qq)]) ∧ ((j = 0 ∧ pp = e.1 ∧ qq = e.2.1) ∨ (j = 1 ∧ pp = e.2.1 ∧ qq = e.1)) := by
                      match j, hj with
                      | 0, hj => exact ⟨c1, _, _, (Option.some.inj hj).symm, h1, .inl ⟨rfl, rfl, rfl⟩⟩
                      | 1, hj => exact ⟨c2, _, _, (Option.some.inj hj).symm, h2, .inr ⟨rfl, rfl, rfl⟩⟩
                    have adj : Adj ts pp qq e.2.2 := by
                      rcases hpq with ⟨_, z1, z2⟩ | ⟨_, z1, z2⟩ <;> rw [z1, z2]
                      · exact .inl hem
                      · exact .inr hem
                    have fl' := nodup_sub_len fs' ps wk9.nd wk9.sub
                    have szf : ∀ f : Nm → V, (dkm fs' f).length < sizeLine := fun f => by
                      unfold dkm
                      rw [List.length_map]
                      exact sz_lt (by omega)
                    have nx : ∀ fs2 : List Nm, (∀ x ∈ fs', x ∈ fs2) → (pp = h → qq ∈ fs2) → NbT (ts.take i) h fs2 ∧ (1 ≤ j + 1 → e.1 = h → e.2.1 ∈ fs2) ∧ (2 ≤ j + 1 → e.2.1 = h → e.1 ∈ fs2) := fun fs2 sub hq => by
                      refine ⟨fun e' he' => ⟨fun z => sub _ ((nb9 e' he').1 z), fun z => sub _ ((nb9 e' he').2 z)⟩, fun _ z => ?_, fun z2 z => ?_⟩
                      · rcases hpq with ⟨j0, z1, z2⟩ | ⟨j1, z1, z2⟩
                        · rw [← z2]
                          exact hq (z1.trans z)
                        · exact sub _ (n1 (by omega) z)
                      · rcases hpq with ⟨j0, z1, z2'⟩ | ⟨j1, z1, z2'⟩
                        · omega
                        · rw [← z2']
                          exact hq (z1.trans z)
                    refine ⟨cc, _, rfl, SqT.of (tk9.tup _ _ hcc), rfl, _, _, rfl, _, _, rfl, rfl, ?_⟩
                    refine ⟨_, rfl, _, rfl, rfl, _, rfl, ?_⟩
                    refine ite2 (fun z1 => ?_) (fun z1 => ?_)
                    · have ph : pp = h := by
                        have := of_decide_eq_true z1
                        exact SX.S_inj (V.str.inj this)
                      refine ⟨_, rfl, _, rfl, fa, _, rfl, DGet.k (k := Sum.inr (S qq)) L9.far, _, rfl, ?_⟩
                      rw [dkm_some]
                      by_cases hy : qq ∈ fs'
                      · rw [decide_eq_true hy]
                        obtain ⟨k1, k2, k3⟩ := nx fs' (fun _ z => z) fun _ => hy
                        exact iteF ⟨fs', bh, prev', _, _, rfl, L9, hla9, hc9, tk9, wk9, em9, hh9, k1, k2, k3⟩
                      · rw [decide_eq_false hy]
                        refine iteT ?_
                        rw [ph] at adj
                        obtain ⟨e1, wk8⟩ := wk9.push tr hh9 (fine.cl _ _ _ (wk9.sub _ hh9) adj) hy
                        refine ⟨_, rfl, _, rfl, fa, .int (dist es u h), rfl, by rw [← dkm_get (f := fun x => V.int (dist es u x)) hh9]; exact DGet.k (k := Sum.inr (S h)) L9.far, _, rfl, _, _, rfl, rfl, _, rfl, _, rfl, fa, _, rfl, DPut.k (k := Sum.inr (S qq)) L9.far (szf _), ?_⟩
                        rw [dkm_new hy]
                        have L10 := L9.setF nfa e1
                        have tk10 := tk9.trans (tkD (o := .dK (dkm (fs' ++ [qq]) fun z => if z = qq then V.int (dist es u h + e.2.2) else .int (dist es u z))) L9.far)
                        have hla10 : (upd H9 fa (.dK (dkm (fs' ++ [qq]) fun z => if z = qq then V.int (dist es u h + e.2.2) else .int (dist es u z)))) la = some (.lst ((L.map S).map V.str)) := by rw [upd_ne (ne_of hla9 L9.far (by intro z; cases z))]; exact hla9
                        have hc10 : (upd H9 fa (.dK (dkm (fs' ++ [qq]) fun z => if z = qq then V.int (dist es u h + e.2.2) else .int (dist es u z)))) c3 = some (.lst [.ref c1, .ref c2]) := by rw [upd_ne (ne_of hc9 L9.far (by intro z; cases z))]; exact hc9
                        generalize upd H9 fa (.dK (dkm (fs' ++ [qq]) fun z => if z = qq then V.int (dist es u h + e.2.2) else .int (dist es u z))) = H10 at L10 tk10 hla10 hc10
                        have stl : bh.length ≤ 3000 := by omega
                        refine ⟨_, rfl, .inl ⟨rfl, _, SqL.of L10.wait⟩, _, rfl, be, _, _, rfl, rfl, L10.wait, by rw [List.length_map, List.length_map]; exact sz_lt (by omega), ?_⟩
                        obtain ⟨k1, k2, k3⟩ := nx (fs' ++ [qq]) (fun _ z => List.mem_append_left _ z) fun _ => List.mem_append_right _ (List.mem_singleton.mpr rfl)
                        have ea : (bh.map S).map V.str ++ [V.str (S qq)] = ((bh ++ [qq]).map S).map V.str := by
                          rw [List.map_append, List.map_append]
                          rfl
                        rw [ea]
                        rw [List.append_assoc] at wk8
                        exact ⟨fs' ++ [qq], bh ++ [qq], _, _, _, rfl, L10.setW be0, by rw [upd_ne lb]; exact hla10, by rw [upd_ne cb]; exact hc10, tk10.trans (TK.mut L10.wait), wk8, by rw [List.length_append, List.length_append]; simp; omega, List.mem_append_left _ hh9, k1, k2, k3⟩
                    · have ph : pp ≠ h := fun z => by
                        rw [z] at z1
                        exact z1 (decide_eq_true rfl)
                      obtain ⟨k1, k2, k3⟩ := nx fs' (fun _ z => z) fun z => absurd z ph
                      exact ⟨fs', bh, prev', _, _, rfl, L9, hla9, hc9, tk9, wk9, em9, hh9, k1, k2, k3⟩
                  · obtain ⟨fs', bh, prev', y9, y10, rfl, L9, hla9, hc9, tk9, wk9, em9, hh9, nb9, n1, n2⟩ := hP
                    refine ⟨fs', bh, prev', _, _, _, _, _, rfl, L9, hla9, wk9, em9, hh9, fun e' he' => ?_⟩
                    rw [et] at he'
                    rcases List.mem_append.mp he' with z | z
                    · exact nb9 e' z
                    · rw [List.mem_singleton.mp z]
                      exact ⟨n1 (by simp), n2 (by simp)⟩
              · obtain ⟨fs', bh, prev', y6, y7, y8, y9, y10, rfl, L5, hla5, wk5, em5, hh5, nb5⟩ := hP
                rw [vl, List.take_length] at nb5
                refine ⟨fs', bh, prev', _, _, _, _, _, _, rfl, L5, hla5, wk5.shut fun y k hadj => ?_, em5⟩
                rcases fine.inn _ _ _ hadj with z | z
                · exact (nb5 _ z).1 rfl
                · exact (nb5 _ z).2 rfl
          · obtain ⟨fs', bh, prev', y5, y6, y7, y8, y9, y10, rfl, LE, _, wkE, lE⟩ := hP
            rw [List.length_map, List.length_map, List.drop_length, List.nil_append] at wkE
            exact ⟨fs', bh, prev', y5, y6, y7, y8, y9, y10, rfl, LE, wkE, lE⟩
def spLay : Sp := fun vs H Q _ => ∃ (v : V) (pl : List Nm) (ts : List Tie) (u : Nm), vs = [v, .str (S u)] ∧ Dt H v (treeD pl ts) ∧ Fine pl ts ∧ u ∈ pl ∧
  ∀ (H' : Hp) (D : Addr) (fs : List Nm), Same H H' → H D = none → H' D = some (.dK (dkm fs fun x => .int (dist ts u x))) → fs.Nodup → (∀ x, x ∈ fs ↔ x ∈ pl) → Q (.ref D) H'
theorem ok_lay {f : Addr} {fd : FuncData} (F : Fun K "_law_lengths" "_law_lengths" s_law_lengths f fd) : FnOk P w K mg base CX0 2 f fd ["tree", "place"] spLay :=
  (ok_layC F).imp fun vs H Q E ⟨v, pl, ts, u, e, hd, fine, hu, q⟩ => ⟨v, pl, ts, pl, ts, u, e, hd, fine.comp, hu, q⟩
end
end Far

namespace Far
end Far

namespace Far
open PySem PySem.Spec PyProof.Rows L2
open C8 (pss_cut tCut)
open SX (S)
structure TxtW (mg : Str → Option Value) : Prop where
  tuple : mg "tuple" = none
/-! ### the ties of each place -/
def pairD (x : Nm × Int) : PyData := .tuple [.str (S x.1), .int x.2]
theorem dt_pairD {H : Hp} {v : V} {x : Nm × Int} (h : Dt H v (pairD x)) : ∃ t : Addr, v = .ref t ∧ H t = some (.tup [.str (S x.1), .int x.2]) := by
  obtain ⟨t, a, b, rfl, ht, h1, h2⟩ := dt_pair h fun l z => nomatch z
  cases h1
  cases h2
  exact ⟨t, rfl, ht⟩
/-- at D: for each place a list of its own, of the places tied to it with the ties' lengths -/
structure BesideAt (H : Hp) (D : Addr) (pl : List Nm) (ad : Nm → Addr) (nb : Nm → List (Nm × Int)) : Prop where
  dict : H D = some (.dK (dkm pl fun l => .ref (ad l)))
  each : ∀ l ∈ pl, ∃ vs, H (ad l) = some (.lst vs) ∧ DtAll H vs ((nb l).map pairD)
  inj : ∀ l ∈ pl, ∀ m ∈ pl, ad l = ad m → l = m
def nbAdd (nb : Nm → List (Nm × Int)) (a : Nm) (x : Nm × Int) : Nm → List (Nm × Int) := fun l => if l = a then nb l ++ [x] else nb l
theorem BesideAt.keep {H H' : Hp} {D : Addr} {pl : List Nm} {ad : Nm → Addr} {nb : Nm → List (Nm × Int)} (b : BesideAt H D pl ad nb) (s : Same H H') : BesideAt H' D pl ad nb :=
  ⟨s _ _ b.dict, fun l hl => let ⟨vs, h1, h2⟩ := b.each l hl; ⟨vs, s _ _ h1, DtAll.keep (TK.of s) h2⟩, b.inj⟩
theorem BesideAt.ne {H : Hp} {D : Addr} {pl : List Nm} {ad : Nm → Addr} {nb : Nm → List (Nm × Int)} (b : BesideAt H D pl ad nb) {l : Nm} (hl : l ∈ pl) : ad l ≠ D := by
  obtain ⟨vs, h, _⟩ := b.each l hl
  exact ne_of h b.dict (by intro z; cases z)
theorem BesideAt.add {H : Hp} {D : Addr} {pl : List Nm} {ad : Nm → Addr} {nb : Nm → List (Nm × Int)} (b : BesideAt H D pl ad nb) {a : Nm} (ha : a ∈ pl) {x : Nm × Int} {v : V} {vs : List V} (hv : Dt H v (pairD x)) (hvs : H (ad a) = some (.lst vs)) :
    BesideAt (upd H (ad a) (.lst (vs ++ [v]))) D pl ad (nbAdd nb a x) := by
  have tk : TK H (upd H (ad a) (.lst (vs ++ [v]))) := TK.mut hvs
  refine ⟨by rw [upd_ne (b.ne ha).symm]; exact b.dict, fun l hl => ?_, b.inj⟩
  by_cases e : l = a
  · subst e
    obtain ⟨ws, h1, h2⟩ := b.each l hl
    rw [hvs] at h1
    cases h1
    refine ⟨_, upd_same, ?_⟩
    unfold nbAdd
    rw [if_pos rfl, List.map_append]
    exact DtAll.app (DtAll.keep tk h2) (.cons (Dt.keep tk hv) .nil)
  · obtain ⟨ws, h1, h2⟩ := b.each l hl
    refine ⟨ws, by rw [upd_ne (fun z => e (b.inj l hl a ha z))]; exact h1, ?_⟩
    unfold nbAdd
    rw [if_neg e]
    exact DtAll.keep tk h2
/-- the ties of a place, as the program takes them down -/
def nbOf : List Tie → Nm → List (Nm × Int) := List.foldl (fun nb e => nbAdd (nbAdd nb e.1 (e.2.1, e.2.2)) e.2.1 (e.1, e.2.2)) (fun _ => [])
theorem nbOf_snoc (ts : List Tie) (e : Tie) : nbOf (ts ++ [e]) = nbAdd (nbAdd (nbOf ts) e.1 (e.2.1, e.2.2)) e.2.1 (e.1, e.2.2) := by
  unfold nbOf
  rw [List.foldl_append]
  rfl
theorem list_rec_snoc {α : Type} {P : List α → Prop} (h0 : P []) (h1 : ∀ l x, P l → P (l ++ [x])) : ∀ l, P l := by
  intro l
  have : ∀ r : List α, P r.reverse := by
    intro r
    induction r with
    | nil => exact h0
    | cons x r ih =>
      rw [List.reverse_cons]
      exact h1 _ _ ih
  have q := this l.reverse
  rwa [List.reverse_reverse] at q
theorem nbAdd_mem {nb : Nm → List (Nm × Int)} {a l : Nm} {x y : Nm × Int} : y ∈ nbAdd nb a x l ↔ y ∈ nb l ∨ (l = a ∧ y = x) := by
  unfold nbAdd
  by_cases e : l = a
  · rw [if_pos e, List.mem_append, List.mem_singleton]
    simp [e]
  · rw [if_neg e]
    simp [e]
theorem nbOf_adj (ts : List Tie) : ∀ (l x : Nm) (k : Int), (x, k) ∈ nbOf ts l ↔ Adj ts l x k := by
  induction ts using list_rec_snoc with
  | h0 =>
    intro l x k
    constructor
    · intro h
      cases h
    · intro h
      rcases h with h | h <;> cases h
  | h1 ts e ih =>
    intro l x k
    rw [nbOf_snoc, nbAdd_mem, nbAdd_mem, ih]
    obtain ⟨a, b, m⟩ := e
    constructor
    · rintro ((h | ⟨h1, h2⟩) | ⟨h1, h2⟩)
      · exact h.elim (fun z => .inl (List.mem_append_left _ z)) fun z => .inr (List.mem_append_left _ z)
      · cases h2
        exact .inl (by rw [h1]; simp)
      · cases h2
        exact .inr (by rw [h1]; simp)
    · rintro (h | h) <;> rcases List.mem_append.mp h with z | z
      · exact .inl (.inl (.inl z))
      · have z := List.mem_singleton.mp z
        cases z
        exact .inl (.inr ⟨rfl, rfl⟩)
      · exact .inl (.inl (.inr z))
      · have z := List.mem_singleton.mp z
        cases z
        exact .inr ⟨rfl, rfl⟩
theorem nbAdd_len {nb : Nm → List (Nm × Int)} {a l : Nm} {x : Nm × Int} : (nbAdd nb a x l).length ≤ (nb l).length + 1 := by
  unfold nbAdd
  split
  · rw [List.length_append]
    exact Nat.le_refl _
  · omega
theorem nbOf_len (ts : List Tie) : ∀ l, (nbOf ts l).length ≤ 2 * ts.length := by
  induction ts using list_rec_snoc with
  | h0 => intro l; exact Nat.zero_le _
  | h1 ts e ih =>
    intro l
    rw [nbOf_snoc, List.length_append, List.length_singleton]
    have h1 := nbAdd_len (nb := nbAdd (nbOf ts) e.1 (e.2.1, e.2.2)) (a := e.2.1) (l := l) (x := (e.1, e.2.2))
    have h2 := nbAdd_len (nb := nbOf ts) (a := e.1) (l := l) (x := (e.2.1, e.2.2))
    have h3 := ih l
    omega
/-- another object changes -/
theorem BesideAt.off {H : Hp} {D g : Addr} {o : HO} {pl : List Nm} {ad : Nm → Addr} {nb : Nm → List (Nm × Int)} (b : BesideAt H D pl ad nb) (tk : TK H (upd H g o)) (n : D ≠ g) (na : ∀ l ∈ pl, ad l ≠ g) : BesideAt (upd H g o) D pl ad nb :=
  ⟨by rw [upd_ne n]; exact b.dict, fun l hl => let ⟨vs, h1, h2⟩ := b.each l hl; ⟨vs, by rw [upd_ne (na l hl)]; exact h1, DtAll.keep tk h2⟩, b.inj⟩
abbrev s_ties_of_each : Stmt := topS 9
abbrev N_ties_of_each : List Str := ["tree", "places", "ties", "beside", "one", "other", "length", "place"]
theorem sc_ties_of_each : FnScope N_ties_of_each ["tree"] (defScope s_ties_of_each) := ⟨rfl, rfl, rfl, by decide +kernel, rfl, by decide +kernel, by decide +kernel⟩
section
variable {P : Program} {w : World} {K : PySem.W.Frag} {mg : Str → Option Value} {base : Heap}
def spTies : Sp := fun vs H Q _ => ∃ (v : V) (pl : List Nm) (ts : List Tie), vs = [v] ∧ Dt H v (treeD pl ts) ∧ Tied pl ts ∧ ∀ (H' : Hp) (D : Addr) (ad : Nm → Addr), Same H H' → H D = none → BesideAt H' D pl ad (nbOf ts) → (∀ l ∈ pl, H (ad l) = none) → Q (.ref D) H'
theorem ok_ties_of_each {f : Addr} {fd : FuncData} (F : Fun K "_ties_of_each" "_ties_of_each" s_ties_of_each f fd) : FnOk P w K mg base CX0 1 f fd ["tree"] spTies := by
  refine F.ok sc_ties_of_each (fun vs H Q E h => ?_) (fun cdv A outer s H vs Q E hr h => ?_)
  · obtain ⟨v, pl, ts, rfl, _⟩ := h
    rfl
  · obtain ⟨v, pl, ts, rfl, hd, fine, q⟩ := h
    obtain ⟨t, a, b, vs, rfl, ht, ha, hb, hA⟩ := dt_tree hd
    refine ⟨_, (pss_cons (ps_asg (pv 0) (pg_tup rfl (pgs_cons (pg_name (i := 1) sc_ties_of_each.nd rfl (.inl rfl)) (pgs_cons (pg_name (i := 2) sc_ties_of_each.nd rfl (.inl rfl)) pgs_nil))))
      (pss_cons (ps_setDc (i := 3) (own := [("place", 7)]) (g := gName 7) (tt := tYes) rfl sc_ties_of_each.nd rfl rfl (swD_true rfl rfl rfl (by decide +kernel)) (pi_tup (pv 1)) (blkOk_by (N := N_ties_of_each) (sc := defScope s_ties_of_each) (by decide +kernel)) (fun _ _ _ _ _ => pg_name (i := 7) sc_ties_of_each.nd rfl (Or.inl rfl)) (fun _ _ _ _ _ => pts_nil) (fun _ _ _ _ _ => (pv 7)) (fun _ _ _ _ _ => (pe_lst pa_nil)))
      (pss_cut (ps_for PassesOwn.never rfl (pi_tup (pv 2)) (pg_tup rfl (pgs_cons (pg_name (i := 4) sc_ties_of_each.nd rfl (.inl rfl)) (pgs_cons (pg_name (i := 5) sc_ties_of_each.nd rfl (.inl rfl)) (pgs_cons (pg_name (i := 6) sc_ties_of_each.nd rfl (.inl rfl)) pgs_nil))))
        (pss_cons (ps_expr (pe_bm PySem.F.plainAttrs_list PySem.F.slot_list_append PySem.F.type_list_append mt_append (pe_dget (hu_of hr) (pv 3) (pv 4) (fun _ _ => rfl)) (pa_cons (pe_tup (pa_cons (pv 5) (pa_cons (pv 6) pa_nil))) pa_nil)))
        (pss_one (ps_expr (pe_bm PySem.F.plainAttrs_list PySem.F.slot_list_append PySem.F.type_list_append mt_append (pe_dget (hu_of hr) (pv 3) (pv 5) (fun _ _ => rfl)) (pa_cons (pe_tup (pa_cons (pv 4) (pa_cons (pv 6) pa_nil))) pa_nil))))))
      (pss_one (ps_ret (pv 3)))))), ?_⟩
    have nd := fine.nd
    have pl1 := fine.len
    have len := fine.tlen
    have vl : vs.length = ts.length := by
      have := DtAll.len hA
      rwa [List.length_map] at this
    refine ⟨_, rfl, t, _, rfl, SqT.of ht, rfl, _, _, rfl, _, _, rfl, rfl, ?_⟩
    refine ⟨_, rfl, a, rfl, ⟨_, ha.sq⟩, fun D nD => ?_⟩
    have Da : D ≠ a := (ha.ne nD).symm
    refine dc_tup (K := K) (a := a) (xs := (pl.map S).map V.str) (fun i H' => ∃ ad : Nm → Addr, Same H H' ∧ BesideAt H' D (pl.take i) ad (fun _ => []) ∧ ∀ l ∈ pl.take i, H (ad l) = none) ⟨fun _ => 0, same_new (Same.refl H) nD, ⟨upd_same, fun l hl => (by cases hl), fun l hl => (by cases hl)⟩, fun l hl => (by cases hl)⟩ (fun i H' _ hP => ?_) (fun i x H' hi hP => ?_) (fun H' hP => ?_)
    · obtain ⟨_, sm, _⟩ := hP
      exact (ha.same sm).sq
    · obtain ⟨ad, sm, bs, fr⟩ := hP
      rw [List.getElem?_map, List.getElem?_map] at hi
      cases el : pl[i]? with
      | none =>
        rw [el] at hi
        cases hi
      | some l =>
        rw [el] at hi
        have ex : x = .str (S l) := (Option.some.inj hi).symm
        subst ex
        have ln : l ∉ pl.take i := fun hm => by
          obtain ⟨j, hj, ej⟩ := List.mem_take_iff_getElem.mp hm
          obtain ⟨hi', ei⟩ := List.getElem?_eq_some_iff.mp el
          have := (List.getElem_inj nd).mp (ej.trans ei.symm)
          omega
        have et : pl.take (i + 1) = pl.take i ++ [l] := by
          rw [List.take_add_one, el]
          rfl
        refine ⟨rfl, _, rfl, Nat.zero_le _, fun g ng => ?_⟩
        have gD : g ≠ D := (ne_of_none bs.dict ng).symm
        have hD : (upd H' g (.lst [])) D = some (.dK (dkm (pl.take i) fun l => .ref (ad l))) := by
          rw [upd_ne gD.symm]
          exact bs.dict
        refine ⟨_, Sum.inr (S l), rfl, hD, by unfold dkm; rw [List.length_map, List.length_take]; exact sz_lt (by omega), ?_⟩
        rw [dkm_new ln, et]
        have adg : ∀ m ∈ pl.take i, ad m ≠ g := fun m hm => by
          obtain ⟨ws, h1, _⟩ := bs.each m hm
          exact ne_of_none h1 ng
        refine ⟨fun z => if z = l then g else ad z, same_put (same_new sm ng) nD, ⟨?_, fun m hm => ?_, fun m hm m' hm' => ?_⟩, fun m hm => ?_⟩
        · rw [upd_same]
          refine congrArg (fun z => some (HO.dK z)) (dkm_cong fun z _ => ?_)
          by_cases e : z = l <;> simp [e]
        · rcases List.mem_append.mp hm with z | z
          · have ml : m ≠ l := fun e => ln (e ▸ z)
            obtain ⟨ws, h1, h2⟩ := bs.each m z
            refine ⟨ws, ?_, DtAll.keep ((TK.new ng).trans (tkD hD)) h2⟩
            rw [if_neg ml, upd_ne (bs.ne z), upd_ne (adg m z)]
            exact h1
          · rw [List.mem_singleton.mp z, if_pos rfl]
            exact ⟨[], by rw [upd_ne gD]; exact upd_same, .nil⟩
        · rcases List.mem_append.mp hm with z | z <;> rcases List.mem_append.mp hm' with y | y
          · have ml : m ≠ l := fun e => ln (e ▸ z)
            have ml' : m' ≠ l := fun e => ln (e ▸ y)
            rw [if_neg ml, if_neg ml']
            exact bs.inj m z m' y
          · have ml : m ≠ l := fun e => ln (e ▸ z)
            rw [if_neg ml, List.mem_singleton.mp y, if_pos rfl]
            exact fun e => absurd e (adg m z)
          · have ml' : m' ≠ l := fun e => ln (e ▸ y)
            rw [if_neg ml', List.mem_singleton.mp z, if_pos rfl]
            exact fun e => absurd e.symm (adg m' y)
          · rw [List.mem_singleton.mp z, List.mem_singleton.mp y]
            exact fun _ => rfl
        · rcases List.mem_append.mp hm with z | z
          · have ml : m ≠ l := fun e => ln (e ▸ z)
            show H (if m = l then g else ad m) = none
            rw [if_neg ml]
            exact fr m z
          · rw [List.mem_singleton.mp z]
            show H (if l = l then g else ad l) = none
            rw [if_pos rfl]
            exact sm.free ng
    · obtain ⟨ad, sm, bs, fr⟩ := hP
      rw [List.length_map, List.length_map, List.take_length] at bs fr
      refine ⟨fun σ2 H2 => ∃ x4 x5 x6, σ2 = [some (.ref t), some (.ref a), some (.ref b), some (.ref D), x4, x5, x6, none] ∧ Same H H2 ∧ BesideAt H2 D pl ad (nbOf ts), ?_, fun σ2 H2 hM => ?_⟩
      · refine ⟨_, rfl, b, rfl, ⟨_, SqT.of (sm _ _ hb)⟩, for_tup (K := K) (a := b) (xs := vs) (fun i σ2 H2 => ∃ x4 x5 x6, σ2 = [some (.ref t), some (.ref a), some (.ref b), some (.ref D), x4, x5, x6, none] ∧ Same H H2 ∧ BesideAt H2 D pl ad (nbOf (ts.take i)))
          ⟨none, none, none, rfl, sm, bs⟩ (fun i σ2 H2 _ hP => ?_) (fun i x σ2 H2 hi hP => ?_) (fun σ2 H2 hP => ?_)⟩
        · obtain ⟨_, _, _, _, sm, _⟩ := hP
          exact SqT.of (sm _ _ hb)
        · obtain ⟨x4, x5, x6, rfl, sm2, bs2⟩ := hP
          obtain ⟨d, hd, hx⟩ := DtAll.get hA hi
          rw [List.getElem?_map] at hd
          cases ee : ts[i]? with
          | none =>
            rw [ee] at hd
            cases hd
          | some e =>
            rw [ee] at hd
            have ed : d = tieD e := (Option.some.inj hd).symm
            subst ed
            obtain ⟨u, rfl, hu⟩ := dt_tie hx
            have em : e ∈ ts := List.mem_of_getElem? ee
            obtain ⟨i1, i2⟩ := fine.tin e em
            have et : ts.take (i + 1) = ts.take i ++ [e] := by
              rw [List.take_add_one, ee]
              rfl
            have tl : (ts.take i).length ≤ 1000 := by
              rw [List.length_take]
              omega
            refine ⟨u, _, rfl, SqT.of (sm2 _ _ hu), rfl, _, _, rfl, _, _, rfl, _, _, rfl, rfl, ?_⟩
            -- beside[one].append
            obtain ⟨w1, g1, g2⟩ := bs2.each e.1 i1
            have l1 : w1.length = (nbOf (ts.take i) e.1).length := by
              have := DtAll.len g2
              rwa [List.length_map] at this
            have l1' := nbOf_len (ts.take i) e.1
            refine ⟨_, rfl, _, rfl, D, .ref (ad e.1), rfl, by rw [← dkm_get (f := fun l => V.ref (ad l)) i1]; exact DGet.k (k := Sum.inr (S e.1)) bs2.dict, .inl ⟨rfl, _, SqL.of g1⟩, _, rfl, _, rfl, (by show 2 ≤ sizeLine; decide), fun p np => ?_⟩
            have bs3 := bs2.keep (same_new (o := .tup [.str (S e.2.1), .int e.2.2]) (Same.refl H2) np)
            have g1' : (upd H2 p (.tup [.str (S e.2.1), .int e.2.2])) (ad e.1) = some (.lst w1) := by
              rw [upd_ne (ne_of_none g1 np)]
              exact g1
            refine ⟨_, _, _, rfl, rfl, g1', sz_lt (by omega), ?_⟩
            have bs4 := bs3.add i1 (x := (e.2.1, e.2.2)) (v := .ref p) (.tup upd_same (.cons (.str _) (.cons (.int _) .nil))) g1'
            have sm4 : Same H (upd (upd H2 p (.tup [.str (S e.2.1), .int e.2.2])) (ad e.1) (.lst (w1 ++ [.ref p]))) := same_put (same_new sm2 np) (fr _ i1)
            generalize upd (upd H2 p (.tup [.str (S e.2.1), .int e.2.2])) (ad e.1) (.lst (w1 ++ [.ref p])) = H4 at bs4 sm4
            -- beside[other].append
            obtain ⟨w2, g3, g4⟩ := bs4.each e.2.1 i2
            have l2 : w2.length = (nbAdd (nbOf (ts.take i)) e.1 (e.2.1, e.2.2) e.2.1).length := by
              have := DtAll.len g4
              rwa [List.length_map] at this
            have l2' := nbOf_len (ts.take i) e.2.1
            have l2'' := nbAdd_len (nb := nbOf (ts.take i)) (a := e.1) (l := e.2.1) (x := (e.2.1, e.2.2))
            refine ⟨_, rfl, _, rfl, D, .ref (ad e.2.1), rfl, by rw [← dkm_get (f := fun l => V.ref (ad l)) i2]; exact DGet.k (k := Sum.inr (S e.2.1)) bs4.dict, .inl ⟨rfl, _, SqL.of g3⟩, _, rfl, _, rfl, (by show 2 ≤ sizeLine; decide), fun p' np' => ?_⟩
            have bs5 := bs4.keep (same_new (o := .tup [.str (S e.1), .int e.2.2]) (Same.refl H4) np')
            have g3' : (upd H4 p' (.tup [.str (S e.1), .int e.2.2])) (ad e.2.1) = some (.lst w2) := by
              rw [upd_ne (ne_of_none g3 np')]
              exact g3
            refine ⟨_, _, _, rfl, rfl, g3', sz_lt (by omega), ?_⟩
            have bs6 := bs5.add i2 (x := (e.1, e.2.2)) (v := .ref p') (.tup upd_same (.cons (.str _) (.cons (.int _) .nil))) g3'
            refine ⟨_, _, _, rfl, same_put (same_new sm4 np') (fr _ i2), ?_⟩
            rw [et, nbOf_snoc]
            exact bs6
        · obtain ⟨x4, x5, x6, rfl, sm2, bs2⟩ := hP
          rw [vl, List.take_length] at bs2
          exact ⟨_, _, _, rfl, sm2, bs2⟩
      · obtain ⟨x4, x5, x6, rfl, sm2, bs2⟩ := hM
        exact ⟨_, rfl, q H2 D ad sm2 nD bs2 fr⟩
end
end Far

namespace Far
open PySem PySem.Spec PyProof.Rows L2
open C8 (pss_cut tCut)
open SX (S)
/-! ### a walk through a tree: fs come to, st to be gone on from, ex being gone on from -/
abbrev s_walk_from : Stmt := topS 8
abbrev N_walk_from : List Str := ["tree", "start", "beside", "back", "lengths", "ahead", "here", "place", "length"]
theorem sc_walk_from : FnScope N_walk_from ["tree", "start"] (defScope s_walk_from) := ⟨rfl, rfl, rfl, by decide +kernel, rfl, by decide +kernel, by decide +kernel⟩
section
variable {P : Program} {w : World} {K : PySem.W.Frag} {mg : Str → Option Value} {base : Heap}
/-- what a walk from u tells, at q -/
structure Walked (H : Hp) (q bk ln : Addr) (pl : List Nm) (ts : List Tie) (u : Nm) (fs : List Nm) (prev : Nm → Nm) : Prop where
  pair : H q = some (.tup [.ref bk, .ref ln])
  back : H bk = some (.dK (dkm fs fun x => .str (S (prev x))))
  lens : H ln = some (.dK (dkm fs fun x => .int (dist ts u x)))
  all : ∀ x, x ∈ fs ↔ x ∈ pl
  pr : ∀ x ∈ fs, x ≠ u → prev x ∈ fs ∧ path ts u x = path ts u (prev x) ++ [x]
def spWalkC : Sp := fun vs H Q _ => ∃ (v : V) (pl : List Nm) (ts : List Tie) (ps : List Nm) (es : List Tie) (u : Nm), vs = [v, .str (S u)] ∧ Dt H v (treeD pl ts) ∧ FineC pl ts ps es ∧ u ∈ ps ∧ ∀ (H' : Hp) (q bk ln : Addr) (fs : List Nm) (prev : Nm → Nm), Same H H' → Walked H' q bk ln ps es u fs prev → Q (.ref q) H'
theorem ok_walk_fromC {f : Addr} {fd : FuncData} (F : Fun K "walk_from" "walk_from" s_walk_from f fd) (C_ties_of_each : Cal P w K mg base 1 "_ties_of_each" spTies) : FnOk P w K mg base CX0 2 f fd ["tree", "start"] spWalkC := by
  refine F.ok sc_walk_from (fun vs H Q E h => ?_) (fun cdv A outer s H vs Q E hr h => ?_)
  · obtain ⟨v, pl, ts, ps, es, u, rfl, _⟩ := h
    rfl
  · obtain ⟨v, pl, ts, ps, es, u, rfl, hd, fine, hu, q⟩ := h
    refine ⟨_, (pss_cons (ps_set (i := 2) sc_walk_from.nd rfl (.inl rfl) (pe_c C_ties_of_each hr (by decide) rfl (pa_cons (pv 0) pa_nil)))
      (pss_cons (ps_set (i := 3) sc_walk_from.nd rfl (.inl rfl) (pe_disp (pps_cons (pv 1) (pv 1) pps_nil) (by rfl) (by rfl) (fun z => by cases z) (by decide)))
      (pss_cons (ps_set (i := 4) sc_walk_from.nd rfl (.inl rfl) (pe_disp (pps_cons (pv 1) pe_int pps_nil) (by rfl) (by rfl) (fun z => by cases z) (by decide)))
      (pss_cons (ps_set (i := 5) sc_walk_from.nd rfl (.inl rfl) (pe_lst (pa_cons (pv 1) pa_nil)))
      (pss_cut (ps_while PassesOwn.never (pt_truth (pv 5) (by intro _; rfl))
        (pss_cons (ps_set (i := 6) sc_walk_from.nd rfl (.inl rfl) (pe_bm0 PySem.F.plainAttrs_list PySem.F.slot_list_pop PySem.F.type_list_pop mt_pop (pv 5)))
        (pss_one (ps_for PassesOwn.never rfl (pi_list (pe_dget (hu_of hr) (pv 2) (pv 6) (fun _ _ => rfl))) (pg_tup rfl (pgs_cons (pg_name (i := 7) sc_walk_from.nd rfl (.inl rfl)) (pgs_cons (pg_name (i := 8) sc_walk_from.nd rfl (.inl rfl)) pgs_nil)))
          (pss_one (ps_if (pt_cmp (pc_dnotin (hu_of hr) (pv 7) (pv 3)))
            (pss_cons (ps_dput (hu_of hr) (pv 3) (pv 7) (pv 6) rfl)
            (pss_cons (ps_dput (hu_of hr) (pv 4) (pv 7) (pe_op op_add (pe_dget (hu_of hr) (pv 4) (pv 6) (fun _ _ => rfl)) (pv 8)) rfl)
            (pss_one (ps_expr (pe_bm PySem.F.plainAttrs_list PySem.F.slot_list_append PySem.F.type_list_append mt_append (pv 5) (pa_cons (pv 7) pa_nil))))))
            pss_nil))))))
      (pss_one (ps_ret (pe_tup (pa_cons (pv 3) (pa_cons (pv 4) pa_nil)))))))))), ?_⟩
    have tr := fine.tree
    have pl1 := fine.plen
    have tl0 := fine.tlen
    have tl1 := tr.len
    refine ⟨_, rfl, v, pl, ts, rfl, hd, fine.tied, fun H1 D ad S1 nD bs fr => ?_⟩
    -- back, lengths, ahead
    refine fun bk nbk => ⟨_, rfl, _, rfl, upd_same, [(Sum.inr (S u), .str (S u))], rfl, (by decide : 1 ≤ 15), ?_⟩
    rw [upd_upd]
    have S2 := same_new (o := .dK (mergeK [] [((Sum.inr (S u) : Key), V.str (S u))])) S1 nbk
    have bs2 := bs.keep (same_new (o := .dK (mergeK [] [((Sum.inr (S u) : Key), V.str (S u))])) (Same.refl H1) nbk)
    refine fun ln nln => ⟨_, rfl, upd_same, [(Sum.inr (S u), .int 0)], rfl, (by decide : 1 ≤ 15), ?_⟩
    rw [upd_upd]
    have S3 := same_new (o := .dK (mergeK [] [((Sum.inr (S u) : Key), V.int 0)])) S2 nln
    have bs3 := bs2.keep (same_new (o := .dK (mergeK [] [((Sum.inr (S u) : Key), V.int 0)])) (Same.refl _) nln)
    refine ⟨_, rfl, (by show 1 ≤ sizeLine; decide), fun ah nah => ?_⟩
    have S4 := same_new (o := .lst [.str (S u)]) S3 nah
    have bs4 := bs3.keep (same_new (o := .lst [.str (S u)]) (Same.refl _) nah)
    have bkln : bk ≠ ln := ne_of_none upd_same nln
    have bkah : bk ≠ ah := ne_of_none (by rw [upd_ne bkln]; exact upd_same) nah
    have lnah : ln ≠ ah := ne_of_none upd_same nah
    have Dbk : D ≠ bk := ne_of_none bs.dict nbk
    have Dln : D ≠ ln := ne_of_none bs2.dict nln
    have Dah : D ≠ ah := ne_of_none bs3.dict nah
    have bk0 : H bk = none := S1.free nbk
    have ln0 : H ln = none := S2.free nln
    have ah0 : H ah = none := S3.free nah
    have adbk : ∀ l ∈ pl, ad l ≠ bk := fun l hl => let ⟨_, h1, _⟩ := bs.each l hl; ne_of_none h1 nbk
    have adln : ∀ l ∈ pl, ad l ≠ ln := fun l hl => let ⟨_, h1, _⟩ := bs2.each l hl; ne_of_none h1 nln
    have adah : ∀ l ∈ pl, ad l ≠ ah := fun l hl => let ⟨_, h1, _⟩ := bs3.each l hl; ne_of_none h1 nah
    have hbk : (upd (upd (upd H1 bk (.dK (mergeK [] [((Sum.inr (S u) : Key), V.str (S u))]))) ln (.dK (mergeK [] [((Sum.inr (S u) : Key), V.int 0)]))) ah (.lst [.str (S u)])) bk = some (.dK (dkm [u] fun x => .str (S u))) := by
      rw [upd_ne bkah, upd_ne bkln]
      exact upd_same
    have hln : (upd (upd (upd H1 bk (.dK (mergeK [] [((Sum.inr (S u) : Key), V.str (S u))]))) ln (.dK (mergeK [] [((Sum.inr (S u) : Key), V.int 0)]))) ah (.lst [.str (S u)])) ln = some (.dK (dkm [u] fun x => .int (dist es u x))) := by
      rw [upd_ne lnah]
      refine upd_same.trans ?_
      unfold dkm
      rw [List.map_singleton]
      show some (HO.dK [((Sum.inr (S u) : Key), V.int 0)]) = some (HO.dK [((Sum.inr (S u) : Key), V.int (dist es u u))])
      rw [(tr.dist_self u).1]
    have hah : (upd (upd (upd H1 bk (.dK (mergeK [] [((Sum.inr (S u) : Key), V.str (S u))]))) ln (.dK (mergeK [] [((Sum.inr (S u) : Key), V.int 0)]))) ah (.lst [.str (S u)])) ah = some (.lst (([u].map S).map V.str)) := upd_same
    generalize upd (upd (upd H1 bk (.dK (mergeK [] [((Sum.inr (S u) : Key), V.str (S u))]))) ln (.dK (mergeK [] [((Sum.inr (S u) : Key), V.int 0)]))) ah (.lst [.str (S u)]) = H4 at S4 bs4 hbk hln hah
    refine ⟨fun σ' H' => ∃ (fs : List Nm) (prev : Nm → Nm) (x6 x7 x8 : Option V), σ' = [some v, some (.str (S u)), some (.ref D), some (.ref bk), some (.ref ln), some (.ref ah), x6, x7, x8] ∧ Same H H' ∧ H' bk = some (.dK (dkm fs fun x => .str (S (prev x)))) ∧ H' ln = some (.dK (dkm fs fun x => .int (dist es u x))) ∧ Wk ps es u fs [] prev (fun _ => False), ?_, fun σ' H' hM => ?_⟩
    · refine ⟨fun m σ' H' => ∃ (fs st : List Nm) (prev : Nm → Nm) (x6 x7 x8 : Option V), σ' = [some v, some (.str (S u)), some (.ref D), some (.ref bk), some (.ref ln), some (.ref ah), x6, x7, x8] ∧ Same H H' ∧ BesideAt H' D pl ad (nbOf ts) ∧ H' bk = some (.dK (dkm fs fun x => .str (S (prev x)))) ∧ H' ln = some (.dK (dkm fs fun x => .int (dist es u x))) ∧ H' ah = some (.lst ((st.map S).map V.str)) ∧ Wk ps es u fs st prev (fun _ => False) ∧ st.length ≤ fs.length ∧ 2 * fs.length + m = 2 * ps.length + st.length,
        ⟨2 * ps.length - 1, [u], [u], fun _ => u, none, none, none, rfl, S4, bs4, hbk, hln, hah, Wk.start tr hu, Nat.le_refl _, by have := List.length_pos_of_mem hu; simp; omega⟩, ?_⟩
      rintro m σ2 H2 ⟨fs, st, prev, x6, x7, x8, rfl, SM, bs5, hbk5, hln5, hah5, wk, sl, em⟩
      refine ⟨_, rfl, _, .inl ⟨_, SqL.of hah5, rfl⟩, ?_⟩
      rcases List.eq_nil_or_concat st with rfl | ⟨st', h, e⟩
      · exact ⟨fs, prev, x6, x7, x8, rfl, SM, hbk5, hln5, wk⟩
      · rw [List.concat_eq_append] at e
        subst e
        have ne : ((st' ++ [h]).map S).map V.str = (st'.map S).map V.str ++ [.str (S h)] := by
          rw [List.map_append, List.map_append]
          rfl
        rw [ne] at hah5 ⊢
        have nb : (!((st'.map S).map V.str ++ [V.str (S h)]).isEmpty) = true := by simp
        rw [nb]
        refine iteT ?_
        obtain ⟨hh, wk1⟩ := wk.pop
        have hpl := fine.sub _ (wk1.sub h hh)
        have fl := nodup_sub_len fs ps wk.nd wk.sub
        rw [List.length_append, List.length_singleton] at em sl
        obtain ⟨ws, hw1, hw2⟩ := bs5.each h hpl
        have wl : ws.length = (nbOf ts h).length := by
          have := DtAll.len hw2
          rwa [List.length_map] at this
        refine ⟨fun σ' H' => ∃ (fs' st'' : List Nm) (prev' : Nm → Nm) (x6 x7 x8 : Option V), σ' = [some v, some (.str (S u)), some (.ref D), some (.ref bk), some (.ref ln), some (.ref ah), x6, x7, x8] ∧ Same H H' ∧ BesideAt H' D pl ad (nbOf ts) ∧ H' bk = some (.dK (dkm fs' fun x => .str (S (prev' x)))) ∧ H' ln = some (.dK (dkm fs' fun x => .int (dist es u x))) ∧ H' ah = some (.lst ((st''.map S).map V.str)) ∧ Wk ps es u fs' st'' prev' (fun _ => False) ∧ fs.length ≤ fs'.length ∧ fs'.length + st'.length = fs.length + st''.length, ?_, ?_⟩
        · rintro σ' H' ⟨fs', st'', prev', y6, y7, y8, e1, e2, e3, e4, e5, e6, e7, e8, e9⟩
          have fl' := nodup_sub_len fs' ps e7.nd e7.sub
          exact ⟨2 * ps.length + st''.length - 2 * fs'.length, by omega, fs', st'', prev', y6, y7, y8, e1, e2, e3, e4, e5, e6, e7, by omega, by omega⟩
        · refine ⟨_, rfl, .inl ⟨rfl, _, SqL.of hah5⟩, ah, _, .str (S h), rfl, rfl, hah5, by simp, ?_⟩
          rw [List.dropLast_concat]
          have hbk6 : (upd H2 ah (.lst ((st'.map S).map V.str))) bk = some (.dK (dkm fs fun x => .str (S (prev x)))) := by rw [upd_ne bkah]; exact hbk5
          have hln6 : (upd H2 ah (.lst ((st'.map S).map V.str))) ln = some (.dK (dkm fs fun x => .int (dist es u x))) := by rw [upd_ne lnah]; exact hln5
          have hw6 : (upd H2 ah (.lst ((st'.map S).map V.str))) (ad h) = some (.lst ws) := by rw [upd_ne (adah h hpl)]; exact hw1
          have SM6 : Same H (upd H2 ah (.lst ((st'.map S).map V.str))) := same_put SM ah0
          have bs6 : BesideAt (upd H2 ah (.lst ((st'.map S).map V.str))) D pl ad (nbOf ts) := bs5.off (TK.mut hah5) Dah adah
          have hah6 : (upd H2 ah (.lst ((st'.map S).map V.str))) ah = some (.lst ((st'.map S).map V.str)) := upd_same
          generalize upd H2 ah (.lst ((st'.map S).map V.str)) = H6 at hbk6 hln6 hw6 SM6 bs6 hah6
          refine ⟨_, rfl, _, rfl, D, .ref (ad h), rfl, by rw [← dkm_get (f := fun l => V.ref (ad l)) hpl]; exact DGet.k (k := Sum.inr (S h)) bs6.dict, ad h, rfl, ⟨_, SqL.of hw6⟩, for_list (K := K) (a := ad h) (xs := ws) (fun i σ' H' => ∃ (fs' st'' : List Nm) (prev' : Nm → Nm) (x7 x8 : Option V), σ' = [some v, some (.str (S u)), some (.ref D), some (.ref bk), some (.ref ln), some (.ref ah), some (.str (S h)), x7, x8] ∧ Same H H' ∧ BesideAt H' D pl ad (nbOf ts) ∧ H' (ad h) = some (.lst ws) ∧ H' bk = some (.dK (dkm fs' fun x => .str (S (prev' x)))) ∧ H' ln = some (.dK (dkm fs' fun x => .int (dist es u x))) ∧ H' ah = some (.lst ((st''.map S).map V.str)) ∧ Wk ps es u fs' st'' prev' (fun x => x = h) ∧ fs.length ≤ fs'.length ∧ fs'.length + st'.length = fs.length + st''.length ∧ h ∈ fs' ∧ ∀ p ∈ (nbOf ts h).take i, p.1 ∈ fs')
            ⟨fs, st', prev, x7, x8, rfl, SM6, bs6, hw6, hbk6, hln6, hah6, wk1, Nat.le_refl _, rfl, hh, fun p hp => (by cases hp)⟩ (fun i σ' H' _ hP => ?_) (fun i x σ' H' hi hP => ?_) (fun σ' H' hP => ?_)⟩
          · obtain ⟨_, _, _, _, _, _, _, _, hw, _⟩ := hP
            exact SqL.of hw
          · obtain ⟨fs', st'', prev', y7, y8, rfl, SM7, bs7, hw7, hbk7, hln7, hah7, wk7, le7, em7, hh7, nb7⟩ := hP
            obtain ⟨ws', hw', hA7⟩ := bs7.each h hpl
            rw [hw7] at hw'
            cases hw'
            obtain ⟨d, hd', hx⟩ := DtAll.get hA7 hi
            rw [List.getElem?_map] at hd'
            cases ee : (nbOf ts h)[i]? with
            | none =>
              rw [ee] at hd'
              cases hd'
            | some yk =>
              obtain ⟨y, k⟩ := yk
              rw [ee] at hd'
              have ed : d = pairD (y, k) := (Option.some.inj hd').symm
              subst ed
              obtain ⟨g, rfl, hg⟩ := dt_pairD hx
              have adj : Adj ts h y k := (nbOf_adj ts h y k).mp (List.mem_of_getElem? ee)
              have et : (nbOf ts h).take (i + 1) = (nbOf ts h).take i ++ [(y, k)] := by
                rw [List.take_add_one, ee]
                rfl
              have fl' := nodup_sub_len fs' ps wk7.nd wk7.sub
              have szf : ∀ f : Nm → V, (dkm fs' f).length < sizeLine := fun f => by
                unfold dkm
                rw [List.length_map]
                exact sz_lt (by omega)
              refine ⟨g, _, rfl, SqT.of hg, rfl, _, _, rfl, _, _, rfl, rfl, ?_⟩
              refine ⟨_, rfl, _, rfl, bk, _, rfl, DGet.k (k := Sum.inr (S y)) hbk7, _, rfl, ?_⟩
              rw [dkm_some]
              by_cases hy : y ∈ fs'
              · rw [decide_eq_true hy]
                refine iteF ⟨fs', st'', prev', _, _, rfl, SM7, bs7, hw7, hbk7, hln7, hah7, wk7, le7, em7, hh7, fun p hp => ?_⟩
                rw [et] at hp
                rcases List.mem_append.mp hp with z | z
                · exact nb7 p z
                · rw [List.mem_singleton.mp z]
                  exact hy
              · rw [decide_eq_false hy]
                refine iteT ?_
                obtain ⟨e1, wk8⟩ := wk7.push tr hh7 (fine.cl _ _ _ (wk7.sub _ hh7) adj) hy
                -- back[place] = here
                refine ⟨_, rfl, _, rfl, _, rfl, bk, _, rfl, DPut.k (k := Sum.inr (S y)) hbk7 (szf _), ?_⟩
                rw [dkm_new hy]
                have SM8 := same_put (o := .dK (dkm (fs' ++ [y]) fun z => if z = y then V.str (S h) else .str (S (prev' z)))) SM7 bk0
                have bs8 := bs7.off (o := .dK (dkm (fs' ++ [y]) fun z => if z = y then V.str (S h) else .str (S (prev' z)))) (tkD hbk7) Dbk adbk
                have hln8 : (upd H' bk (.dK (dkm (fs' ++ [y]) fun z => if z = y then V.str (S h) else .str (S (prev' z))))) ln = some (.dK (dkm fs' fun x => .int (dist es u x))) := by rw [upd_ne bkln.symm]; exact hln7
                have hah8 : (upd H' bk (.dK (dkm (fs' ++ [y]) fun z => if z = y then V.str (S h) else .str (S (prev' z))))) ah = some (.lst ((st''.map S).map V.str)) := by rw [upd_ne bkah.symm]; exact hah7
                have hw8 : (upd H' bk (.dK (dkm (fs' ++ [y]) fun z => if z = y then V.str (S h) else .str (S (prev' z))))) (ad h) = some (.lst ws) := by rw [upd_ne (adbk h hpl)]; exact hw7
                have hbk8 : (upd H' bk (.dK (dkm (fs' ++ [y]) fun z => if z = y then V.str (S h) else .str (S (prev' z))))) bk = some (.dK (dkm (fs' ++ [y]) fun z => .str (S (if z = y then h else prev' z)))) := by
                  rw [upd_same]
                  exact congrArg (fun z => some (HO.dK z)) (dkm_cong fun z _ => by by_cases q : z = y <;> simp [q])
                generalize upd H' bk (.dK (dkm (fs' ++ [y]) fun z => if z = y then V.str (S h) else .str (S (prev' z)))) = H8 at SM8 bs8 hln8 hah8 hw8 hbk8
                -- lengths[place] = lengths[here] + length
                refine ⟨_, rfl, _, rfl, ln, .int (dist es u h), rfl, by rw [← dkm_get (f := fun x => V.int (dist es u x)) hh7]; exact DGet.k (k := Sum.inr (S h)) hln8, _, rfl, _, _, rfl, rfl, _, rfl, _, rfl, ln, _, rfl, DPut.k (k := Sum.inr (S y)) hln8 (szf _), ?_⟩
                rw [dkm_new hy]
                have SM9 := same_put (o := .dK (dkm (fs' ++ [y]) fun z => if z = y then V.int (dist es u h + k) else .int (dist es u z))) SM8 ln0
                have bs9 := bs8.off (o := .dK (dkm (fs' ++ [y]) fun z => if z = y then V.int (dist es u h + k) else .int (dist es u z))) (tkD hln8) Dln adln
                have hbk9 : (upd H8 ln (.dK (dkm (fs' ++ [y]) fun z => if z = y then V.int (dist es u h + k) else .int (dist es u z)))) bk = some (.dK (dkm (fs' ++ [y]) fun z => .str (S (if z = y then h else prev' z)))) := by rw [upd_ne bkln]; exact hbk8
                have hah9 : (upd H8 ln (.dK (dkm (fs' ++ [y]) fun z => if z = y then V.int (dist es u h + k) else .int (dist es u z)))) ah = some (.lst ((st''.map S).map V.str)) := by rw [upd_ne lnah.symm]; exact hah8
                have hw9 : (upd H8 ln (.dK (dkm (fs' ++ [y]) fun z => if z = y then V.int (dist es u h + k) else .int (dist es u z)))) (ad h) = some (.lst ws) := by rw [upd_ne (adln h hpl)]; exact hw8
                have hln9 : (upd H8 ln (.dK (dkm (fs' ++ [y]) fun z => if z = y then V.int (dist es u h + k) else .int (dist es u z)))) ln = some (.dK (dkm (fs' ++ [y]) fun z => .int (dist es u z))) := by
                  rw [upd_same]
                  refine congrArg (fun z => some (HO.dK z)) (dkm_cong fun z _ => ?_)
                  by_cases q : z = y
                  · rw [if_pos q, q, e1]
                  · rw [if_neg q]
                generalize upd H8 ln (.dK (dkm (fs' ++ [y]) fun z => if z = y then V.int (dist es u h + k) else .int (dist es u z))) = H9 at SM9 bs9 hbk9 hah9 hw9 hln9
                -- ahead.append(place)
                have stl : st''.length ≤ 3000 := by omega
                refine ⟨_, rfl, .inl ⟨rfl, _, SqL.of hah9⟩, _, rfl, ah, _, _, rfl, rfl, hah9, by rw [List.length_map, List.length_map]; exact sz_lt (by omega), ?_⟩
                refine ⟨fs' ++ [y], st'' ++ [y], _, _, _, rfl, same_put SM9 ah0, bs9.off (TK.mut hah9) Dah adah, by rw [upd_ne (adah h hpl)]; exact hw9, by rw [upd_ne bkah]; exact hbk9, by rw [upd_ne lnah]; exact hln9, ?_, wk8, by rw [List.length_append]; omega, by rw [List.length_append, List.length_append]; omega, List.mem_append_left _ hh7, fun p hp => ?_⟩
                · rw [upd_same, List.map_append, List.map_append]
                  rfl
                · rw [et] at hp
                  rcases List.mem_append.mp hp with z | z
                  · exact List.mem_append_left _ (nb7 p z)
                  · rw [List.mem_singleton.mp z]
                    exact List.mem_append_right _ (List.mem_singleton.mpr rfl)
          · obtain ⟨fs', st'', prev', y7, y8, rfl, SM7, bs7, hw7, hbk7, hln7, hah7, wk7, le7, em7, hh7, nb7⟩ := hP
            refine ⟨fs', st'', prev', _, _, _, rfl, SM7, bs7, hbk7, hln7, hah7, wk7.shut fun y k ha => ?_, le7, em7⟩
            rw [wl, List.take_length] at nb7
            exact nb7 _ ((nbOf_adj ts h y k).mpr (fine.inn _ _ _ ha))
    · obtain ⟨fs, prev, x6, x7, x8, rfl, SM, hbk5, hln5, wk⟩ := hM
      refine ⟨_, rfl, _, rfl, (by show 2 ≤ sizeLine; decide), fun p np => ?_⟩
      refine q _ p bk ln fs prev (same_new SM np) ⟨upd_same, by rw [upd_ne (ne_of_none hbk5 np)]; exact hbk5, by rw [upd_ne (ne_of_none hln5 np)]; exact hln5, wk.all tr, wk.pr⟩
def spWalk : Sp := fun vs H Q _ => ∃ (v : V) (pl : List Nm) (ts : List Tie) (u : Nm), vs = [v, .str (S u)] ∧ Dt H v (treeD pl ts) ∧ Fine pl ts ∧ u ∈ pl ∧ ∀ (H' : Hp) (q bk ln : Addr) (fs : List Nm) (prev : Nm → Nm), Same H H' → Walked H' q bk ln pl ts u fs prev → Q (.ref q) H'
theorem ok_walk_from {f : Addr} {fd : FuncData} (F : Fun K "walk_from" "walk_from" s_walk_from f fd) (C_ties_of_each : Cal P w K mg base 1 "_ties_of_each" spTies) : FnOk P w K mg base CX0 2 f fd ["tree", "start"] spWalk :=
  (ok_walk_fromC F C_ties_of_each).imp fun vs H Q E ⟨v, pl, ts, u, e, hd, fine, hu, q⟩ => ⟨v, pl, ts, pl, ts, u, e, hd, fine.comp, hu, q⟩
end
end Far

namespace Far
open PySem PySem.Spec PyProof.Rows L2
open C8 (pss_cut tCut)
open SX (S)
theorem inV_strsT (l : Nm) (ls : List Nm) : inV (.str (S l)) ((ls.map S).map V.str) = decide (l ∈ ls) := inV_strs l ls
theorem pl0_of {H : Hp} {v : V} {pl : List Nm} {ts : List Tie} (h : Dt H v (treeD pl ts)) : ∃ (t a b : Addr), v = .ref t ∧ H t = some (.tup [.ref a, .ref b]) ∧ TupAt H a ((pl.map S).map V.str) := by
  obtain ⟨t, a, b, vs, e, h1, h2, _⟩ := dt_tree h
  exact ⟨t, a, b, e, h1, h2⟩
abbrev s_check_places : Stmt := topS 7
abbrev N_check_places : List Str := ["tree", "names", "name"]
theorem sc_check_places : FnScope N_check_places ["tree", "names"] (defScope s_check_places) := ⟨rfl, rfl, rfl, by decide +kernel, rfl, by decide +kernel, by decide +kernel⟩
section
variable {P : Program} {w : World} {K : PySem.W.Frag} {mg : Str → Option Value} {base : Heap}
def spCheck : Sp := fun vs H Q _ => ∃ (v : V) (n : Addr) (pl ns : List Nm) (ts : List Tie), vs = [v, .ref n] ∧ Dt H v (treeD pl ts) ∧ H n = some (.tup ((ns.map S).map V.str)) ∧ (∀ x ∈ ns, x ∈ pl) ∧ Q .non H
theorem ok_check_places {f : Addr} {fd : FuncData} (F : Fun K "check_places" "check_places" s_check_places f fd) : FnOk P w K mg base CX0 1 f fd ["tree", "names"] spCheck := by
  refine F.ok sc_check_places (fun vs H Q E h => ?_) (fun cdv A outer s H vs Q E hr h => ?_)
  · obtain ⟨v, n, pl, ns, ts, rfl, _⟩ := h
    rfl
  · obtain ⟨v, n, pl, ns, ts, rfl, hd, hn, sub, q⟩ := h
    obtain ⟨t, a, b, rfl, ht, ha⟩ := pl0_of hd
    refine ⟨_, (pss_one (ps_for PassesOwn.never rfl (pi_tup (pv 1)) (pg_name (i := 2) sc_check_places.nd rfl (.inl rfl))
        (pss_one (ps_if (pt_cmpR op_notIn_seq (pv 2) (pe_ix ix_tup (pv 0) pe_int (fun _ _ => rfl)) rfl)
          (pss_one ps_never)
          pss_nil)))), ?_⟩
    refine ⟨_, rfl, n, rfl, ⟨_, SqT.of hn⟩, for_tup (K := K) (a := n) (xs := (ns.map S).map V.str) (fun i σ' H' => (∃ x2, σ' = [some (.ref t), some (.ref n), x2]) ∧ H' = H) ⟨⟨_, rfl⟩, rfl⟩ (fun i σ' H' _ hP => hP.2 ▸ SqT.of hn) (fun i x σ' H' hi hP => ?_) (fun σ' H' hP => hP.2 ▸ q)⟩
    obtain ⟨⟨x2, rfl⟩, rfl⟩ := hP
    obtain ⟨l, hl, rfl⟩ := strs_at (List.mem_of_getElem? hi)
    refine ⟨_, rfl, _, rfl, t, _, 0, .ref a, rfl, rfl, SqT.of ht, atI_nat (j := 0) rfl, a, _, rfl, .inr ha.sq, rfl, flat_strs pl, _, rfl, ?_⟩
    rw [inV_strs, decide_eq_true (sub l hl)]
    exact iteF ⟨⟨_, rfl⟩, rfl⟩
end
abbrev s_lengths_from : Stmt := topS 6
abbrev N_lengths_from : List Str := ["tree", "place", "_", "lengths", "name"]
theorem sc_lengths_from : FnScope N_lengths_from ["tree", "place"] (defScope s_lengths_from) := ⟨rfl, rfl, rfl, by decide +kernel, rfl, by decide +kernel, by decide +kernel⟩
section
variable {P : Program} {w : World} {K : PySem.W.Frag} {mg : Str → Option Value} {base : Heap}
def spLens : Sp := fun vs H Q _ => ∃ (v : V) (pl : List Nm) (ts : List Tie) (u : Nm), vs = [v, .str (S u)] ∧ Dt H v (treeD pl ts) ∧ Fine pl ts ∧ u ∈ pl ∧ ∀ (H' : Hp) (q : Addr), Same H H' → H q = none → H' q = some (.tup (pl.map fun x => .int (dist ts u x))) → Q (.ref q) H'
theorem lens_body {H1 : Hp} {q bk ln : Addr} {pl fs : List Nm} {ts : List Tie} {u : Nm} {prev : Nm → Nm} (W : Walked H1 q bk ln pl ts u fs prev) {x : Nm} (hx : x ∈ pl) {H' : Hp} (s : H' ln = H1 ln) : DGet H' ln (.str (S x)) (some (.int (dist ts u x))) := by
  have e := W.lens
  rw [← s] at e
  have := DGet.k (k := Sum.inr (S x)) e
  rw [dkm_get ((W.all x).mpr hx)] at this
  exact this
theorem ok_lengths_from {f : Addr} {fd : FuncData} (F : Fun K "lengths_from" "lengths_from" s_lengths_from f fd) (T : TxtW mg) (Ccheck_places : Cal P w K mg base 1 "check_places" spCheck) (Cwalk_from : Cal P w K mg base 2 "walk_from" spWalk) : FnOk P w K mg base CX0 3 f fd ["tree", "place"] spLens := by
  refine F.ok sc_lengths_from (fun vs H Q E h => ?_) (fun cdv A outer s H vs Q E hr h => ?_)
  · obtain ⟨v, pl, ts, u, rfl, _⟩ := h
    rfl
  · obtain ⟨v, pl, ts, u, rfl, hd, fine, hu, q⟩ := h
    obtain ⟨t, a, b, rfl, ht, ha⟩ := pl0_of hd
    refine ⟨_, (pss_cons (ps_expr (pe_c Ccheck_places hr (by decide) rfl (pa_cons (pv 0) (pa_cons (pe_tup (pa_cons (pv 1) pa_nil)) pa_nil))))
      (pss_cons (ps_asg (pe_c Cwalk_from hr (by decide) rfl (pa_cons (pv 0) (pa_cons (pv 1) pa_nil))) (pg_tup rfl (pgs_cons (pg_name (i := 2) sc_lengths_from.nd rfl (.inl rfl)) (pgs_cons (pg_name (i := 3) sc_lengths_from.nd rfl (.inr rfl)) pgs_nil))))
      (pss_one (ps_ret (pe_tupleOf (by rfl) T.tuple (pe_lc (own := [("name", 4)]) (g := gName 4) (tt := tYes) rfl sc_lengths_from.nd (pi_tup (pe_ix ix_tup (pv 0) pe_int (fun _ _ => rfl))) (blkOk_by (N := N_lengths_from) (sc := defScope s_lengths_from) (by decide +kernel)) (fun _ _ _ _ _ => pg_name (i := 4) sc_lengths_from.nd rfl (Or.inl rfl)) (fun _ _ _ _ _ => pts_nil) (fun _ _ _ _ _ => (pe_dget (hu_of hr) (pv 3) (pv 4) (fun _ _ => rfl))))))))), ?_⟩
    refine ⟨_, rfl, _, rfl, (by show 1 ≤ sizeLine; decide), fun p np => ?_⟩
    have s1 := same_new (o := .tup [.str (S u)]) (Same.refl H) np
    refine ⟨.ref t, p, pl, [u], ts, rfl, Dt.keep (TK.of s1) hd, upd_same, fun x hx => by rw [List.mem_singleton.mp hx]; exact hu, ?_⟩
    refine ⟨_, rfl, _, rfl, .ref t, pl, ts, u, rfl, Dt.keep (TK.of s1) hd, fine, hu, fun H1 g bk ln fs prev S1 W => ?_⟩
    have s2 := s1.trans S1
    refine ⟨g, _, rfl, SqT.of W.pair, rfl, _, _, rfl, _, _, rfl, rfl, ?_⟩
    refine ⟨_, rfl, t, _, 0, .ref a, rfl, rfl, SqT.of (s2 _ _ ht), atI_nat (j := 0) rfl, a, rfl, ⟨_, (ha.same s2).sq⟩, fun D nD => ?_⟩
    have Da : a ≠ D := (ha.same s2).ne nD
    have Dl : ln ≠ D := ne_of_none W.lens nD
    refine lc_tup (K := K) (a := a) (xs := (pl.map S).map V.str) (fun i H' => H' = upd H1 D (.lst ((pl.take i).map fun x => .int (dist ts u x)))) rfl (fun i H' _ hP => ?_) (fun i x H' hi hP => ?_) (fun H' hP => ?_)
    · rw [hP]
      exact ((ha.same s2).updN Da).sq
    · subst hP
      have pl1 := fine.len
      rw [List.getElem?_map, List.getElem?_map] at hi
      cases el : pl[i]? with
      | none =>
        rw [el] at hi
        cases hi
      | some l =>
        rw [el] at hi
        have ex : x = .str (S l) := (Option.some.inj hi).symm
        subst ex
        refine ⟨rfl, _, rfl, _, rfl, ln, .int (dist ts u l), rfl, lens_body W (List.mem_of_getElem? el) (upd_ne Dl), _, upd_same, by rw [List.length_map, List.length_take]; exact sz_lt (by omega), ?_⟩
        rw [upd_upd, List.take_add_one, el, List.map_append]
        rfl
    · subst hP
      rw [List.length_map, List.length_map, List.take_length]
      have s3 := same_new (o := .lst (pl.map fun x => V.int (dist ts u x))) s2 nD
      refine .inl ⟨D, _, rfl, SqL.of upd_same, fun r nr => ?_⟩
      exact q _ r (same_new s3 nr) (s3.free nr) upd_same
end
end Far

namespace Far
open PySem PySem.Spec PyProof.Rows PyProof.V L2
/-! ### max, min, sum of a tuple of whole numbers -/
section
variable {prog : Program} {w : World} {A : Around} {E : Value → Shared → Prop} {s : Shared} {t : Addr} {xs : Array (Int × Tok)}
theorem iter_intTup {Q : Value → Shared → Prop} (hl : s.heap.IsTuple t (intItems xs))
    (h : ∀ s₂ : Shared, s₂ = { s with heap := s.heap.push { cls := .type "tuple_iterator", data := .fields #[.ref t, .int 0 0] } } →
      (s₂.heap.IsTupleIter s.heap.objs.size t 0 ∧ s₂.heap.IsTuple t (intItems xs)) → (∀ b ∈ [s.heap.objs.size, t], b < s₂.heap.objs.size) → t ≠ s.heap.objs.size → Q (.ref s.heap.objs.size) s₂) : wpAny (model prog w) A (pyIter (.ref t)) Q E s := by
  have hlt : t < s.heap.objs.size := by obtain ⟨_, e, _⟩ := hl; exact Heap.lt_size e
  refine wpAny_pyIter_tuple hl (h _ rfl ⟨⟨_, Heap.get?_push_size _ rfl, rfl, rfl⟩, hl.at fun o e => Heap.get?_push_of_some _ e⟩ (fun b hb => ?_) (Nat.ne_of_lt hlt))
  show b < (s.heap.push _).objs.size
  rw [Heap.size_push]
  rcases List.mem_cons.mp hb with rfl | hb
  · exact Nat.lt_succ_self _
  · rcases List.mem_cons.mp hb with rfl | hb
    · exact Nat.lt_succ_of_lt hlt
    · cases hb
theorem old_keptT {s : Shared} {o : Obj} {h' : Heap} (k : ∀ b o', b ∉ [s.heap.objs.size] → (s.heap.push o).get? b = some o' → h'.get? b = some o') : ∀ b o', s.heap.get? b = some o' → h'.get? b = some o' :=
  fun b o' e => k b o' (fun hb => absurd (Heap.lt_size e) ((List.mem_singleton.mp hb) ▸ Nat.lt_irrefl _)) (Heap.get?_push_of_some _ e)
theorem max_intTup {Q : Value → Shared → Prop} (hh : A.handled = none) (hl : s.heap.IsTuple t (intItems xs)) (hne : 0 < xs.size)
    (h : ∀ v h' tk, (intItems xs)[argBest (fun i j => decide (numAt xs i > numAt xs j)) (xs.size - 1)]? = some v → (∀ b o, s.heap.get? b = some o → h'.get? b = some o) → Q v { s with heap := h', toks := tk }) :
    wpAny (model prog w) A (call (.builtin "max") [.ref t]) Q E s := by
  refine call_max_walk (iter_intTup hl fun s₂ e st hfp hlI => ?_)
  subst e
  refine ⟨_, _, _, _, _, _, _, rfl, Walks.tuple (A := A.in1) hh _ t hlI (intItems xs), st, hfp, by simpa [intItems] using hne, CmpOf.ints_gt (numAt xs) (fun _ _ => intItems_at), fun v h' tk hP hk => ?_⟩
  exact h v h' tk (by simpa [intItems] using hP) (old_keptT hk)
theorem min_intTup {Q : Value → Shared → Prop} (hh : A.handled = none) (hl : s.heap.IsTuple t (intItems xs)) (hne : 0 < xs.size)
    (h : ∀ v h' tk, (intItems xs)[argBest (fun i j => decide (numAt xs i < numAt xs j)) (xs.size - 1)]? = some v → (∀ b o, s.heap.get? b = some o → h'.get? b = some o) → Q v { s with heap := h', toks := tk }) :
    wpAny (model prog w) A (call (.builtin "min") [.ref t]) Q E s := by
  refine call_min_walk (iter_intTup hl fun s₂ e st hfp hlI => ?_)
  subst e
  refine ⟨_, _, _, _, _, _, _, rfl, Walks.tuple (A := A.in1) hh _ t hlI (intItems xs), st, hfp, by simpa [intItems] using hne, CmpOf.ints_lt (numAt xs) (fun _ _ => intItems_at), fun v h' tk hP hk => ?_⟩
  exact h v h' tk (by simpa [intItems] using hP) (old_keptT hk)
variable {its : List Value} {ns : List Int}
theorem maxT_raw {Q : Value → Shared → Prop} (hh : A.handled = none) (hl : s.heap.IsTuple t its.toArray) (hi : IntsAre its ns) (hne : 0 < ns.length)
    (h : ∀ h' tk M t', (∀ b o, s.heap.get? b = some o → h'.get? b = some o) → M ∈ ns → (∀ a, a ∈ ns → a ≤ M) → Q (.int M t') { s with heap := h', toks := tk }) : wpAny (model prog w) A (call (.builtin "max") [.ref t]) Q E s := by
  obtain ⟨xs, e⟩ := hi.allInts.items
  have hn : numsOf (intItems xs).toList = ns := by rw [← e]; exact hi.numsOf
  rw [nums_intItems] at hn
  subst hn
  rw [e] at hl
  have hsz : 0 < xs.size := by simpa using hne
  refine max_intTup hh hl hsz fun v h' tk hv hk => ?_
  obtain ⟨t, rfl⟩ := intItems_at hv
  obtain ⟨h1, h2⟩ := argBest_gt (numAt xs) (xs.size - 1)
  refine h h' tk _ t hk ?_ fun a ha => ?_
  · rw [numAt_eq]; exact PySem.getD_mem (by rw [List.length_map, Array.length_toList]; omega)
  · obtain ⟨j, hj, rfl⟩ := mem_getD ha
    rw [List.length_map, Array.length_toList] at hj
    rw [← numAt_eq]; exact h2 j (by omega)
theorem minT_raw {Q : Value → Shared → Prop} (hh : A.handled = none) (hl : s.heap.IsTuple t its.toArray) (hi : IntsAre its ns) (hne : 0 < ns.length)
    (h : ∀ h' tk M t', (∀ b o, s.heap.get? b = some o → h'.get? b = some o) → M ∈ ns → (∀ a, a ∈ ns → M ≤ a) → Q (.int M t') { s with heap := h', toks := tk }) : wpAny (model prog w) A (call (.builtin "min") [.ref t]) Q E s := by
  obtain ⟨xs, e⟩ := hi.allInts.items
  have hn : numsOf (intItems xs).toList = ns := by rw [← e]; exact hi.numsOf
  rw [nums_intItems] at hn
  subst hn
  rw [e] at hl
  have hsz : 0 < xs.size := by simpa using hne
  refine min_intTup hh hl hsz fun v h' tk hv hk => ?_
  obtain ⟨t, rfl⟩ := intItems_at hv
  obtain ⟨h1, h2⟩ := argBest_lt (numAt xs) (xs.size - 1)
  refine h h' tk _ t hk ?_ fun a ha => ?_
  · rw [numAt_eq]; exact PySem.getD_mem (by rw [List.length_map, Array.length_toList]; omega)
  · obtain ⟨j, hj, rfl⟩ := mem_getD ha
    rw [List.length_map, Array.length_toList] at hj
    rw [← numAt_eq]; exact h2 j (by omega)
theorem sumT_raw {Q : Value → Shared → Prop} (hh : A.handled = none) (hl : s.heap.IsTuple t its.toArray) (hi : IntsAre its ns)
    (h : ∀ h' tk t', (∀ b o, s.heap.get? b = some o → h'.get? b = some o) → Q (.int ns.sum t') { s with heap := h', toks := tk }) : wpAny (model prog w) A (call (.builtin "sum") [.ref t]) Q E s := by
  obtain ⟨xs, e⟩ := hi.allInts.items
  have hn : numsOf (intItems xs).toList = ns := by rw [← e]; exact hi.numsOf
  rw [nums_intItems] at hn
  rw [e] at hl
  refine PySem.W.ktm_sumG hh hl fun h' tk t' hk => ?_
  have := h h' tk t' hk
  rw [preSum_eq, List.take_of_length_le (by simp), hn]; exact this
end
section
variable {X : Cx}
def rMaxT (K : PySem.W.Frag) : List V → Hp → VK → Prop := fun vs H Q => ∃ (a : Addr) (ns : List Int), vs = [V.ref a] ∧ SqT K H a (ns.map V.int) ∧ 0 < ns.length ∧ ∀ m, m ∈ ns → (∀ y, y ∈ ns → y ≤ m) → Q (.int m) H
def rMinT (K : PySem.W.Frag) : List V → Hp → VK → Prop := fun vs H Q => ∃ (a : Addr) (ns : List Int), vs = [V.ref a] ∧ SqT K H a (ns.map V.int) ∧ 0 < ns.length ∧ ∀ m, m ∈ ns → (∀ y, y ∈ ns → m ≤ y) → Q (.int m) H
def rSumT (K : PySem.W.Frag) : List V → Hp → VK → Prop := fun vs H Q => ∃ (a : Addr) (ns : List Int), vs = [V.ref a] ∧ SqT K H a (ns.map V.int) ∧ Q (.int ns.sum) H
theorem cr_maxT {K : PySem.W.Frag} (hc : X.calm = true) (eK : X.K = K := by rfl) : CallR X (.builtin "max") (rMaxT K) := by
  subst eK
  intro pins s σ H vs us Q I r h
  obtain ⟨a, ns, rfl, hs, hne, q⟩ := h
  obtain ⟨its, rv, hl, _⟩ := I.tuple hs
  rw [Vals.ref1 r]
  exact maxT_raw (I.ok.hd hc) hl rv.ints hne fun h' tk m t' hk h1 h2 => ⟨.int _, H, I.kept hk, ⟨_, rfl⟩, q m h1 h2⟩
theorem cr_minT {K : PySem.W.Frag} (hc : X.calm = true) (eK : X.K = K := by rfl) : CallR X (.builtin "min") (rMinT K) := by
  subst eK
  intro pins s σ H vs us Q I r h
  obtain ⟨a, ns, rfl, hs, hne, q⟩ := h
  obtain ⟨its, rv, hl, _⟩ := I.tuple hs
  rw [Vals.ref1 r]
  exact minT_raw (I.ok.hd hc) hl rv.ints hne fun h' tk m t' hk h1 h2 => ⟨.int _, H, I.kept hk, ⟨_, rfl⟩, q m h1 h2⟩
theorem cr_sumT {K : PySem.W.Frag} (hc : X.calm = true) (eK : X.K = K := by rfl) : CallR X (.builtin "sum") (rSumT K) := by
  subst eK
  intro pins s σ H vs us Q I r h
  obtain ⟨a, ns, rfl, hs, q⟩ := h
  obtain ⟨its, rv, hl, _⟩ := I.tuple hs
  rw [Vals.ref1 r]
  exact sumT_raw (I.ok.hd hc) hl rv.ints fun h' tk t' hk => ⟨.int _, H, I.kept hk, ⟨_, rfl⟩, q⟩
theorem cr_maxL {K : PySem.W.Frag} (hc : X.calm = true) (eK : X.K = K := by rfl) : CallR X (.builtin "max") (rMax K) := by subst eK; exact cr_max hc
theorem cr_minL {K : PySem.W.Frag} (hc : X.calm = true) (eK : X.K = K := by rfl) : CallR X (.builtin "min") (rMin K) := by subst eK; exact cr_min hc
theorem cr_sumL {K : PySem.W.Frag} (hc : X.calm = true) (eK : X.K = K := by rfl) : CallR X (.builtin "sum") (rSum K) := by subst eK; exact cr_sum hc
end
end Far

namespace Far
open PySem PySem.Spec PyProof.Rows L2
open C8 (pss_cut tCut)
open SX (S)
end Far

namespace Far
open PySem PySem.Spec PyProof.Rows L2
open C8 (pss_cut tCut)
open SX (S)
open RZ (ItzT iZipA pi_zipA)
theorem kit_cls (K : PySem.W.Frag) {a b : String} {r : Bool} (h : kitB a b = some r) : PySem.W.kitOne K (.type a) (.type b) = some r := kit_ty h
section
variable {P : Program} {w : World} {K : PySem.W.Frag} {mg : Str → Option Value} {base : Heap}
theorem zip_it {K : PySem.W.Frag} {a b : Addr} {xs ys : List V} {g : TG} {tt : TT} {te : TE} {vs : List Nat} {σ : L2.St} {H1 : Hp} {D : Addr} {Qd : Hp → Prop} (len : xs.length = ys.length) (Pv : Nat → Hp → Prop) (h0 : Pv 0 (upd H1 D (.lst []))) (hl : ∀ i H, Pv i H → SqT K H a xs ∧ SqT K H b ys)
    (hs : ∀ i x y H T, xs[i]? = some x → ys[i]? = some y → Pv i H → H T = none → g (.ref T) (wipe σ vs) (upd H T (.tup [x, y])) fun σ2 H2 => wipe σ2 vs = wipe σ vs ∧ tt σ2 H2 fun b H3 =>
      if b = true then te σ2 H3 fun y H4 => ∃ acc, H4 D = some (.lst acc) ∧ acc.length < sizeLine ∧ Pv (i + 1) (upd H4 D (.lst (acc ++ [y]))) else Pv (i + 1) H3) (hd : ∀ H, Pv xs.length H → Qd H) :
    ∃ W : Nat → Nat → Hp → Prop, (∃ m, W 0 m (upd H1 D (.lst []))) ∧ ∀ i m H, W i m H →
      ((ItzT K a b).stop i H ∧ Qd H) ∨ ((ItzT K a b).go i H ∧ ∃ Nx : Hp → Prop, (∀ H', Nx H' → ∃ m', m' < m ∧ W (i + 1) m' H') ∧ ∀ v H', (ItzT K a b).yld i H v H' → g v (wipe σ vs) H' fun σ2 H2 => wipe σ2 vs = wipe σ vs ∧ tt σ2 H2 fun b H3 =>
        if b = true then te σ2 H3 fun y H4 => ∃ acc, H4 D = some (.lst acc) ∧ acc.length < sizeLine ∧ Nx (upd H4 D (.lst (acc ++ [y]))) else Nx H3) := by
  refine ⟨fun i m H => m = xs.length - i ∧ i ≤ xs.length ∧ Pv i H, ⟨xs.length, by simp, Nat.zero_le _, h0⟩, fun i m H ⟨em, hi, p⟩ => ?_⟩
  obtain ⟨q1, q2⟩ := hl i H p
  by_cases lt : i < xs.length
  · have lt2 : i < ys.length := by omega
    refine .inr ⟨⟨xs, ys, xs[i], ys[i], q1, q2, by simp [lt], by simp [lt2]⟩, Pv (i + 1), fun H' p' => ⟨xs.length - (i + 1), by omega, rfl, lt, p'⟩, fun v H' ⟨T, x, y, ev, nT, eH, hx, hy⟩ => ?_⟩
    rw [ev, eH]
    exact hs i x y H T (hx xs q1) (hy ys q2) p nT
  · have e : i = xs.length := by omega
    rw [e] at p
    exact .inl ⟨⟨xs, ys, q1, q2, .inl (by omega)⟩, hd H p⟩
theorem dt_any {H : Hp} {u : V} {ds : List PyData} (h : Dt H u (.tuple ds)) : ∃ (a : Addr) (xs : List V), u = .ref a ∧ TupAt H a xs ∧ DtAll H xs ds := by
  cases h with
  | tup ha hs => exact ⟨_, _, rfl, .inl ha, hs⟩
  | @tupZ a pl _ o e n d ha =>
    subst e
    exact ⟨_, _, rfl, .inr ⟨o, d, ha⟩, dt_strs H pl⟩
theorem TupAt.ty {K : PySem.W.Frag} {H : Hp} {a : Addr} {xs : List V} (h : TupAt H a xs) : TyX K H (.ref a) (.type "tuple") := h.elim (fun h => .base (.tup h)) fun ⟨_, _, h⟩ => .fTuple h
end
end Far

namespace Far
open PySem PySem.Spec PyProof.Rows L2
open C8 (pss_cut tCut)
open SX (S)
/-! ### the greatest and the least of whole numbers -/
def mxI : List Int → Int
  | [] => 0
  | x :: r => max x (mxI r)
def mxG : List Int → Int
  | [] => 0
  | [x] => x
  | x :: y :: r => max x (mxG (y :: r))
def mnG : List Int → Int
  | [] => 0
  | [x] => x
  | x :: y :: r => min x (mnG (y :: r))
theorem mxG_in : ∀ {l : List Int}, l ≠ [] → mxG l ∈ l ∧ ∀ y ∈ l, y ≤ mxG l
  | [], h => absurd rfl h
  | [x], _ => ⟨List.mem_singleton.mpr rfl, fun y hy => by rw [List.mem_singleton.mp hy]; exact Int.le_refl _⟩
  | x :: y :: r, _ => by
    obtain ⟨h1, h2⟩ := mxG_in (l := y :: r) (by intro z; cases z)
    show max x (mxG (y :: r)) ∈ _ ∧ _
    refine ⟨?_, fun z hz => ?_⟩
    · by_cases c : x ≤ mxG (y :: r)
      · rw [Int.max_eq_right c]
        exact List.mem_cons_of_mem _ h1
      · rw [Int.max_eq_left (by omega)]
        exact List.mem_cons_self ..
    · show z ≤ max x (mxG (y :: r))
      rcases List.mem_cons.mp hz with q | q
      · rw [q]
        exact Int.le_max_left _ _
      · exact Int.le_trans (h2 z q) (Int.le_max_right _ _)
theorem mnG_in : ∀ {l : List Int}, l ≠ [] → mnG l ∈ l ∧ ∀ y ∈ l, mnG l ≤ y
  | [], h => absurd rfl h
  | [x], _ => ⟨List.mem_singleton.mpr rfl, fun y hy => by rw [List.mem_singleton.mp hy]; exact Int.le_refl _⟩
  | x :: y :: r, _ => by
    obtain ⟨h1, h2⟩ := mnG_in (l := y :: r) (by intro z; cases z)
    show min x (mnG (y :: r)) ∈ _ ∧ _
    refine ⟨?_, fun z hz => ?_⟩
    · by_cases c : x ≤ mnG (y :: r)
      · rw [Int.min_eq_left c]
        exact List.mem_cons_self ..
      · rw [Int.min_eq_right (by omega)]
        exact List.mem_cons_of_mem _ h1
    · show min x (mnG (y :: r)) ≤ z
      rcases List.mem_cons.mp hz with q | q
      · rw [q]
        exact Int.min_le_left _ _
      · exact Int.le_trans (Int.min_le_right _ _) (h2 z q)
theorem mxG_is {l : List Int} {m : Int} (h1 : m ∈ l) (h2 : ∀ y ∈ l, y ≤ m) : m = mxG l := by
  obtain ⟨k1, k2⟩ := mxG_in (l := l) (by intro z; rw [z] at h1; cases h1)
  exact Int.le_antisymm (k2 m h1) (h2 _ k1)
theorem mnG_is {l : List Int} {m : Int} (h1 : m ∈ l) (h2 : ∀ y ∈ l, m ≤ y) : m = mnG l := by
  obtain ⟨k1, k2⟩ := mnG_in (l := l) (by intro z; rw [z] at h1; cases h1)
  exact Int.le_antisymm (h2 _ k1) (k2 m h1)
/-- how far a place is from its farthest -/
noncomputable def rch (pl : List Nm) (ts : List Tie) (u : Nm) : Int := mxG (pl.map fun x => dist ts u x)
theorem map_int (pl : List Nm) (f : Nm → Int) : (pl.map fun x => V.int (f x)) = (pl.map f).map V.int := by rw [List.map_map]; rfl
theorem at_name {pl : List Nm} {i : Nat} {v : V} (hi : ((pl.map S).map V.str)[i]? = some v) : ∃ x, pl[i]? = some x ∧ x ∈ pl ∧ v = .str (S x) ∧ pl.take (i + 1) = pl.take i ++ [x] := by
  rw [List.getElem?_map, List.getElem?_map] at hi
  cases el : pl[i]? with
  | none => rw [el] at hi; cases hi
  | some x => rw [el] at hi; exact ⟨x, rfl, List.mem_of_getElem? el, (Option.some.inj hi).symm, by rw [List.take_add_one, el]; rfl⟩
/-- the places whose number is n -/
def thoseD (pl : List Nm) (f : Nm → Int) (n : Int) : PyData := .tuple ((pl.filter fun x => f x == n).map strD)
theorem dts_S (H : Hp) : ∀ pl : List Nm, DtAll H ((pl.map S).map V.str) (pl.map strD)
  | [] => .nil
  | x :: r => .cons (.str _) (dts_S H r)
theorem dts_I (H : Hp) : ∀ ns : List Int, DtAll H (ns.map V.int) (ns.map PyData.int)
  | [] => .nil
  | x :: r => .cons (.int _) (dts_I H r)
theorem take_snoc_filter {pl : List Nm} {f : Nm → Int} {n : Int} {i : Nat} {x : Nm} (h : pl.take (i + 1) = pl.take i ++ [x]) : (pl.take (i + 1)).filter (fun x => f x == n) = (pl.take i).filter (fun x => f x == n) ++ (if f x = n then [x] else []) := by
  rw [h, List.filter_append]
  by_cases c : f x = n
  · rw [if_pos c, List.filter_cons, if_pos (by simp [c])]
    rfl
  · rw [if_neg c, List.filter_cons, if_neg (by simp [c])]
    rfl
end Far

namespace Far
open PySem PySem.Spec PyProof.Rows L2
open C8 (pss_cut tCut)
open SX (S)
open RZ (ItzT iZipA pi_zipA)
structure TxtMF (mg : Str → Option Value) : Prop where
  tuple : mg "tuple" = none
  max : mg "max" = none
noncomputable def midN (pl : List Nm) (ts : List Tie) : Int := mnG (pl.map (rch pl ts))
noncomputable def foeD (pl : List Nm) (ts : List Tie) : PyData := .tuple ((pl.map (rch pl ts)).map .int)
noncomputable def midD (pl : List Nm) (ts : List Tie) : PyData := .tuple [.int (midN pl ts), thoseD pl (rch pl ts) (midN pl ts)]
abbrev s_farthest_of_each : Stmt := topS 22
abbrev N_farthest_of_each : List Str := ["tree", "place"]
theorem sc_farthest_of_each : FnScope N_farthest_of_each ["tree"] (defScope s_farthest_of_each) := ⟨rfl, rfl, rfl, by decide +kernel, rfl, by decide +kernel, by decide +kernel⟩
section
variable {P : Program} {w : World} {K : PySem.W.Frag} {mg : Str → Option Value} {base : Heap}
def spFoe : Sp := fun vs H Q _ => ∃ (v : V) (pl : List Nm) (ts : List Tie), vs = [v] ∧ Dt H v (treeD pl ts) ∧ Fine pl ts ∧ ∀ (H' : Hp) (q : Addr), Same H H' → H q = none → H' q = some (.tup ((pl.map (rch pl ts)).map V.int)) → Q (.ref q) H'
def spMid : Sp := fun vs H Q _ => ∃ (v : V) (pl : List Nm) (ts : List Tie), vs = [v] ∧ Dt H v (treeD pl ts) ∧ Fine pl ts ∧ ∀ (H' : Hp) (r : V), Same H H' → Dt H' r (midD pl ts) → Q r H'
theorem ok_foe {f : Addr} {fd : FuncData} (F : Fun K "farthest_of_each" "farthest_of_each" s_farthest_of_each f fd) (T : TxtMF mg) (Clengths_from : Cal P w K mg base 3 "lengths_from" spLens) : FnOk P w K mg base CX0 4 f fd ["tree"] spFoe := by
  refine F.ok sc_farthest_of_each (fun vs H Q E h => ?_) (fun cdv A outer s H vs Q E hr h => ?_)
  · obtain ⟨v, pl, ts, rfl, _⟩ := h
    rfl
  · obtain ⟨v, pl, ts, rfl, hd, fine, q⟩ := h
    obtain ⟨t, a, b, vs, rfl, ht, ha, hb, hA⟩ := dt_tree hd
    have pl1 := fine.len
    refine ⟨_, (pss_one (ps_ret (pe_tupleOf (by rfl) T.tuple (pe_lc (own := [("place", 1)]) (g := gName 1) (tt := tYes) rfl sc_farthest_of_each.nd (pi_tup (pe_ix ix_tup (pv 0) pe_int (fun _ _ => rfl))) (blkOk_by (N := N_farthest_of_each) (sc := defScope s_farthest_of_each) (by decide +kernel)) (fun _ _ _ _ _ => pg_name (i := 1) sc_farthest_of_each.nd rfl (Or.inl rfl)) (fun _ _ _ _ _ => pts_nil) (fun _ _ _ _ _ => (pe_callB (cr_maxT (K := K) rfl) (by rfl) T.max bt_max (pa_cons (pe_c Clengths_from hr (by decide) rfl (pa_cons (pv 0) (pa_cons (pv 1) pa_nil))) pa_nil))))))), ?_⟩
    refine ⟨_, rfl, t, _, 0, .ref a, rfl, rfl, SqT.of ht, atI_nat (j := 0) rfl, a, rfl, ⟨_, ha.sq⟩, fun D nD => ?_⟩
    refine lc_tup (K := K) (a := a) (xs := (pl.map S).map V.str) (fun i H' => Same H H' ∧ H' D = some (.lst (((pl.take i).map (rch pl ts)).map V.int))) ⟨same_new (Same.refl H) nD, upd_same⟩ (fun i H' _ hP => (ha.same hP.1).sq) (fun i v H' hi hP => ?_) (fun H' hP => ?_)
    · obtain ⟨SM, hD⟩ := hP
      obtain ⟨x, ex, hx, rfl, et⟩ := at_name hi
      refine ⟨rfl, _, rfl, _, rfl, .ref t, pl, ts, x, rfl, Dt.keep (TK.of SM) hd, fine, hx, fun H2 L S2 nL hL => ?_⟩
      rw [map_int] at hL
      refine ⟨L, _, rfl, SqT.of hL, by rw [List.length_map]; exact List.length_pos_of_mem hx, fun m hm hle => ?_⟩
      rw [mxG_is hm hle]
      refine ⟨_, S2 _ _ hD, ?_, same_put (SM.trans S2) nD, ?_⟩
      · rw [List.length_map, List.length_map, List.length_take]
        exact sz_lt (by omega)
      · rw [upd_same, et, List.map_append, List.map_append]
        rfl
    · obtain ⟨SM, hD⟩ := hP
      rw [List.length_map, List.length_map, List.take_length] at hD
      exact .inl ⟨D, _, rfl, SqL.of hD, fun q1 nq1 => q _ q1 (same_new SM nq1) (SM.free nq1) upd_same⟩
end
end Far

namespace Far
open PySem PySem.Spec PyProof.Rows L2
open C8 (pss_cut tCut)
open SX (S)
abbrev s_check_unlike : Stmt := topS 25
abbrev N_check_unlike : List Str := ["one", "other", "name"]
theorem sc_check_unlike : FnScope N_check_unlike ["one", "other"] (defScope s_check_unlike) := ⟨rfl, rfl, rfl, by decide +kernel, rfl, by decide +kernel, by decide +kernel⟩
section
variable {P : Program} {w : World} {K : PySem.W.Frag} {mg : Str → Option Value} {base : Heap}
def spUnlike : Sp := fun vs H Q _ => ∃ (v v' : V) (pl pl' : List Nm) (ts ts' : List Tie), vs = [v, v'] ∧ Dt H v (treeD pl ts) ∧ Dt H v' (treeD pl' ts') ∧ (∀ x ∈ pl, NameOk x) ∧ (∀ x ∈ pl, x ∉ pl') ∧ Q .non H
theorem ok_check_unlike {f : Addr} {fd : FuncData} (F : Fun K "_check_unlike" "_check_unlike" s_check_unlike f fd) : FnOk P w K mg base CX0 1 f fd ["one", "other"] spUnlike := by
  refine F.ok sc_check_unlike (fun vs H Q E h => ?_) (fun cdv A outer s H vs Q E hr h => ?_)
  · obtain ⟨v, v', pl, pl', ts, ts', rfl, _⟩ := h
    rfl
  · obtain ⟨v, v', pl, pl', ts, ts', rfl, hd, hd', ok, dis, q⟩ := h
    obtain ⟨t, a, b, rfl, ht, ha⟩ := pl0_of hd
    obtain ⟨t', a', b', rfl, ht', ha'⟩ := pl0_of hd'
    refine ⟨_, (pss_one (ps_for PassesOwn.never rfl (pi_tup (pe_ix ix_tup (pv 0) pe_int (fun _ _ => rfl))) (pg_name (i := 2) sc_check_unlike.nd rfl (.inl rfl))
        (pss_one (ps_if (pt_cmpR op_in_seq (pv 2) (pe_ix ix_tup (pv 1) pe_int (fun _ _ => rfl)) rfl)
          (pss_one ps_never)
          pss_nil)))), ?_⟩
    have all : ∀ {ls pre post : List Nm} {l : Nm}, True := fun {_ _ _ _} => trivial
    refine ⟨_, rfl, t, _, 0, .ref a, rfl, rfl, SqT.of ht, atI_nat (j := 0) rfl, a, rfl, ⟨_, ha.sq⟩, for_tup (K := K) (a := a) (xs := (pl.map S).map V.str) (fun i σ' H' => (∃ x2, σ' = [some (.ref t), some (.ref t'), x2]) ∧ H' = H ∧ ∀ x ∈ pl.take i, x ∉ pl') ⟨⟨_, rfl⟩, rfl, fun x hx => by cases hx⟩ (fun i σ' H' _ hP => hP.2.1 ▸ ha.sq) (fun i x σ' H' hi hP => ?_) (fun σ' H' hP => ?_)⟩
    · obtain ⟨⟨x2, rfl⟩, rfl, hin⟩ := hP
      rw [List.getElem?_map, List.getElem?_map] at hi
      cases el : pl[i]? with
      | none =>
        rw [el] at hi
        cases hi
      | some l =>
        rw [el] at hi
        have ex : x = .str (S l) := (Option.some.inj hi).symm
        subst ex
        refine ⟨_, rfl, _, rfl, t', _, 0, .ref a', rfl, rfl, SqT.of ht', atI_nat (j := 0) rfl, a', _, rfl, .inr ha'.sq, rfl, flat_strs pl', _, rfl, ?_⟩
        rw [inV_strs]
        have c : l ∉ pl' := dis l (List.mem_of_getElem? el)
        rw [decide_eq_false c]
        refine iteF ⟨⟨_, rfl⟩, rfl, fun y hy => ?_⟩
        rw [List.take_add_one, el] at hy
        rcases List.mem_append.mp hy with h | h
        · exact hin y h
        · have : y = l := by simpa using h
          rw [this]
          exact c
    · obtain ⟨⟨x2, rfl⟩, rfl, hin⟩ := hP
      rw [List.length_map, List.length_map, List.take_length] at hin
      exact q
end
theorem cat_any {K : PySem.W.Frag} {H : Hp} {a b : Addr} {xs ys : List V} {Q : VK} (ha : TupAt H a xs) (hb : TupAt H b ys) (l : xs.length + ys.length ≤ sizeLine) (k : ∀ p H', Same H H' → TupAt H' p (xs ++ ys) → Q (.ref p) H') : rCatA K (.ref a) (.ref b) H Q :=
  ⟨a, b, xs, ys, rfl, rfl, ha.sq, hb.sq, l, fun e => k b H (Same.refl _) (by rw [e]; exact hb), fun _ e => k a H (Same.refl _) (by rw [e, List.append_nil]; exact ha), fun _ _ p n => k p _ (same_new (Same.refl _) n) (.inl upd_same)⟩
theorem cat_any0 {K : PySem.W.Frag} {H : Hp} {a b : Addr} {xs ys : List V} {Q : VK} (ha : H a = some (.tup xs)) (hb : H b = some (.tup ys)) (l : xs.length + ys.length ≤ sizeLine) (k : ∀ p H', Same H H' → H' p = some (.tup (xs ++ ys)) → Q (.ref p) H') : rCatA K (.ref a) (.ref b) H Q :=
  ⟨a, b, xs, ys, rfl, rfl, SqT.of ha, SqT.of hb, l, fun e => k b H (Same.refl _) (by rw [e]; exact hb), fun _ e => k a H (Same.refl _) (by rw [e, List.append_nil]; exact ha), fun _ _ p n => k p _ (same_new (Same.refl _) n) upd_same⟩
theorem names_dt {H : Hp} {q : Addr} {ls : List Nm} (h : TupAt H q ((ls.map S).map V.str)) (ne : ls ≠ []) : Dt H (.ref q) (.tuple (ls.map strD)) := h.elim (fun h => .tup h (dt_strs H ls)) fun ⟨o, d, h⟩ => .tupZ rfl ne d h
end Far

namespace Far
open PySem PySem.Spec PyProof.Rows L2
open C8 (pss_cut tCut)
open SX (S)
abbrev Tri := Int × Nm × Nm
def triD (x : Tri) : PyData := .tuple [.int x.1, .str (S x.2.1), .str (S x.2.2)]
/-- the pairs of place i with those behind it -/
noncomputable def rowP (pl : List Nm) (ts : List Tie) (i : Nat) : List Tri := (pl.drop (i + 1)).map fun y => (dist ts (pl.getD i []) y, pl.getD i [], y)
/-- those of the first n places -/
noncomputable def prs (pl : List Nm) (ts : List Tie) (n : Nat) : List Tri := (List.range n).flatMap (rowP pl ts)
/-- all pairs of two places, in order -/
noncomputable def pairsOf (pl : List Nm) (ts : List Tie) : List Tri := prs pl ts pl.length
theorem prs_succ (pl : List Nm) (ts : List Tie) (n : Nat) : prs pl ts (n + 1) = prs pl ts n ++ rowP pl ts n := by
  unfold prs
  rw [List.range_succ, List.flatMap_append, List.flatMap_singleton]
theorem rowP_len (pl : List Nm) (ts : List Tie) (i : Nat) : (rowP pl ts i).length = pl.length - (i + 1) := by
  unfold rowP
  rw [List.length_map, List.length_drop]
theorem prs_len (pl : List Nm) (ts : List Tie) : ∀ n, (prs pl ts n).length ≤ n * pl.length
  | 0 => Nat.zero_le _
  | n + 1 => by
    have ih := prs_len pl ts n
    rw [prs_succ, List.length_append, rowP_len, Nat.succ_mul]
    omega
theorem rowP_at {pl : List Nm} {ts : List Tie} {i j : Nat} {x y : Nm} (hx : pl[i]? = some x) (hy : pl[i + 1 + j]? = some y) : (rowP pl ts i)[j]? = some (dist ts x y, x, y) := by
  have ex : pl.getD i [] = x := by
    show (pl[i]?).getD [] = x
    rw [hx]
    rfl
  unfold rowP
  rw [ex, List.getElem?_map, List.getElem?_drop, hy]
  rfl
end Far

namespace Far
open PySem PySem.Spec PyProof.Rows L2
/-! ### a lambda of one parameter, as the key of sorted -/
section
variable {prog : Program} {w : World} {A : Around} {E : Value → Shared → Prop} {s : Shared}
/-- v is a tuple whose first item is the whole number i -/
def Fst (h : Heap) (v : Value) (i : Int) : Prop := ∃ (t : Addr) (its : List Value) (tk : Tok), v = .ref t ∧ IsTup h t its.toArray ∧ its[0]? = some (.int i tk)
theorem Fst.keep {h h' : Heap} {v : Value} {i : Int} (f : Fst h v i) (k : ∀ b o, h.get? b = some o → h'.get? b = some o) : Fst h' v i := by
  obtain ⟨t, its, tk, e, ⟨o, ho, r⟩, hi⟩ := f
  exact ⟨t, its, tk, e, ⟨o, k _ _ ho, r⟩, hi⟩
/-- what a body gives at a tuple that begins with i -/
def KeyBody (prog : Program) (w : World) (x : Str) (body : Expr) (g : Int → Int) : Prop :=
  ∀ (A : Around) (env : Env) (s : Shared) (m : Str → Option Value) (v : Value) (i : Int) (Q : Value → Shared → Prop) (E : Value → Shared → Prop), env.scope.kind = .function → env.kindOf x = some .local → s.heap.Ns env.locals m → m x = some v → Fst s.heap v i →
    (∀ t tk, Q (.int (g i) t) { s with toks := tk }) → wpAny (model prog w) A (eval body env) Q E s
theorem body_fst {x : Str} {p1 p2 p3 : Pos} {j : Nat} (hd : (x == ("__debug__" : Str)) = false := by decide) (hs : PlainIx (.Constant (.int 0) j p2) := by exact fun _ _ => rfl) :
    KeyBody prog w x (.Subscript (.Name x p1) (.Constant (.int 0) j p2) p3) id := by
  intro A env s m v i Q E hk hl hn hm f h
  obtain ⟨t, its, tk, rfl, pl, hi⟩ := f
  refine Subscript_ (wpAny_Name (wpAny_loadName_local hk hl hn hm ?_) hd)
  refine wpAny_Constant_int ?_
  have hlt : 0 < its.length := (List.getElem?_eq_some_iff.mp hi).1
  refine subscriptTail_builtinR (x := .int i tk) (show IsTup _ t its.toArray from pl).typeIs slot_tuple_getitem.lookup
    (getItem_tuple (j := 0) (Q := fun r s' => r = Value.int i tk ∧ Q r s') (show IsTup _ t its.toArray from pl) (by decide) (by decide) ?_ (by simpa using hi) ⟨rfl, h _ _⟩) (hs _ _)
  exact seqIndex_of (by decide) (by rw [List.size_toArray]; omega)
theorem body_neg {x : Str} {p1 p2 p3 p4 : Pos} {j : Nat} (hd : (x == ("__debug__" : Str)) = false := by decide) (hs : PlainIx (.Constant (.int 0) j p2) := by exact fun _ _ => rfl) :
    KeyBody prog w x (.UnaryOp .USub (.Subscript (.Name x p1) (.Constant (.int 0) j p2) p3) p4) (fun i => -i) := by
  intro A env s m v i Q E hk hl hn hm f h
  refine UnaryOp_ (body_fst hd hs A env s m v i _ E hk hl hn hm f fun t tk => ?_)
  exact neg_int (h _ _)
/-- the lambda's scope: its one parameter is its one name -/
structure LamP (x : Str) (sc : Scope) : Prop where
  kind : sc.kind = .function
  co : sc.isCoroutine = false
  gen : sc.isGenerator = false
  cell : ∀ y ∈ sc.names, y.2 ≠ .cell
  free : ∀ y ∈ sc.names, y.2 ≠ .free
  loc : sc.names.lookup x = some .local
theorem lam_turn {f c' : Addr} {q x : Str} {params : Arguments} {body : Expr} {scope : Scope} {cl : List (Str × Addr)} {pm ctv v : Value} {g : Int → Int} {i : Int} (hroom : A.depth < recursionLimit)
    (ho : s.heap.get? f = some (PySem.W.kla_obj "<lambda>" q params body scope cl pm c' ctv)) (hcd : s.heap.CodeRec (.ref c') q)
    (hbind : bindArgs (PySem.W.kla_fn "<lambda>" q params body scope cl pm (.ref c') ctv) ⟨[v], []⟩ = pure [(x, v)]) (L : LamP x scope) (lim : s.heap.NoLimit) (B : KeyBody prog w x body g) (hf : Fst s.heap v i) :
    wpAny (model prog w) A (call (.ref f) [v]) (PySem.W.KeyPure (.int (g i)) s) (fun _ _ => False) s := by
  have rc : codeAny (model prog w) A (.call (.ref f) ⟨[v], []⟩) (fun r s' => ∃ u, r = .ok (.ret u) ∧ PySem.W.KeyPure (.int (g i)) s u s') s := by
    refine PySem.W.kla_callFunE hroom ho rfl L.co L.gen rfl hcd ?_
    rw [hbind]
    refine wpAny_pure (wpAny_newFunctionEnv L.cell (fun y hy => by rcases List.mem_singleton.mp hy with rfl; exact L.loc) (fun h₁ hns hsb => ⟨lim.fresh _ hsb, ?_⟩) L.kind)
    have kp : ∀ b o, s.heap.get? b = some o → h₁.get? b = some o := fun b o e => hsb.extBut b o (Nat.ne_of_lt (Heap.lt_size e)) (Heap.get?_push_of_some _ e)
    refine PySem.W.kla_codeExpr (B _ _ _ _ v i _ _ L.kind L.loc hns (by simp) (hf.keep kp) fun t tk => ?_)
    exact ⟨_, rfl, _, _, rfl, kp, .int _ _⟩
  refine wpAny_call (codeAny_mono rc fun r s' hq => ?_)
  obtain ⟨u, rfl, hq⟩ := hq
  exact hq
end
open LamX in
/-- what a built-in with key= asks of the state, the lambda made -/
def CallRL (X : Cx) (id : String) (q : Str) (params : Arguments) (body : Expr) (scope : Scope) (r : List V → Hp → VK → Prop) : Prop :=
  ∀ (pins : List (Addr × Obj)) (s : Shared) (σ : L2.St) (H : Hp) (xs : List V) (us : List Value) (f c' : Addr) (cl : List (Str × Addr)) (pm ctv : Value) (Q : VK), Inv X pins σ H s → Vals xs us → H c' = some (CodeO c' q) →
    s.heap.get? f = some (PySem.W.kla_obj "<lambda>" q params body scope cl pm c' ctv) → r xs H Q → wpAny (model X.prog X.w) X.A (call (.builtin id) us [(Str.ofString "key", .ref f)]) (EP X pins σ Q) X.xe s
open LamX in
def tLamR (T : List (Addr × Str)) (r : List V → Hp → VK → Prop) (t : TA) : TE := fun σ H Q => t σ H fun vs H1 => Tabs T H1 ∧ ∀ H2, ExtN H1 H2 → Tabs T H2 → r vs H2 Q
section
open LamX
variable {X : Cx} {x : Str} {p pos lpos kpos : Pos} {e : Expr} {es : List Expr} {t : TA} {id : String} {r : List V → Hp → VK → Prop} {params : Arguments} {body : Expr} {scope : Scope} {T : List (Addr × Str)} {c P : Addr}
theorem pe_callL (TB : TabB X.base X.mg c P) (hcode : X.env.code = .ref c) (hmT : (P, X.env.qual ++ "<lambda>") ∈ T) (hu : ∀ p ∈ T, p.1 = P → p.2 = X.env.qual ++ "<lambda>") (hc : CallRL X id (X.env.qual ++ "<lambda>") params body scope r)
    (hg : Gl X x) (hm : X.mg x = none) (hv : bootBuiltins x = some (.builtin id)) (ha : PA X (e :: es) t) (hdef : defaultsOf params X.env = ([], [])) (hfree : ∀ y ∈ scope.names, y.2 ≠ .free)
    (hn : x ≠ "__name__" := by decide) (hdb : (x == ("__debug__" : Str)) = false := by decide)
    (he : backTo pos (starEach (e :: es) X.env) = (false, eval e X.env) :: backTo pos (starEach es X.env) := by rfl) (hpl : (backTo pos (starEach (e :: es) X.env)).any (·.1) = false := by rfl) :
    PE X (.Call (.Name x p) (e :: es) [⟨some "key", .Lambda params body scope lpos, kpos⟩] pos) (tLamR T r t) := by
  refine ⟨fun pins s σ H Q I h => ?_⟩
  refine wpAny_Call_Name_kw (ld_blt I hg hm hv ?_ hn hdb)
  refine PyProof.Rows.callWith_kw (thn (ha.run pos pins s σ H _ I h) fun us s1 ⟨vs, H1, I1, r1, hT, q1⟩ => ?_) he hpl rfl rfl
  show wpAny _ _ (evalAll [(do let v ← eval (.Lambda params body scope lpos) X.env; standAt pos; pure v)]) _ _ s1
  refine wpAny_evalAll_cons (wpAny_bind (lam_make2 I1 TB hcode hmT hu hT hdef (fun y hy z => absurd z (hfree y hy)) fun f c' pm ctv H2 s2 I2 eN T2 hf hfn hfr hco => ?_))
  refine wpAny_bind (wpAny_standAt (wpAny_pure (wpAny_evalAll_nil ?_)))
  exact hc pins s2 σ H2 vs us f c' _ pm ctv Q I2 r1 hco hf (q1 H2 eN T2)
def rSortKey (K : PySem.W.Frag) (g : Int → Int) : List V → Hp → VK → Prop := fun vs H Q => ∃ (a : Addr) (xs : List V) (k : V → Int), vs = [V.ref a] ∧ SqL K H a xs ∧ (∀ y ∈ xs, ∃ t zs, y = V.ref t ∧ H t = some (.tup (.int (k y) :: zs))) ∧
  ∀ p, H p = none → Q (.ref p) (upd H p (.lst (xs.mergeSort fun y z => decide (g (k y) ≤ g (k z)))))
theorem each_refl {α : Type} : ∀ l : List α, PySem.W.EachIs (fun u x => u = x) l l
  | [] => .nil
  | _ :: l => .cons rfl (each_refl l)
theorem each_eq {α : Type} {l m : List α} (h : PySem.W.EachIs (fun u x => u = x) l m) : l = m := by
  induction h with
  | nil => rfl
  | cons e _ ih => rw [e, ih]
theorem cr_sortedLam {q y : Str} {g : Int → Int} (hr : Room 1 X.A) (L : LamP y scope) (B : KeyBody X.prog X.w y body g)
    (hbind : ∀ (cl : List (Str × Addr)) (pm ctv v : Value) (c' : Addr), bindArgs (PySem.W.kla_fn "<lambda>" q params body scope cl pm (.ref c') ctv) ⟨[v], []⟩ = pure [(y, v)]) :
    CallRL X "sorted" q params body scope (rSortKey X.K g) := by
  intro pins s σ H vs us f c' cl pm ctv Q I r hco hf h
  obtain ⟨a, xs, k, rfl, hs, hx, q⟩ := h
  obtain ⟨its, rv, hl, hz⟩ := I.list hs
  obtain rfl := Vals.ref1 r
  obtain ⟨e1, e2⟩ := refs_back rv fun x m => by
    obtain ⟨t, _, e, _⟩ := hx x m
    exact ⟨t, e⟩
  have hlen : its.length ≤ sizeLine := by rw [← rv.length]; exact hz
  obtain ⟨⟨oc, cvs, ct, hoc, hdc, hvc⟩, _, _⟩ := I.hok c' _ hco
  have fst : ∀ v ∈ its, Fst s.heap v (k (backV v)) := fun v hv => by
    obtain ⟨t, rfl⟩ := e2 v hv
    have hm : V.ref t ∈ xs := by rw [e1]; exact List.mem_map.mpr ⟨_, hv, rfl⟩
    obtain ⟨t', zs, e, ht⟩ := hx _ hm
    cases e
    obtain ⟨_, its2, r2, ht2⟩ := I.hok _ _ ht
    cases r2 with
    | cons r0 r1 =>
      obtain ⟨tk, rfl⟩ := r0
      exact ⟨t, _, tk, rfl, ht2, rfl⟩
  refine PySem.W.sorted_key_data (β := Value) (bs := its) (R := fun u x => u = x) (b := false) (fun u => PyData.int (g (k (backV u)))) hl.isList (each_refl its) ?_ ?_ hlen (fun x _ => ?_) (PyProof.Rows.ksk_s1 _ _) (fun _ => PyProof.Rows.ksk_l1 _ _) (fun x => PyProof.Rows.ksk_t1 _ _) (fun v x e hx h tk kp => ?_) fun out c h' tk kp hn hd hlo hE => ?_
  · intro d hd d' hd'
    obtain ⟨u, _, rfl⟩ := List.mem_map.mp hd
    obtain ⟨u', _, rfl⟩ := List.mem_map.mp hd'
    rfl
  · refine .inr fun d hd => ?_
    obtain ⟨u, _, rfl⟩ := List.mem_map.mp hd
    exact ⟨(by intro z; cases z), fun xs z => by cases z⟩
  · have := hr.un
    show X.A.units + 2 + 0 < cLine
    omega
  · subst e
    refine lam_turn (s := { s with heap := h, toks := tk }) ?_ (kp _ _ hf) ⟨c', oc, cvs, ct, rfl, kp _ _ hoc, hdc, hvc⟩ (hbind _ _ _ _ _) L (I.nolimit.keeps kp) B ((fst _ hx).keep kp)
    have := hr.dp
    show X.A.depth < _
    omega
  · have e3 : out = its.mergeSort (fun u u' => decide (g (k (backV u)) ≤ g (k (backV u')))) := by
      rw [each_eq hE]
      rw [PySem.W.dataLe_int (fun u : Value => g (k (backV u)))]
    have e4 : out.map backV = xs.mergeSort fun y z => decide (g (k y) ≤ g (k z)) := by
      rw [e3, e1, List.map_mergeSort]
      intro a _ b _
      rfl
    have hr2 : ∀ u ∈ out, ∃ a, u = Value.ref a := fun u hu => by
      rw [e3] at hu
      exact e2 u (List.mem_mergeSort.mp hu)
    have I2 := I.laid (t' := tk) (o := .lst (out.map backV)) kp (Nat.le_succ _) ⟨by rw [List.length_map, hlo]; exact hlen, out, c, vals_back hr2, hd⟩
    rw [e4] at I2
    exact ⟨.ref _, _, I2, rfl, q _ (I.hok.fresh (Nat.le_succ _))⟩
end
end Far

namespace Far
open PySem PySem.Spec PyProof.Rows L2
/-! ### a lambda of one parameter, as the key of min and max -/
theorem first_least (num : Nat → Int) : ∀ k, argBest (fun i j => decide (num i < num j)) k ≤ k ∧ (∀ j, j ≤ k → num (argBest (fun i j => decide (num i < num j)) k) ≤ num j) ∧ ∀ j, j < argBest (fun i j => decide (num i < num j)) k → num (argBest (fun i j => decide (num i < num j)) k) < num j
  | 0 => ⟨Nat.le_refl _, fun j hj => by
      have : j = 0 := by omega
      subst this
      exact Int.le_refl _, fun j hj => absurd hj (Nat.not_lt_zero _)⟩
  | k + 1 => by
    obtain ⟨h1, h2, h3⟩ := first_least num k
    simp only [argBest]
    by_cases c : num (k + 1) < num (argBest (fun i j => decide (num i < num j)) k)
    · rw [if_pos (decide_eq_true c)]
      refine ⟨Nat.le_refl _, fun j hj => ?_, fun j hj => ?_⟩
      · by_cases e : j = k + 1
        · rw [e]
          exact Int.le_refl _
        · have := h2 j (by omega)
          omega
      · have := h2 j (by omega)
        omega
    · rw [if_neg (fun z => c (of_decide_eq_true z))]
      refine ⟨by omega, fun j hj => ?_, h3⟩
      by_cases e : j = k + 1
      · rw [e]
        omega
      · exact h2 j (by omega)
theorem best_neg (num : Nat → Int) : ∀ k, argBest (fun i j => decide (num i > num j)) k = argBest (fun i j => decide (-(num i) < -(num j))) k
  | 0 => rfl
  | k + 1 => by
    simp only [argBest]
    rw [best_neg num k]
    congr 1
    rw [decide_eq_decide.mpr (show num (k + 1) > num (argBest (fun i j => decide (-(num i) < -(num j))) k) ↔ -(num (k + 1)) < -(num (argBest (fun i j => decide (-(num i) < -(num j))) k)) by omega)]
/-- the first of the items with the least key -/
def FirstLeast (xs : List V) (k : V → Int) (y : V) : Prop := ∃ i : Nat, xs[i]? = some y ∧ (∀ (j : Nat) (z : V), xs[j]? = some z → k y ≤ k z) ∧ ∀ (j : Nat) (z : V), j < i → xs[j]? = some z → k y < k z
def rBestKey (K : PySem.W.Frag) (h : Int → Int) : List V → Hp → VK → Prop := fun vs H Q => ∃ (a : Addr) (xs : List V) (k : V → Int), vs = [V.ref a] ∧ SqL K H a xs ∧ 0 < xs.length ∧ (∀ y ∈ xs, ∃ t zs, y = V.ref t ∧ H t = some (.tup (.int (k y) :: zs))) ∧ ∀ y, FirstLeast xs (fun z => h (k z)) y → Q y H
section
open LamX
variable {X : Cx} {params : Arguments} {body : Expr} {scope : Scope}
/-- what min and max share -/
structure Keyed (X : Cx) (s : Shared) (q : Str) (body : Expr) (scope : Scope) (f : Addr) (its : List Value) (kk : Nat → Int) : Prop where
  turn : ∀ (A : Around) (i : Nat) (v : Value) (h : Heap) (tk : Nat), A.depth < recursionLimit → its[i]? = some v → (∀ b o, s.heap.get? b = some o → h.get? b = some o) → wpAny (model X.prog X.w) A (call (.ref f) [v]) (PySem.W.KeyPure (.int (kk i)) { s with heap := h, toks := tk }) (fun _ _ => False) { s with heap := h, toks := tk }
theorem keyrun {s : Shared} {q : Str} {f a : Addr} {its : List Value} {kk : Nat → Int} {A : Around} {op : CmpOp} {bt : Nat → Nat → Bool} (Kd : Keyed X s q body scope f its kk) (ha : a < s.heap.objs.size) (hA : A.depth < recursionLimit)
    (cmp : ∀ i j ki kj (s : Shared) (Q : Value → Shared → Prop) (E : Value → Shared → Prop), (∃ t, ki = .int (kk i) t) → (∃ t, kj = .int (kk j) t) → Q (.bool (bt i j)) s → wpAny (model X.prog X.w) A (richCompare op ki kj) Q E s) :
    KeyRun X.prog X.w A (.ref f) op (s.heap.objs.size + 1) [s.heap.objs.size] (fun a b => b = a) its.toArray.size (fun i v => its.toArray[i]? = some v) (fun i s' => s'.heap.IsListIter s.heap.objs.size a i ∧ s'.heap.IsList a its.toArray)
      (fun s' => ∃ h' tk, s' = { s with heap := h', toks := tk } ∧ ∀ b o, s.heap.get? b = some o → h'.get? b = some o) (fun i k _ => ∃ t, k = Value.int (kk i) t) bt where
  keep := fun s1 s2 ⟨h', tk, e, kp⟩ m => by
    subst e
    have e2 : s2 = { s with heap := s2.heap, toks := s2.toks } := by
      obtain ⟨h2, g2, d2, t2, o2⟩ := s2
      have m1 : g2 = s.gens := m.gens
      have m2 : d2 = s.drawn := m.drawn
      have m3 : o2 = s.os := m.os
      subst m1 m2 m3
      rfl
    refine ⟨s2.heap, s2.toks, e2, fun b o hb => m.heap b o (fun z => ?_) (kp b o hb)⟩
    have hlt := Heap.lt_size hb
    rcases List.mem_cons.mp z with z | z
    · rw [z] at hlt
      exact absurd hlt (Nat.not_lt.mpr (Nat.le_succ _))
    · rw [List.mem_singleton.mp z] at hlt
      exact Nat.lt_irrefl _ hlt
  keepV := fun i k s1 s2 h _ => h
  turn := fun i v s1 o Q E hi hP ⟨h', tk, e, kp⟩ st hS hQ => by
    subst e
    refine wpAny_mono (Kd.turn A i v h' tk hA (by simpa using hP) kp) (fun u s3 hk => ?_) (fun _ _ z => z.elim)
    obtain ⟨h3, tk3, rfl, kp3, hr⟩ := hk
    cases hr
    exact hQ _ _ ⟨h3, tk3, rfl, fun b o hb => kp3 _ _ (kp _ _ hb)⟩ ⟨st.1.at fun o e => kp3 _ _ e, st.2.at fun o e => kp3 _ _ e⟩ (kp3 _ _ hS) ⟨_, rfl⟩ fun _ _ h => h
  cmp := fun i j ki kj s1 Q E _ h1 h2 h => cmp i j ki kj s1 Q E h1 h2 h
/-- the lambda's keys of a list of tuples that begin with whole numbers -/
theorem keyed {pins : List (Addr × Obj)} {s : Shared} {σ : L2.St} {H : Hp} {q y : Str} {f c' : Addr} {cl : List (Str × Addr)} {pm ctv : Value} {xs : List V} {its : List Value} {k : V → Int} {g : Int → Int} (I : Inv X pins σ H s) (L : LamP y scope) (B : KeyBody X.prog X.w y body g)
    (hbind : ∀ (cl : List (Str × Addr)) (pm ctv v : Value) (c' : Addr), bindArgs (PySem.W.kla_fn "<lambda>" q params body scope cl pm (.ref c') ctv) ⟨[v], []⟩ = pure [(y, v)]) (hco : H c' = some (CodeO c' q))
    (hf : s.heap.get? f = some (PySem.W.kla_obj "<lambda>" q params body scope cl pm c' ctv)) (rv : Vals xs its) (hx : ∀ y ∈ xs, ∃ t zs, y = V.ref t ∧ H t = some (.tup (.int (k y) :: zs))) :
    xs = its.map backV ∧ (∀ u ∈ its, ∃ a, u = Value.ref a) ∧ Keyed X s q body scope f its (fun i => match its[i]? with | some v => g (k (backV v)) | none => 0) := by
  obtain ⟨e1, e2⟩ := refs_back rv fun x m => by
    obtain ⟨t, _, e, _⟩ := hx x m
    exact ⟨t, e⟩
  obtain ⟨⟨oc, cvs, ct, hoc, hdc, hvc⟩, _, _⟩ := I.hok c' _ hco
  refine ⟨e1, e2, ⟨fun A i v h tk hA hi kp => ?_⟩⟩
  have hv := List.mem_of_getElem? hi
  have fst : Fst s.heap v (k (backV v)) := by
    obtain ⟨t, rfl⟩ := e2 v hv
    have hm : V.ref t ∈ xs := by rw [e1]; exact List.mem_map.mpr ⟨_, hv, rfl⟩
    obtain ⟨t', zs, e, ht⟩ := hx _ hm
    cases e
    obtain ⟨_, its2, r2, ht2⟩ := I.hok _ _ ht
    cases r2 with
    | cons r0 r1 =>
      obtain ⟨tk, rfl⟩ := r0
      exact ⟨t, _, tk, rfl, ht2, rfl⟩
  rw [hi]
  exact lam_turn (s := { s with heap := h, toks := tk }) hA (kp _ _ hf) ⟨c', oc, cvs, ct, rfl, kp _ _ hoc, hdc, hvc⟩ (hbind _ _ _ _ _) L (I.nolimit.keeps kp) B (fst.keep kp)
theorem cr_minLam {q y : Str} {g : Int → Int} (hr : Room 1 X.A) (L : LamP y scope) (B : KeyBody X.prog X.w y body g)
    (hbind : ∀ (cl : List (Str × Addr)) (pm ctv v : Value) (c' : Addr), bindArgs (PySem.W.kla_fn "<lambda>" q params body scope cl pm (.ref c') ctv) ⟨[v], []⟩ = pure [(y, v)]) :
    CallRL X "min" q params body scope (rBestKey X.K g) := by
  intro pins s σ H vs us f c' cl pm ctv Q I r hco hf h
  obtain ⟨a, xs, k, rfl, hs, pos, hx, q⟩ := h
  obtain ⟨its, rv, hl, hz⟩ := I.list hs
  obtain rfl := Vals.ref1 r
  obtain ⟨e1, e2, Kd⟩ := keyed I L B hbind hco hf rv hx
  have hla : a < s.heap.objs.size := by obtain ⟨_, e, _⟩ := hl.isList; exact Heap.lt_size e
  have hA : X.A.in1.depth < recursionLimit := by have := hr.dp; show X.A.depth < _; omega
  have nl : its.length = xs.length := rv.length.symm
  have KR := keyrun (op := .Lt) (bt := fun i j => decide ((fun i => match its[i]? with | some v => g (k (backV v)) | none => 0) i < (fun i => match its[i]? with | some v => g (k (backV v)) | none => 0) j)) Kd hla hA (fun i j ki kj s1 Q E h1 h2 hq => CmpOf.ints_lt (P := fun i v => ∃ t, v = .int ((fun i => match its[i]? with | some v => g (k (backV v)) | none => 0) i) t) _ (fun _ _ h => h) i j ki kj s1 Q E h1 h2 hq)
  refine call_min_walkK (wpAny_pyIter_list hl.isList ⟨s.heap.objs.size, [s.heap.objs.size, a], [s.heap.objs.size], _, its.toArray.size, _, _, (fun s' : Shared => ∃ h' tk, s' = { s with heap := h', toks := tk } ∧ ∀ b o, s.heap.get? b = some o → h'.get? b = some o), (fun i (kv : Value) (_ : Shared) => ∃ t, kv = Value.int ((fun i => match its[i]? with | some v => g (k (backV v)) | none => 0) i) t), (fun i j => decide ((fun i => match its[i]? with | some v => g (k (backV v)) | none => 0) i < (fun i => match its[i]? with | some v => g (k (backV v)) | none => 0) j)), rfl, (Walks.list (A := X.A.in1) hr.hd _ a (Nat.ne_of_lt hla) its.toArray).toS, ⟨⟨_, Heap.get?_push_size _ rfl, rfl, rfl⟩, hl.isList.push _⟩, fun b hb => ?_, by rw [List.size_toArray]; omega, by rw [Heap.size_push]; exact KR, ⟨_, s.toks, rfl, fun b o e => Heap.get?_push_of_some _ e⟩, fun v s' hP hJ => ?_⟩)
  · show b < (s.heap.push _).objs.size
    rw [Heap.size_push]
    rcases List.mem_cons.mp hb with z | z
    · rw [z]
      exact Nat.lt_succ_self _
    · rw [List.mem_singleton.mp z]
      exact Nat.lt_succ_of_lt hla
  · obtain ⟨h', tk, rfl, kp⟩ := hJ
    have hP : its[argBest (fun i j => decide ((fun i => match its[i]? with | some v => g (k (backV v)) | none => 0) i < (fun i => match its[i]? with | some v => g (k (backV v)) | none => 0) j)) (its.toArray.size - 1)]? = some v := by simpa using hP
    rw [List.size_toArray] at hP
    obtain ⟨f1, f2, f3⟩ := first_least (fun i => match its[i]? with | some v => g (k (backV v)) | none => 0) (its.length - 1)
    generalize argBest (fun i j => decide ((fun i => match its[i]? with | some v => g (k (backV v)) | none => 0) i < (fun i => match its[i]? with | some v => g (k (backV v)) | none => 0) j)) (its.length - 1) = m at hP f1 f2 f3
    have at_ : ∀ (j : Nat) (z : V), xs[j]? = some z → ∃ u, its[j]? = some u ∧ z = backV u := fun j z hz => by
      rw [e1, List.getElem?_map] at hz
      cases eu : its[j]? with
      | none => rw [eu] at hz; cases hz
      | some u => rw [eu] at hz; exact ⟨u, rfl, (Option.some.inj hz).symm⟩
    obtain ⟨av, rfl⟩ := e2 v (List.mem_of_getElem? hP)
    refine ⟨.ref av, H, I.kept kp, rfl, q _ ⟨m, ?_, fun j z hz => ?_, fun j z hj hz => ?_⟩⟩
    · rw [e1, List.getElem?_map, hP]
      rfl
    · obtain ⟨u, hu, rfl⟩ := at_ j z hz
      have := f2 j (by have := (List.getElem?_eq_some_iff.mp hu).1; omega)
      simp only [hP, hu] at this
      exact this
    · obtain ⟨u, hu, rfl⟩ := at_ j z hz
      have := f3 j hj
      simp only [hP, hu] at this
      exact this
theorem cr_maxLam {q y : Str} {g : Int → Int} (hr : Room 1 X.A) (L : LamP y scope) (B : KeyBody X.prog X.w y body g)
    (hbind : ∀ (cl : List (Str × Addr)) (pm ctv v : Value) (c' : Addr), bindArgs (PySem.W.kla_fn "<lambda>" q params body scope cl pm (.ref c') ctv) ⟨[v], []⟩ = pure [(y, v)]) :
    CallRL X "max" q params body scope (rBestKey X.K (fun i => -(g i))) := by
  intro pins s σ H vs us f c' cl pm ctv Q I r hco hf h
  obtain ⟨a, xs, k, rfl, hs, pos, hx, q⟩ := h
  obtain ⟨its, rv, hl, hz⟩ := I.list hs
  obtain rfl := Vals.ref1 r
  obtain ⟨e1, e2, Kd⟩ := keyed I L B hbind hco hf rv hx
  have hla : a < s.heap.objs.size := by obtain ⟨_, e, _⟩ := hl.isList; exact Heap.lt_size e
  have hA : X.A.in1.depth < recursionLimit := by have := hr.dp; show X.A.depth < _; omega
  have nl : its.length = xs.length := rv.length.symm
  have KR := keyrun (op := .Gt) (bt := fun i j => decide ((fun i => match its[i]? with | some v => g (k (backV v)) | none => 0) i > (fun i => match its[i]? with | some v => g (k (backV v)) | none => 0) j)) Kd hla hA (fun i j ki kj s1 Q E h1 h2 hq => CmpOf.ints_gt (P := fun i v => ∃ t, v = .int ((fun i => match its[i]? with | some v => g (k (backV v)) | none => 0) i) t) _ (fun _ _ h => h) i j ki kj s1 Q E h1 h2 hq)
  refine call_max_walkK (wpAny_pyIter_list hl.isList ⟨s.heap.objs.size, [s.heap.objs.size, a], [s.heap.objs.size], _, its.toArray.size, _, _, (fun s' : Shared => ∃ h' tk, s' = { s with heap := h', toks := tk } ∧ ∀ b o, s.heap.get? b = some o → h'.get? b = some o), (fun i (kv : Value) (_ : Shared) => ∃ t, kv = Value.int ((fun i => match its[i]? with | some v => g (k (backV v)) | none => 0) i) t), (fun i j => decide ((fun i => match its[i]? with | some v => g (k (backV v)) | none => 0) i > (fun i => match its[i]? with | some v => g (k (backV v)) | none => 0) j)), rfl, (Walks.list (A := X.A.in1) hr.hd _ a (Nat.ne_of_lt hla) its.toArray).toS, ⟨⟨_, Heap.get?_push_size _ rfl, rfl, rfl⟩, hl.isList.push _⟩, fun b hb => ?_, by rw [List.size_toArray]; omega, by rw [Heap.size_push]; exact KR, ⟨_, s.toks, rfl, fun b o e => Heap.get?_push_of_some _ e⟩, fun v s' hP hJ => ?_⟩)
  · show b < (s.heap.push _).objs.size
    rw [Heap.size_push]
    rcases List.mem_cons.mp hb with z | z
    · rw [z]
      exact Nat.lt_succ_self _
    · rw [List.mem_singleton.mp z]
      exact Nat.lt_succ_of_lt hla
  · obtain ⟨h', tk, rfl, kp⟩ := hJ
    have hP : its[argBest (fun i j => decide ((fun i => match its[i]? with | some v => g (k (backV v)) | none => 0) i > (fun i => match its[i]? with | some v => g (k (backV v)) | none => 0) j)) (its.toArray.size - 1)]? = some v := by simpa using hP
    rw [List.size_toArray, best_neg] at hP
    obtain ⟨f1, f2, f3⟩ := first_least (fun i => -((fun i => match its[i]? with | some v => g (k (backV v)) | none => 0) i)) (its.length - 1)
    generalize argBest (fun i j => decide ((fun i => -((fun i => match its[i]? with | some v => g (k (backV v)) | none => 0) i)) i < (fun i => -((fun i => match its[i]? with | some v => g (k (backV v)) | none => 0) i)) j)) (its.length - 1) = m at hP f1 f2 f3
    have at_ : ∀ (j : Nat) (z : V), xs[j]? = some z → ∃ u, its[j]? = some u ∧ z = backV u := fun j z hz => by
      rw [e1, List.getElem?_map] at hz
      cases eu : its[j]? with
      | none => rw [eu] at hz; cases hz
      | some u => rw [eu] at hz; exact ⟨u, rfl, (Option.some.inj hz).symm⟩
    obtain ⟨av, rfl⟩ := e2 v (List.mem_of_getElem? hP)
    refine ⟨.ref av, H, I.kept kp, rfl, q _ ⟨m, ?_, fun j z hz => ?_, fun j z hj hz => ?_⟩⟩
    · rw [e1, List.getElem?_map, hP]
      rfl
    · obtain ⟨u, hu, rfl⟩ := at_ j z hz
      have := f2 j (by have := (List.getElem?_eq_some_iff.mp hu).1; omega)
      simp only [hP, hu] at this
      exact this
    · obtain ⟨u, hu, rfl⟩ := at_ j z hz
      have := f3 j hj
      simp only [hP, hu] at this
      exact this
end
open LamX in
/-- the same, with default=None -/
def CallRD (X : Cx) (id : String) (q : Str) (params : Arguments) (body : Expr) (scope : Scope) (r : List V → Hp → VK → Prop) : Prop :=
  ∀ (pins : List (Addr × Obj)) (s : Shared) (σ : L2.St) (H : Hp) (xs : List V) (us : List Value) (f c' : Addr) (cl : List (Str × Addr)) (pm ctv : Value) (Q : VK), Inv X pins σ H s → Vals xs us → H c' = some (CodeO c' q) →
    s.heap.get? f = some (PySem.W.kla_obj "<lambda>" q params body scope cl pm c' ctv) → r xs H Q → wpAny (model X.prog X.w) X.A (call (.builtin id) us [(Str.ofString "key", .ref f), (Str.ofString "default", .none)]) (EP X pins σ Q) X.xe s
section
open LamX
variable {X : Cx} {x : Str} {p pos lpos kpos : Pos} {e : Expr} {es : List Expr} {t : TA} {id : String} {r : List V → Hp → VK → Prop} {params : Arguments} {body : Expr} {scope : Scope} {T : List (Addr × Str)} {c P : Addr}
theorem pe_callLD {jd : Nat} {dpos kpos2 : Pos} (TB : TabB X.base X.mg c P) (hcode : X.env.code = .ref c) (hmT : (P, X.env.qual ++ "<lambda>") ∈ T) (hu : ∀ p ∈ T, p.1 = P → p.2 = X.env.qual ++ "<lambda>") (hc : CallRD X id (X.env.qual ++ "<lambda>") params body scope r)
    (hg : Gl X x) (hm : X.mg x = none) (hv : bootBuiltins x = some (.builtin id)) (ha : PA X (e :: es) t) (hdef : defaultsOf params X.env = ([], [])) (hfree : ∀ y ∈ scope.names, y.2 ≠ .free)
    (hn : x ≠ "__name__" := by decide) (hdb : (x == ("__debug__" : Str)) = false := by decide)
    (he : backTo pos (starEach (e :: es) X.env) = (false, eval e X.env) :: backTo pos (starEach es X.env) := by rfl) (hpl : (backTo pos (starEach (e :: es) X.env)).any (·.1) = false := by rfl) :
    PE X (.Call (.Name x p) (e :: es) [⟨some "key", .Lambda params body scope lpos, kpos⟩, ⟨some "default", .Constant .none jd dpos, kpos2⟩] pos) (tLamR T r t) := by
  refine ⟨fun pins s σ H Q I h => ?_⟩
  refine wpAny_Call_Name_kw (ld_blt I hg hm hv ?_ hn hdb)
  refine PyProof.Rows.callWith_kw (thn (ha.run pos pins s σ H _ I h) fun us s1 ⟨vs, H1, I1, r1, hT, q1⟩ => ?_) he hpl rfl rfl
  show wpAny _ _ (evalAll [(do let v ← eval (.Lambda params body scope lpos) X.env; standAt pos; pure v), (do let v ← eval (.Constant .none jd dpos) X.env; standAt pos; pure v)]) _ _ s1
  refine wpAny_evalAll_cons (wpAny_bind (lam_make2 I1 TB hcode hmT hu hT hdef (fun y hy z => absurd z (hfree y hy)) fun f c' pm ctv H2 s2 I2 eN T2 hf hfn hfr hco => ?_))
  refine wpAny_bind (wpAny_standAt (wpAny_pure (wpAny_evalAll_cons (wpAny_bind (Constant_none (wpAny_bind (wpAny_standAt (wpAny_pure (wpAny_evalAll_nil ?_)))))))))
  exact hc pins s2 σ H2 vs us f c' _ pm ctv Q I2 r1 hco hf (q1 H2 eN T2)
def rBestKeyD (K : PySem.W.Frag) (h : Int → Int) : List V → Hp → VK → Prop := fun vs H Q => ∃ (a : Addr) (xs : List V) (k : V → Int), vs = [V.ref a] ∧ SqL K H a xs ∧ (∀ y ∈ xs, ∃ t zs, y = V.ref t ∧ H t = some (.tup (.int (k y) :: zs))) ∧ (xs = [] → Q .non H) ∧ ∀ y, FirstLeast xs (fun z => h (k z)) y → Q y H
theorem cr_minLamD {q y : Str} {g : Int → Int} (hr : Room 1 X.A) (L : LamP y scope) (B : KeyBody X.prog X.w y body g)
    (hbind : ∀ (cl : List (Str × Addr)) (pm ctv v : Value) (c' : Addr), bindArgs (PySem.W.kla_fn "<lambda>" q params body scope cl pm (.ref c') ctv) ⟨[v], []⟩ = pure [(y, v)]) :
    CallRD X "min" q params body scope (rBestKeyD X.K g) := by
  intro pins s σ H vs us f c' cl pm ctv Q I r hco hf h
  obtain ⟨a, xs, k, rfl, hs, hx, q0, q⟩ := h
  obtain ⟨its, rv, hl, hz⟩ := I.list hs
  obtain rfl := Vals.ref1 r
  obtain ⟨e1, e2, Kd⟩ := keyed I L B hbind hco hf rv hx
  have hla : a < s.heap.objs.size := by obtain ⟨_, e, _⟩ := hl.isList; exact Heap.lt_size e
  have hA : X.A.in1.depth < recursionLimit := by have := hr.dp; show X.A.depth < _; omega
  have nl : its.length = xs.length := rv.length.symm
  have KR := keyrun (op := .Lt) (bt := fun i j => decide ((fun i => match its[i]? with | some v => g (k (backV v)) | none => 0) i < (fun i => match its[i]? with | some v => g (k (backV v)) | none => 0) j)) Kd hla hA (fun i j ki kj s1 Q E h1 h2 hq => CmpOf.ints_lt (P := fun i v => ∃ t, v = .int ((fun i => match its[i]? with | some v => g (k (backV v)) | none => 0) i) t) _ (fun _ _ h => h) i j ki kj s1 Q E h1 h2 hq)
  refine call_min_walkKD (wpAny_pyIter_list hl.isList ⟨s.heap.objs.size, [s.heap.objs.size, a], [s.heap.objs.size], _, its.toArray.size, _, _, (fun s' : Shared => ∃ h' tk, s' = { s with heap := h', toks := tk } ∧ ∀ b o, s.heap.get? b = some o → h'.get? b = some o), (fun i (kv : Value) (_ : Shared) => ∃ t, kv = Value.int ((fun i => match its[i]? with | some v => g (k (backV v)) | none => 0) i) t), (fun i j => decide ((fun i => match its[i]? with | some v => g (k (backV v)) | none => 0) i < (fun i => match its[i]? with | some v => g (k (backV v)) | none => 0) j)), rfl, (Walks.list (A := X.A.in1) hr.hd _ a (Nat.ne_of_lt hla) its.toArray).toS, ⟨⟨_, Heap.get?_push_size _ rfl, rfl, rfl⟩, hl.isList.push _⟩, fun b hb => ?_, by rw [Heap.size_push]; exact KR, ⟨_, s.toks, rfl, fun b o e => Heap.get?_push_of_some _ e⟩, fun n0 s' hJ => ?_, fun npos v s' hP hJ => ?_⟩)
  · show b < (s.heap.push _).objs.size
    rw [Heap.size_push]
    rcases List.mem_cons.mp hb with z | z
    · rw [z]
      exact Nat.lt_succ_self _
    · rw [List.mem_singleton.mp z]
      exact Nat.lt_succ_of_lt hla
  · obtain ⟨h', tk, rfl, kp⟩ := hJ
    rw [List.size_toArray] at n0
    exact ⟨.non, H, I.kept kp, rfl, q0 (List.length_eq_zero_iff.mp (by omega))⟩
  · obtain ⟨h', tk, rfl, kp⟩ := hJ
    rw [List.size_toArray] at npos
    have hP : its[argBest (fun i j => decide ((fun i => match its[i]? with | some v => g (k (backV v)) | none => 0) i < (fun i => match its[i]? with | some v => g (k (backV v)) | none => 0) j)) (its.toArray.size - 1)]? = some v := by simpa using hP
    rw [List.size_toArray] at hP
    obtain ⟨f1, f2, f3⟩ := first_least (fun i => match its[i]? with | some v => g (k (backV v)) | none => 0) (its.length - 1)
    generalize argBest (fun i j => decide ((fun i => match its[i]? with | some v => g (k (backV v)) | none => 0) i < (fun i => match its[i]? with | some v => g (k (backV v)) | none => 0) j)) (its.length - 1) = m at hP f1 f2 f3
    have at_ : ∀ (j : Nat) (z : V), xs[j]? = some z → ∃ u, its[j]? = some u ∧ z = backV u := fun j z hz => by
      rw [e1, List.getElem?_map] at hz
      cases eu : its[j]? with
      | none => rw [eu] at hz; cases hz
      | some u => rw [eu] at hz; exact ⟨u, rfl, (Option.some.inj hz).symm⟩
    obtain ⟨av, rfl⟩ := e2 v (List.mem_of_getElem? hP)
    refine ⟨.ref av, H, I.kept kp, rfl, q (.ref av) ⟨m, ?_, fun j z hz => ?_, fun j z hj hz => ?_⟩⟩
    · rw [e1, List.getElem?_map, hP]
      rfl
    · obtain ⟨u, hu, rfl⟩ := at_ j z hz
      have := f2 j (by have := (List.getElem?_eq_some_iff.mp hu).1; omega)
      simp only [hP, hu] at this
      exact this
    · obtain ⟨u, hu, rfl⟩ := at_ j z hz
      have := f3 j hj
      simp only [hP, hu] at this
      exact this
end
end Far

namespace Far
open PySem PySem.Spec PyProof.Rows L2
open C8 (pss_cut tCut)
open SX (S)
open RZ (ItzT iZipA pi_zipA)
theorem for_zipT {K : PySem.W.Frag} {a b : Addr} {xs ys : List V} {g : TG} {tb : TS} {D : Ends} {σ : L2.St} {H : Hp} (len : xs.length = ys.length) (Pv : Nat → L2.St → Hp → Prop) (h0 : Pv 0 σ H) (hl : ∀ i σ H, Pv i σ H → SqT K H a xs ∧ SqT K H b ys)
    (hs : ∀ i x y σ H T, xs[i]? = some x → ys[i]? = some y → Pv i σ H → H T = none → g (.ref T) σ (upd H T (.tup [x, y])) fun σ2 H2 => tb { D with nx := Pv (i + 1), ct := Pv (i + 1), bk := D.nx } σ2 H2) (hd : ∀ σ H, Pv xs.length σ H → D.nx σ H) :
    ∃ W : Nat → Nat → L2.St → Hp → Prop, (∃ m, W 0 m σ H) ∧ ∀ i m σ H, W i m σ H →
      ((ItzT K a b).stop i H ∧ D.nx σ H) ∨ ((ItzT K a b).go i H ∧ ∃ N : L2.St → Hp → Prop, (∀ σ' H', N σ' H' → ∃ m', m' < m ∧ W (i + 1) m' σ' H') ∧ ∀ x H', (ItzT K a b).yld i H x H' → g x σ H' fun σ2 H2 => tb { D with nx := N, ct := N, bk := D.nx } σ2 H2) := by
  refine ⟨fun i m σ H => m = xs.length - i ∧ i ≤ xs.length ∧ Pv i σ H, ⟨xs.length, by simp, Nat.zero_le _, h0⟩, fun i m σ H ⟨em, hi, p⟩ => ?_⟩
  obtain ⟨q1, q2⟩ := hl i σ H p
  by_cases lt : i < xs.length
  · have lt2 : i < ys.length := by omega
    refine .inr ⟨⟨xs, ys, xs[i], ys[i], q1, q2, by simp [lt], by simp [lt2]⟩, Pv (i + 1), fun σ' H' p' => ⟨xs.length - (i + 1), by omega, rfl, lt, p'⟩, fun v H' ⟨T, x, y, ev, nT, eH, hx, hy⟩ => ?_⟩
    rw [ev, eH]
    exact hs i x y σ H T (hx xs q1) (hy ys q2) p nT
  · have e : i = xs.length := by omega
    rw [e] at p
    exact .inl ⟨⟨xs, ys, q1, q2, .inl (by omega)⟩, hd σ H p⟩
/-- the greatest length inside the two trees -/
def mx2 (i j : Int) : Int := if j > i then j else i
noncomputable def insN (pl pl' : List Nm) (ts ts' : List Tie) : Int := mx2 (mxG (pl.map (rch pl ts))) (mxG (pl'.map (rch pl' ts')))
noncomputable def joinT (pl pl' : List Nm) (ts ts' : List Tie) (k : Int) (x y : Nm) : Tri := (mx2 (insN pl pl' ts ts') (rch pl ts x + k + rch pl' ts' y), x, y)
noncomputable def joinsOf (pl pl' : List Nm) (ts ts' : List Tie) (k : Int) (l : List Nm) : List Tri := l.flatMap fun x => pl'.map fun y => joinT pl pl' ts ts' k x y
theorem joinsOf_len (pl pl' : List Nm) (ts ts' : List Tie) (k : Int) : ∀ l : List Nm, (joinsOf pl pl' ts ts' k l).length = l.length * pl'.length
  | [] => by simp [joinsOf]
  | x :: r => by
    have ih := joinsOf_len pl pl' ts ts' k r
    unfold joinsOf at *
    rw [List.flatMap_cons, List.length_append, ih, List.length_map, List.length_cons, Nat.succ_mul]
    omega
theorem joinsOf_snoc (pl pl' : List Nm) (ts ts' : List Tie) (k : Int) (l : List Nm) (x : Nm) : joinsOf pl pl' ts ts' k (l ++ [x]) = joinsOf pl pl' ts ts' k l ++ pl'.map fun y => joinT pl pl' ts ts' k x y := by
  unfold joinsOf
  rw [List.flatMap_append]
  simp
structure TxtJ (mg : Str → Option Value) : Prop where
  max : mg "max" = none
  zip : mg "zip" = none
abbrev s_all_joins : Stmt := topS 26
abbrev N_all_joins : List Str := ["one", "other", "length", "reaches", "beyond", "inside", "told", "first", "reach", "second", "far"]
theorem sc_all_joins : FnScope N_all_joins ["one", "other", "length"] (defScope s_all_joins) := ⟨rfl, rfl, rfl, by decide +kernel, rfl, by decide +kernel, by decide +kernel⟩
section
variable {P : Program} {w : World} {K : PySem.W.Frag} {mg : Str → Option Value} {base : Heap}
def spAllJ : Sp := fun vs H Q _ => ∃ (v v' : V) (pl pl' : List Nm) (ts ts' : List Tie) (k : Int), vs = [v, v', .int k] ∧ Dt H v (treeD pl ts) ∧ Dt H v' (treeD pl' ts') ∧ (∀ x ∈ pl, NameOk x) ∧ pl.length ≤ 40 ∧ pl'.length ≤ 40 ∧ (∀ x ∈ pl, x ∉ pl') ∧ Fine pl ts ∧ Fine pl' ts' ∧ ∀ (H' : Hp) (q : Addr) (ws : List V), Same H H' → H q = none → H' q = some (.lst ws) → DtAll H' ws ((joinsOf pl pl' ts ts' k pl).map triD) → Q (.ref q) H'
theorem ok_all_joins {f : Addr} {fd : FuncData} (F : Fun K "_all_joins" "_all_joins" s_all_joins f fd) (T : TxtJ mg) (C_check_unlike : Cal P w K mg base 1 "_check_unlike" spUnlike) (Cfarthest_of_each : Cal P w K mg base 4 "farthest_of_each" spFoe) : FnOk P w K mg base CX0 5 f fd ["one", "other", "length"] spAllJ := by
  refine F.ok sc_all_joins (fun vs H Q E h => ?_) (fun cdv A outer s H vs Q E hr h => ?_)
  · obtain ⟨v, v', pl, pl', ts, ts', k, rfl, _⟩ := h
    rfl
  · obtain ⟨v, v', pl, pl', ts, ts', k, rfl, hd, hd', oks, l1, l2, dis, F1, F2, q⟩ := h
    obtain ⟨t, a, b, vs, rfl, ht, ha, hb, hA⟩ := dt_tree hd
    obtain ⟨t', a', b', vs', rfl, ht', ha', hb', hA'⟩ := dt_tree hd'
    refine ⟨_, (pss_cons (ps_expr (pe_c C_check_unlike hr (by decide) rfl (pa_cons (pv 0) (pa_cons (pv 1) pa_nil))))
      (pss_cons (ps_set (i := 3) sc_all_joins.nd rfl (.inl rfl) (pe_c Cfarthest_of_each hr (by decide) rfl (pa_cons (pv 0) pa_nil)))
      (pss_cons (ps_set (i := 4) sc_all_joins.nd rfl (.inl rfl) (pe_c Cfarthest_of_each hr (by decide) rfl (pa_cons (pv 1) pa_nil)))
      (pss_cons (ps_set (i := 5) sc_all_joins.nd rfl (.inl rfl) (pe_callB (call_max2 rfl) (by rfl) T.max bt_max (pa_cons (pe_callB (cr_maxT (K := K) rfl) (by rfl) T.max bt_max (pa_cons (pv 3) pa_nil)) (pa_cons (pe_callB (cr_maxT (K := K) rfl) (by rfl) T.max bt_max (pa_cons (pv 4) pa_nil)) pa_nil))))
      (pss_cons (ps_set (i := 6) sc_all_joins.nd rfl (.inl rfl) (pe_lst pa_nil))
      (pss_cut (ps_for PassesOwn.never rfl (pi_zipA (by rfl) T.zip (pa_cons (pe_ix ix_tup (pv 0) pe_int (fun _ _ => rfl)) (pa_cons (pv 3) pa_nil))) (pg_tup rfl (pgs_cons (pg_name (i := 7) sc_all_joins.nd rfl (.inl rfl)) (pgs_cons (pg_name (i := 8) sc_all_joins.nd rfl (.inl rfl)) pgs_nil)))
        (pss_one (ps_for PassesOwn.never rfl (pi_zipA (by rfl) T.zip (pa_cons (pe_ix ix_tup (pv 1) pe_int (fun _ _ => rfl)) (pa_cons (pv 4) pa_nil))) (pg_tup rfl (pgs_cons (pg_name (i := 9) sc_all_joins.nd rfl (.inl rfl)) (pgs_cons (pg_name (i := 10) sc_all_joins.nd rfl (.inl rfl)) pgs_nil)))
          (pss_one (ps_expr (pe_bm PySem.F.plainAttrs_list PySem.F.slot_list_append PySem.F.type_list_append mt_append (pv 6) (pa_cons (pe_tup (pa_cons (pe_callB (call_max2 rfl) (by rfl) T.max bt_max (pa_cons (pv 5) (pa_cons (pe_op op_add (pe_op op_add (pv 8) (pv 2)) (pv 10)) pa_nil))) (pa_cons (pv 7) (pa_cons (pv 9) pa_nil)))) pa_nil)))))))
      (pss_one (ps_ret (pv 6))))))))), ?_⟩
    refine ⟨_, rfl, _, rfl, .ref t, .ref t', pl, pl', ts, ts', rfl, hd, hd', oks, dis, ?_⟩
    have lpos : 0 < pl.length := List.length_pos_iff.mpr F1.ne
    have lpos' : 0 < pl'.length := List.length_pos_iff.mpr F2.ne
    refine ⟨_, rfl, .ref t, pl, ts, rfl, hd, F1, fun H1 r1 S1 n1 h1 => ?_⟩
    refine ⟨_, rfl, .ref t', pl', ts', rfl, Dt.keep (TK.of S1) hd', F2, fun H2 r2 S2 n2 h2 => ?_⟩
    have h12 := S2 _ _ h1
    have S12 := S1.trans S2
    refine ⟨_, rfl, r1, _, rfl, SqT.of h12, by rw [List.length_map]; exact lpos, fun m hm hle => ?_⟩
    rw [mxG_is hm hle]
    refine ⟨_, rfl, r2, _, rfl, SqT.of h2, by rw [List.length_map]; exact lpos', fun m' hm' hle' => ?_⟩
    rw [mxG_is hm' hle']
    clear hm hle hm' hle'
    refine ⟨_, _, rfl, ?_⟩
    refine ⟨Nat.zero_le _, fun D nD => ?_⟩
    have S3 := same_new (o := .lst []) S12 nD
    have nD0 := S12.free nD
    have h13 := same_new (o := .lst []) (Same.refl H2) nD _ _ h12
    have h23 := same_new (o := .lst []) (Same.refl H2) nD _ _ h2
    have hD0 : (upd H2 D (.lst [])) D = some (.lst []) := upd_same
    generalize upd H2 D (.lst []) = H3 at S3 h13 h23 hD0
    have r1D : r1 ≠ D := ne_of h13 hD0 (by intro z; cases z)
    have r2D : r2 ≠ D := ne_of h23 hD0 (by intro z; cases z)
    refine ⟨fun σ' H' => ∃ (x7 x8 x9 x10 : Option V) (ws : List V), σ' = [some (.ref t), some (.ref t'), some (.int k), some (.ref r1), some (.ref r2), some (.int (insN pl pl' ts ts')), some (.ref D), x7, x8, x9, x10] ∧ Same H H' ∧ H' D = some (.lst ws) ∧ DtAll H' ws ((joinsOf pl pl' ts ts' k pl).map triD), ?_, fun σ' H' hM => ?_⟩
    rotate_left
    · obtain ⟨x7, x8, x9, x10, ws, rfl, S4, hD, hW⟩ := hM
      exact ⟨_, rfl, q H' D ws S4 nD0 hD hW⟩
    · refine ⟨_, rfl, t, _, 0, .ref a, rfl, rfl, SqT.of (S3 _ _ ht), atI_nat (j := 0) rfl, _, rfl, a, r1, _, _, rfl, .inr ⟨(ha.same S3).sq, SqT.of h13, for_zipT (K := K) (a := a) (b := r1) (xs := (pl.map S).map V.str) (ys := (pl.map (rch pl ts)).map V.int) (by simp) (fun i σ' H' => ∃ (x7 x8 x9 x10 : Option V) (ws : List V), σ' = [some (.ref t), some (.ref t'), some (.int k), some (.ref r1), some (.ref r2), some (.int (insN pl pl' ts ts')), some (.ref D), x7, x8, x9, x10] ∧ Same H H' ∧ H' r1 = some (.tup ((pl.map (rch pl ts)).map V.int)) ∧ H' r2 = some (.tup ((pl'.map (rch pl' ts')).map V.int)) ∧ H' D = some (.lst ws) ∧ DtAll H' ws ((joinsOf pl pl' ts ts' k (pl.take i)).map triD))
        ⟨none, none, none, none, [], rfl, S3, h13, h23, hD0, .nil⟩ (fun i σ' H' hP => ?_) (fun i x y σ' H' T1 hx hy hP nT => ?_) (fun σ' H' hP => ?_)⟩⟩
      · obtain ⟨_, _, _, _, _, _, S4, g1, _, _⟩ := hP
        exact ⟨(ha.same S4).sq, SqT.of g1⟩
      · obtain ⟨x7, x8, x9, x10, ws, rfl, S4, g1, g2, hD, hW⟩ := hP
        obtain ⟨nm, hnm, mnm, rfl, ex⟩ := at_name hx
        have ey : y = .int (rch pl ts nm) := by
          rw [List.getElem?_map, List.getElem?_map, hnm] at hy
          exact (Option.some.inj hy).symm
        subst ey
        have il := (List.getElem?_eq_some_iff.mp hnm).1
        have S5 := same_new (o := .tup [.str (S nm), .int (rch pl ts nm)]) S4 nT
        have g15 := same_new (o := .tup [.str (S nm), .int (rch pl ts nm)]) (Same.refl H') nT _ _ g1
        have g25 := same_new (o := .tup [.str (S nm), .int (rch pl ts nm)]) (Same.refl H') nT _ _ g2
        have hD5 := same_new (o := .tup [.str (S nm), .int (rch pl ts nm)]) (Same.refl H') nT _ _ hD
        have hW5 := DtAll.keep (TK.new (o := .tup [.str (S nm), .int (rch pl ts nm)]) nT) hW
        have hT : (upd H' T1 (.tup [.str (S nm), .int (rch pl ts nm)])) T1 = some (.tup [.str (S nm), .int (rch pl ts nm)]) := upd_same
        generalize upd H' T1 (.tup [.str (S nm), .int (rch pl ts nm)]) = H5 at S5 g15 g25 hD5 hW5 hT
        refine ⟨T1, _, rfl, SqT.of hT, rfl, _, _, rfl, _, _, rfl, rfl, ?_⟩
        rw [ex, joinsOf_snoc]
        refine ⟨_, rfl, t', _, 0, .ref a', rfl, rfl, SqT.of (S5 _ _ ht'), atI_nat (j := 0) rfl, _, rfl, a', r2, _, _, rfl, .inr ⟨(ha'.same S5).sq, SqT.of g25, for_zipT (K := K) (a := a') (b := r2) (xs := (pl'.map S).map V.str) (ys := (pl'.map (rch pl' ts')).map V.int) (by simp) (fun j σ' H' => ∃ (x9 x10 : Option V) (ws : List V), σ' = [some (.ref t), some (.ref t'), some (.int k), some (.ref r1), some (.ref r2), some (.int (insN pl pl' ts ts')), some (.ref D), some (.str (S nm)), some (.int (rch pl ts nm)), x9, x10] ∧ Same H H' ∧ H' r1 = some (.tup ((pl.map (rch pl ts)).map V.int)) ∧ H' r2 = some (.tup ((pl'.map (rch pl' ts')).map V.int)) ∧ H' D = some (.lst ws) ∧ DtAll H' ws ((joinsOf pl pl' ts ts' k (pl.take i) ++ (pl'.take j).map fun y => joinT pl pl' ts ts' k nm y).map triD))
          ⟨_, _, ws, rfl, S5, g15, g25, hD5, by rw [List.take_zero, List.map_nil, List.append_nil]; exact hW5⟩ (fun j σ' H' hP => ?_) (fun j x y σ' H' T2 hx hy hP nT => ?_) (fun σ' H' hP => ?_)⟩⟩
        · obtain ⟨_, _, _, _, S4, _, g2, _⟩ := hP
          exact ⟨(ha'.same S4).sq, SqT.of g2⟩
        · clear S4 S5 g1 g2 g15 g25 hD hD5 hW hW5 hT ws
          obtain ⟨y9, y10, ws, rfl, S4, g1, g2, hD, hW⟩ := hP
          obtain ⟨nn, hnn, mnn, rfl, ex2⟩ := at_name hx
          have ey : y = .int (rch pl' ts' nn) := by
            rw [List.getElem?_map, List.getElem?_map, hnn] at hy
            exact (Option.some.inj hy).symm
          subst ey
          have jl := (List.getElem?_eq_some_iff.mp hnn).1
          have S5 := same_new (o := .tup [.str (S nn), .int (rch pl' ts' nn)]) S4 nT
          have k5 := TK.new (o := .tup [.str (S nn), .int (rch pl' ts' nn)]) nT
          have hD5 := same_new (o := .tup [.str (S nn), .int (rch pl' ts' nn)]) (Same.refl H') nT _ _ hD
          have hT : (upd H' T2 (.tup [.str (S nn), .int (rch pl' ts' nn)])) T2 = some (.tup [.str (S nn), .int (rch pl' ts' nn)]) := upd_same
          generalize upd H' T2 (.tup [.str (S nn), .int (rch pl' ts' nn)]) = H5 at S5 k5 hD5 hT
          refine ⟨T2, _, rfl, SqT.of hT, rfl, _, _, rfl, _, _, rfl, rfl, ?_⟩
          refine ⟨_, rfl, .inl ⟨rfl, _, SqL.of hD5⟩, ?_⟩
          refine ⟨_, rfl, _, rfl, _, rfl, _, _, rfl, rfl, _, rfl, _, _, rfl, rfl, _, _, rfl, _, rfl, _, rfl, (by show 3 ≤ sizeLine; decide), fun g ng => ?_⟩
          have S6 := same_new (o := .tup [.int (mx2 (insN pl pl' ts ts') (rch pl ts nm + k + rch pl' ts' nn)), .str (S nm), .str (S nn)]) S5 ng
          have hD6 := same_new (o := .tup [.int (mx2 (insN pl pl' ts ts') (rch pl ts nm + k + rch pl' ts' nn)), .str (S nm), .str (S nn)]) (Same.refl H5) ng _ _ hD5
          have hg : (upd H5 g (.tup [.int (mx2 (insN pl pl' ts ts') (rch pl ts nm + k + rch pl' ts' nn)), .str (S nm), .str (S nn)])) g = some (.tup [.int (mx2 (insN pl pl' ts ts') (rch pl ts nm + k + rch pl' ts' nn)), .str (S nm), .str (S nn)]) := upd_same
          have wl := DtAll.len hW
          rw [List.length_map, List.length_append, joinsOf_len, List.length_map, List.length_take, List.length_take] at wl
          have wl2 : ws.length ≤ 2000 := by
            have h1 : min i pl.length * pl'.length ≤ 40 * 40 := Nat.mul_le_mul (by omega) l2
            omega
          have k6 := k5.trans (TK.new (o := .tup [.int (mx2 (insN pl pl' ts ts') (rch pl ts nm + k + rch pl' ts' nn)), .str (S nm), .str (S nn)]) ng)
          have g1' := (k6.trans (TK.mut (o := .lst (ws ++ [.ref g])) hD6)).tup _ _ g1
          have g2' := (k6.trans (TK.mut (o := .lst (ws ++ [.ref g])) hD6)).tup _ _ g2
          have hg' := (TK.mut (o := .lst (ws ++ [.ref g])) hD6).tup _ _ hg
          have hW' := DtAll.keep (k6.trans (TK.mut (o := .lst (ws ++ [.ref g])) hD6)) hW
          refine ⟨D, ws, _, rfl, rfl, hD6, sz_lt (by omega), ?_⟩
          refine ⟨_, _, ws ++ [.ref g], rfl, same_put S6 nD0, g1', g2', upd_same, ?_⟩
          rw [ex2, List.map_append (l₁ := pl'.take j), ← List.append_assoc, List.map_append (l₂ := List.map _ [nn])]
          exact DtAll.app hW' (.cons (.tup hg' (.cons (.int _) (.cons (.str _) (.cons (.str _) .nil)))) .nil)
        · obtain ⟨y9, y10, ws, rfl, S4, g1, g2, hD, hW⟩ := hP
          rw [List.length_map, List.length_map, List.take_length] at hW
          exact ⟨_, _, _, _, ws, rfl, S4, g1, g2, hD, hW⟩
      · obtain ⟨x7, x8, x9, x10, ws, rfl, S4, g1, g2, hD, hW⟩ := hP
        rw [List.length_map, List.length_map, List.take_length] at hW
        exact ⟨x7, x8, x9, x10, ws, rfl, S4, hD, hW⟩
end
end Far

namespace Far
open PySem PySem.Spec PyProof.Rows L2
open C8 (pss_cut tCut)
open SX (S)
/-! ### the greatest of triples -/
def best : List Tri → Int
  | [] => 0
  | x :: r => r.foldl (fun m y => max m y.1) x.1
theorem fold_max : ∀ (r : List Tri) (m : Int), (r.foldl (fun m y => max m y.1) m = m ∨ r.foldl (fun m y => max m y.1) m ∈ r.map (·.1)) ∧ m ≤ r.foldl (fun m y => max m y.1) m ∧ ∀ y ∈ r, y.1 ≤ r.foldl (fun m y => max m y.1) m
  | [], m => ⟨.inl rfl, Int.le_refl _, fun y hy => (by cases hy)⟩
  | x :: r, m => by
    obtain ⟨h1, h2, h3⟩ := fold_max r (max m x.1)
    refine ⟨?_, ?_, fun y hy => ?_⟩
    · show r.foldl _ (max m x.1) = m ∨ r.foldl _ (max m x.1) ∈ x.1 :: r.map (·.1)
      rcases h1 with h1 | h1
      · rw [h1]
        by_cases z : m ≤ x.1
        · exact .inr (by rw [Int.max_eq_right z]; exact List.mem_cons_self ..)
        · exact .inl (Int.max_eq_left (by omega))
      · exact .inr (List.mem_cons_of_mem _ h1)
    · show m ≤ r.foldl _ (max m x.1)
      exact Int.le_trans (Int.le_max_left _ _) h2
    · show y.1 ≤ r.foldl _ (max m x.1)
      rcases List.mem_cons.mp hy with z | z
      · rw [z]
        exact Int.le_trans (Int.le_max_right _ _) h2
      · exact h3 y z
theorem best_is {ps : List Tri} {m : Int} (h1 : m ∈ ps.map (·.1)) (h2 : ∀ y ∈ ps.map (·.1), y ≤ m) : best ps = m := by
  cases ps with
  | nil => cases h1
  | cons x r =>
    obtain ⟨k1, k2, k3⟩ := fold_max r x.1
    show r.foldl (fun m y => max m y.1) x.1 = m
    have a : r.foldl (fun m y => max m y.1) x.1 ≤ m := by
      rcases k1 with k1 | k1
      · rw [k1]
        exact h2 _ (List.mem_cons_self ..)
      · exact h2 _ (List.mem_cons_of_mem _ k1)
    have b : m ≤ r.foldl (fun m y => max m y.1) x.1 := by
      rcases List.mem_cons.mp h1 with z | z
      · rw [z]
        exact k2
      · obtain ⟨y, hy, e⟩ := List.mem_map.mp z
        rw [← e]
        exact k3 y hy
    omega
/-- the pairs of the greatest length, in order -/
noncomputable def farOf (pl : List Nm) (ts : List Tie) : List Tri := (pairsOf pl ts).filter fun x => x.1 == best (pairsOf pl ts)
/-- what farthest tells -/
noncomputable def farD (pl : List Nm) (ts : List Tie) : PyData := match farOf pl ts with
  | [] => .tuple [.int 0, .str (S (pl.headD [])), .str (S (pl.headD []))]
  | x :: _ => triD x
/-- what all_farthest tells -/
noncomputable def allD (pl : List Nm) (ts : List Tie) : PyData := .tuple ((farOf pl ts).map fun x => .tuple [.str (S x.2.1), .str (S x.2.2)])
theorem farOf_none {pl : List Nm} {ts : List Tie} (h : pairsOf pl ts = []) : farOf pl ts = [] := by
  unfold farOf
  rw [h]
  rfl
theorem mem_prs {pl : List Nm} {ts : List Tie} {x : Tri} : ∀ {n : Nat}, n ≤ pl.length → x ∈ prs pl ts n → x.2.1 ∈ pl ∧ x.2.2 ∈ pl ∧ x.1 = dist ts x.2.1 x.2.2
  | 0, _, h => by cases h
  | n + 1, hn, h => by
    rw [prs_succ] at h
    rcases List.mem_append.mp h with h | h
    · exact mem_prs (by omega) h
    · obtain ⟨y, hy, rfl⟩ := List.mem_map.mp h
      refine ⟨?_, List.mem_of_mem_drop hy, rfl⟩
      show pl.getD n [] ∈ pl
      have e : pl.getD n [] = pl[n]'(by omega) := by simp [List.getD, show n < pl.length by omega]
      rw [e]
      exact List.getElem_mem _
theorem mem_pairs {pl : List Nm} {ts : List Tie} {x : Tri} (h : x ∈ pairsOf pl ts) : x.2.1 ∈ pl ∧ x.2.2 ∈ pl ∧ x.1 = dist ts x.2.1 x.2.2 := mem_prs (Nat.le_refl _) h
theorem dt_tri {H : Hp} {v : V} {x : Tri} (h : Dt H v (triD x)) : ∃ t : Addr, v = .ref t ∧ H t = some (.tup [.int x.1, .str (S x.2.1), .str (S x.2.2)]) := by
  obtain ⟨t, xs, rfl, ht, hs⟩ := dt_tup h fun _ => ⟨.int x.1, by simp, fun l z => nomatch z⟩
  cases hs with
  | cons h1 hr =>
    cases hr with
    | cons h2 hr =>
      cases hr with
      | cons h3 hr =>
        cases hr
        cases h1
        cases h2
        cases h3
        exact ⟨t, rfl, ht⟩
theorem lay_tris : ∀ {xs : List Tri}, (∀ x ∈ xs, NameOk x.2.1 ∧ NameOk x.2.2) → PyData.canLayAll0 (xs.map triD) = true
  | [], _ => rfl
  | x :: r, h => by
    obtain ⟨h1, h2⟩ := h x (List.mem_cons_self ..)
    have ih := lay_tris fun y hy => h y (List.mem_cons_of_mem _ hy)
    show (PyData.canLay0 (triD x) && PyData.canLayAll0 (r.map triD)) = true
    rw [ih, Bool.and_true]
    show (true && (PyData.strOk (S x.2.1) && (PyData.strOk (S x.2.2) && true))) = true
    rw [strOk_S h1, strOk_S h2]
    rfl
theorem dep_tris : ∀ xs : List Tri, PyData.depthAll (xs.map triD) ≤ 1
  | [] => Nat.zero_le _
  | x :: r => by
    show max (PyData.depth (triD x)) (PyData.depthAll (r.map triD)) ≤ 1
    have ih := dep_tris r
    have e : PyData.depth (triD x) = 1 := rfl
    rw [e]
    omega
theorem shaped_tris {xs : List Tri} (h : ∀ x ∈ xs, NameOk x.2.1 ∧ NameOk x.2.2) : SeqAt.shaped (.list (xs.map triD)) = true := by
  show (PyData.canLayAll0 (xs.map triD) && decide (PyData.depthAll (xs.map triD) + 1 ≤ 64)) = true
  have := dep_tris xs
  rw [lay_tris h, decide_eq_true (by omega)]
  rfl
end Far

namespace Far
open PySem PySem.Spec PyProof.Rows L2 LamX
open C8 (pss_cut tCut)
open SX (S)
/-! ### what stands but for tables -/
theorem TK.ofN {H H' : Hp} (e : ExtN H H') : TK H H' := ⟨fun a xs h => e _ _ h (fun ps z => by cases z), fun a o u h => e _ _ h (fun ps z => by cases z)⟩
open Classical in
/-- the first item of the tuple at y -/
noncomputable def fstK (H : Hp) (y : V) : Int := if h : ∃ n, ∃ t zs, y = V.ref t ∧ H t = some (.tup (.int n :: zs)) then h.choose else 0
theorem fstK_is {H : Hp} {t : Addr} {n : Int} {zs : List V} (h : H t = some (.tup (.int n :: zs))) : fstK H (.ref t) = n := by
  have q : ∃ n, ∃ t' zs, V.ref t = V.ref t' ∧ H t' = some (.tup (.int n :: zs)) := ⟨n, t, zs, rfl, h⟩
  unfold fstK
  rw [dif_pos q]
  obtain ⟨t', zs', e, h'⟩ := q.choose_spec
  cases e
  rw [h] at h'
  cases h'
  rfl
/-- a def whose code object stands at c -/
structure FunC (K : PySem.W.Frag) (x qual : Str) (st : Stmt) (f : Addr) (fd : FuncData) (c : Addr) : Prop where
  ex : ∃ (oc : Value) (od : Option Addr) (kV doc pm : Value) (an : Option Addr) (ct : Value) (osl : Array (Option Value)),
    fd = PySem.W.fnOf x qual (defArgs st) (defBody st) (defScope st) .none kV doc pm an (.ref c) ct ∧ K.lookup f = some ⟨oc, od, .func fd, osl⟩ ∧ PySem.W.codeIn K (.ref c) qual = true
section
variable {P : Program} {w : World} {K : PySem.W.Frag} {mg : Str → Option Value} {base : Heap}
theorem FunC.ok {x qual : Str} {st : Stmt} {f c : Addr} {fd : FuncData} {N ps : List Str} {k : Nat} {sp : Sp} (F : FunC K x qual st f fd c) (S : FnScope N ps (defScope st)) (len : ∀ vs H Q E, sp vs H Q E → vs.length = ps.length)
    (hbody : ∀ (A : Around) (outer : List Env) (s : Shared) (H : Hp) (vs : List V) (Q : VK) (E : XK), Room k (A.deeper (envOfC qual (defScope st) s.heap.objs.size f (.ref c))) → sp vs H Q E →
      ∃ t, PSs (cxOf CX0 P w K mg base N qual (defScope st) f (.ref c) A outer s H E).nox (defBody st) t ∧ t { nx := fun _ H' => Q .non H', rt := Q } (start N vs) H) : FnOk P w K mg base CX0 (k + 1) f fd ps sp := by
  obtain ⟨oc, od, kV, doc, pm, an, ct, osl, rfl, lk, hcd⟩ := F.ex
  refine fn_of lk hcd S len fun A outer s H vs Q E hr hsp => ?_
  obtain ⟨t, h, q⟩ := hbody A outer s H vs Q E hr hsp
  exact ⟨t, h.nox, q⟩
theorem FunC.okX {x qual : Str} {st : Stmt} {f c : Addr} {fd : FuncData} {N ps : List Str} {k : Nat} {sp : Sp} (F : FunC K x qual st f fd c) (S : FnScope N ps (defScope st)) (len : ∀ vs H Q E, sp vs H Q E → vs.length = ps.length)
    (hbody : ∀ (A : Around) (outer : List Env) (s : Shared) (H : Hp) (vs : List V) (Q : VK) (E : XK), Room k (A.deeper (envOfC qual (defScope st) s.heap.objs.size f (.ref c))) → sp vs H Q E →
      ∃ t, PSs (cxOf (L2.CX P w) P w K mg base N qual (defScope st) f (.ref c) A outer s H E) (defBody st) t ∧ t { nx := fun _ H' => Q .non H', rt := Q } (start N vs) H) : FnOk P w K mg base (L2.CX P w) (k + 1) f fd ps sp := by
  obtain ⟨oc, od, kV, doc, pm, an, ct, osl, rfl, lk, hcd⟩ := F.ex
  exact fn_of lk hcd S len fun A outer s H vs Q E hr hsp => hbody A outer s H vs Q E hr hsp
end
/-- the first of those with the least f -/
def FL (l : List Tri) (f : Tri → Int) (x : Tri) : Prop := ∃ i : Nat, l[i]? = some x ∧ (∀ (j : Nat) (z : Tri), l[j]? = some z → f x ≤ f z) ∧ ∀ (j : Nat) (z : Tri), j < i → l[j]? = some z → f x < f z
theorem fl_of {H : Hp} {ws : List V} {ps : List Tri} (h : DtAll H ws (ps.map triD)) (g : Int → Int) {y : V} (fl : FirstLeast ws (fun z => g (fstK H z)) y) : ∃ x, FL ps (fun z => g z.1) x ∧ Dt H y (triD x) := by
  have at_ : ∀ (j : Nat) (x : Tri), ps[j]? = some x → ∃ v, ws[j]? = some v ∧ Dt H v (triD x) := fun j x hx => by
    have hl := DtAll.len h
    rw [List.length_map] at hl
    have jl := (List.getElem?_eq_some_iff.mp hx).1
    have hv : ws[j]? = some (ws[j]'(by omega)) := List.getElem?_eq_getElem (by omega)
    obtain ⟨d, hd, hv'⟩ := DtAll.get h hv
    rw [List.getElem?_map, hx] at hd
    cases hd
    exact ⟨_, hv, hv'⟩
  have key : ∀ (v : V) (x : Tri), Dt H v (triD x) → fstK H v = x.1 := fun v x hx => by
    obtain ⟨u, rfl, hu⟩ := dt_tri hx
    exact fstK_is hu
  obtain ⟨i, hi, all, bef⟩ := fl
  obtain ⟨d, hd, hy⟩ := DtAll.get h hi
  rw [List.getElem?_map] at hd
  cases ex : ps[i]? with
  | none => rw [ex] at hd; cases hd
  | some x =>
    rw [ex] at hd
    cases hd
    refine ⟨x, ⟨i, ex, fun j z hz => ?_, fun j z hj hz => ?_⟩, hy⟩
    · obtain ⟨v, hv, hvd⟩ := at_ j z hz
      have := all j v hv
      dsimp only at this ⊢
      rw [key _ _ hy, key _ _ hvd] at this
      exact this
    · obtain ⟨v, hv, hvd⟩ := at_ j z hz
      have := bef j v hj hv
      dsimp only at this ⊢
      rw [key _ _ hy, key _ _ hvd] at this
      exact this
theorem fst_keys {H : Hp} {ws : List V} {ps : List Tri} (h : DtAll H ws (ps.map triD)) : ∀ y ∈ ws, ∃ t zs, y = V.ref t ∧ H t = some (.tup (.int (fstK H y) :: zs)) := fun y hy => by
  obtain ⟨i, hi⟩ := List.getElem?_of_mem hy
  obtain ⟨d, hd, hv⟩ := DtAll.get h hi
  rw [List.getElem?_map] at hd
  cases ex : ps[i]? with
  | none => rw [ex] at hd; cases hd
  | some x =>
    rw [ex] at hd
    cases hd
    obtain ⟨u, rfl, hu⟩ := dt_tri hv
    exact ⟨u, _, rfl, by rw [fstK_is hu]; exact hu⟩
structure TxtB (mg : Str → Option Value) : Prop where
  min : mg "min" = none
  max : mg "max" = none
abbrev s_best_join : Stmt := topS 24
abbrev N_best_join : List Str := ["one", "other", "length"]
theorem sc_best_join : FnScope N_best_join ["one", "other", "length"] (defScope s_best_join) := ⟨rfl, rfl, rfl, by decide +kernel, rfl, by decide +kernel, by decide +kernel⟩
def qB : Str := ("best_join" : Str) ++ ".<locals>." ++ "<lambda>"
def qW : Str := ("best_change" : Str) ++ ".<locals>." ++ "<lambda>"
section
variable {P : Program} {w : World} {K : PySem.W.Frag} {mg : Str → Option Value} {base : Heap} {Pb Pw : Addr}
def spBest (Pb Pw : Addr) : Sp := fun vs H Q _ => ∃ (v v' : V) (pl pl' : List Nm) (ts ts' : List Tie) (k : Int), vs = [v, v', .int k] ∧ Dt H v (treeD pl ts) ∧ Dt H v' (treeD pl' ts') ∧ (∀ x ∈ pl, NameOk x) ∧ pl.length ≤ 40 ∧ pl'.length ≤ 40 ∧ Tabs [(Pb, qB), (Pw, qW)] H ∧
  (∀ x ∈ pl, x ∉ pl') ∧ Fine pl ts ∧ Fine pl' ts' ∧ ∀ (H' : Hp) (r : V) (x : Tri), ExtN H H' → Tabs [(Pb, qB), (Pw, qW)] H' → FL (joinsOf pl pl' ts ts' k pl) (fun z => z.1) x → Dt H' r (triD x) → Q r H'
theorem ok_best {f c : Addr} {fd : FuncData} (F : FunC K "best_join" "best_join" s_best_join f fd c) (T : TxtB mg) (ne : Pb ≠ Pw) (TB : TabB base mg c Pb) (C_all_joins : Cal P w K mg base 5 "_all_joins" spAllJ) : FnOk P w K mg base CX0 6 f fd ["one", "other", "length"] (spBest Pb Pw) := by
  refine F.ok sc_best_join (fun vs H Q E h => ?_) (fun A outer s H vs Q E hr h => ?_)
  · obtain ⟨v, v', pl, pl', ts, ts', k, rfl, _⟩ := h
    rfl
  · obtain ⟨v, v', pl, pl', ts, ts', k, rfl, hd, hd', oks, l1, l2, hT, dis, F1, F2, q⟩ := h
    have hmB : (Pb, qB) ∈ [(Pb, qB), (Pw, qW)] := List.mem_cons_self
    have huB : ∀ p ∈ [(Pb, qB), (Pw, qW)], p.1 = Pb → p.2 = qB := fun p hp e => by
      rcases List.mem_cons.mp hp with z | z
      · rw [z]
      · rw [List.mem_singleton.mp z] at e
        exact absurd e.symm ne
    refine ⟨_, (pss_one (ps_ret (pe_callL TB (by rfl) hmB huB (cr_minLam (y := "join") (g := id) (hr.mono (by decide)) (by exact ⟨rfl, rfl, rfl, by decide, by decide, rfl⟩) body_fst (fun _ _ _ _ _ => rfl)) (by rfl) T.min bt_min (pa_cons (pe_c C_all_joins hr (by decide) rfl (pa_cons (pv 0) (pa_cons (pv 1) (pa_cons (pv 2) pa_nil)))) pa_nil) (by rfl) (by decide)))), ?_⟩
    refine ⟨_, rfl, _, rfl, _, rfl, v, v', pl, pl', ts, ts', k, rfl, hd, hd', oks, l1, l2, dis, F1, F2, fun H1 D ws S1 nD hD hW => ?_⟩
    have jl : 0 < (joinsOf pl pl' ts ts' k pl).length := by
      rw [joinsOf_len]
      exact Nat.mul_pos (List.length_pos_iff.mpr F1.ne) (List.length_pos_iff.mpr F2.ne)
    refine ⟨hT.ext S1, fun H2 e2 T2 => ?_⟩
    have hW2 := DtAll.keep (TK.ofN e2) hW
    have wl := DtAll.len hW
    rw [List.length_map] at wl
    refine ⟨D, ws, fstK H2, rfl, SqL.of (e2 _ _ hD (fun ps z => by cases z)), by omega, fst_keys hW2, fun y fl => ?_⟩
    obtain ⟨x, hx, hy⟩ := fl_of hW2 id fl
    exact q H2 y x (fun b o h n => e2 b o (S1 b o h) n) T2 hx hy
end
end Far

namespace Far
open PySem PySem.Spec PyProof.Rows L2
open SX (S)
theorem Way.join {ts : List Tie} {u m v : Nm} {p1 q : List Nm} {L1 L2 : Int} (h1 : Way ts u m (p1 ++ [m]) L1) (h2 : Way ts m v q L2) (d : ∀ y ∈ q, y ∉ p1) : Way ts u v (p1 ++ q) (L1 + L2) := by
  induction h2 with
  | nil => simpa using h1
  | @snoc v w q L k h ha hn ih =>
    have := Way.snoc (ih fun y hy => d y (List.mem_append_left _ hy)) ha (w := w) (fun z => by
      rcases List.mem_append.mp z with z | z
      · exact d w (by simp) z
      · exact hn z)
    rw [List.append_assoc] at this
    rw [← Int.add_assoc]
    exact this
theorem IsTree.hang {pl : List Nm} {ts : List Tie} {a b : Nm} {k : Int} {e : Tie} (h : IsTree pl ts) (ha : a ∈ pl) (hb : b ∉ pl) (he : e = (a, b, k) ∨ e = (b, a, k)) (k1 : 1 ≤ k) (k2 : k ≤ 1000000) : IsTree (pl ++ [b]) (ts ++ [e]) := by
  obtain ⟨os, es, g, p, q⟩ := h
  exact ⟨os ++ [b], es ++ [e], .leaf g (p.mem_iff.mp ha) (fun z => hb (p.mem_iff.mpr z)) he k1 k2, p.append_right _, q.append_right _⟩
theorem IsTree.perm {pl pl' : List Nm} {ts ts' : List Tie} (h : IsTree pl ts) (p : pl'.Perm pl) (q : ts'.Perm ts) : IsTree pl' ts' := by
  obtain ⟨os, es, g, p', q'⟩ := h
  exact ⟨os, es, g, p.trans p', q.trans q'⟩
/-- a tree hung on another -/
theorem Grown.hung {os : List Nm} {es : List Tie} (g : Grown os es) : ∀ {pl : List Nm} {ts : List Tie}, IsTree pl ts → (∀ z ∈ os, z ∉ pl) → ∀ {x y : Nm} {k : Int} {e : Tie}, x ∈ pl → y ∈ os → (e = (x, y, k) ∨ e = (y, x, k)) → 1 ≤ k → k ≤ 1000000 → IsTree (pl ++ os) (ts ++ es ++ [e]) := by
  induction g with
  | one a =>
    intro pl ts h dis x y k e hx hy he k1 k2
    have ey := List.mem_singleton.mp hy
    subst ey
    rw [List.append_nil]
    exact h.hang hx (dis y hy) he k1 k2
  | @leaf os es a b k' e' g ha hb he' k1' k2' ih =>
    intro pl ts h dis x y k e hx hy he k1 k2
    have dis' : ∀ z ∈ os, z ∉ pl := fun z hz => dis z (List.mem_append_left _ hz)
    have bn : b ∉ pl := dis b (List.mem_append_right _ (List.mem_singleton.mpr rfl))
    rcases List.mem_append.mp hy with hy | hy
    · have t1 := ih h dis' hx hy he k1 k2
      have t2 := t1.hang (a := a) (b := b) (e := e') (List.mem_append_right _ ha) (fun z => (List.mem_append.mp z).elim bn hb) he' k1' k2'
      refine t2.perm (by rw [List.append_assoc]) ?_
      rw [List.append_assoc, List.append_assoc, List.append_assoc, List.append_assoc]
      refine List.Perm.append_left _ (List.Perm.append_left _ ?_)
      exact List.perm_append_comm
    · have ey := List.mem_singleton.mp hy
      subst ey
      have t1 := h.hang hx bn he k1 k2
      have t2 := ih t1 (fun z hz w => (List.mem_append.mp w).elim (dis' z hz) fun q => hb (List.mem_singleton.mp q ▸ hz)) (x := y) (y := a) (k := k') (e := e') (List.mem_append_right _ (List.mem_singleton.mpr rfl)) ha he'.symm k1' k2'
      refine t2.perm ?_ ?_
      · rw [List.append_assoc]
        exact List.Perm.append_left _ List.perm_append_comm
      · have e1 : ts ++ (es ++ [e']) ++ [e] = ts ++ (es ++ [e'] ++ [e]) := by simp
        have e2 : ts ++ [e] ++ es ++ [e'] = ts ++ ([e] ++ (es ++ [e'])) := by simp
        rw [e1, e2]
        exact List.Perm.append_left _ List.perm_append_comm
theorem IsTree.joined {pl pl' : List Nm} {ts ts' : List Tie} (h : IsTree pl ts) (h' : IsTree pl' ts') (dis : ∀ z ∈ pl, z ∉ pl') {x y : Nm} {k : Int} (hx : x ∈ pl) (hy : y ∈ pl') (k1 : 1 ≤ k) (k2 : k ≤ 1000000) : IsTree (pl ++ pl') (ts ++ ts' ++ [(x, y, k)]) := by
  obtain ⟨os, es, g, p, q⟩ := h'
  have := g.hung h (fun z hz w => dis z w (p.mem_iff.mpr hz)) hx (p.mem_iff.mp hy) (.inl rfl) k1 k2
  exact this.perm (List.Perm.append_left _ p) (by
    rw [List.append_assoc, List.append_assoc]
    exact List.Perm.append_left _ (q.append_right _))
def Among (es ts : List Tie) : Prop := ∀ x y k, Adj es x y k → Adj ts x y k
theorem Way.among {es ts : List Tie} (s : Among es ts) {u v : Nm} {p : List Nm} {L : Int} (h : Way es u v p L) : Way ts u v p L := by
  induction h with
  | nil => exact .nil
  | snoc _ ha hn ih => exact .snoc ih (s _ _ _ ha) hn
theorem dist_among {hs pl : List Nm} {es ts : List Tie} (h : IsTree hs es) (h' : IsTree pl ts) (s : Among es ts) {u v : Nm} (hu : u ∈ hs) (hv : v ∈ hs) : dist es u v = dist ts u v := ((h'.is_way ((h.the_way hu hv).among s)).2).symm
section
variable {pl pl' : List Nm} {ts ts' : List Tie} {x y : Nm} {k : Int}
theorem dist_left (h : IsTree pl ts) (hJ : IsTree (pl ++ pl') (ts ++ ts' ++ [(x, y, k)])) {u v : Nm} (hu : u ∈ pl) (hv : v ∈ pl) : dist (ts ++ ts' ++ [(x, y, k)]) u v = dist ts u v :=
  (dist_among h hJ (fun a b l z => z.elim (fun q => .inl (by simp [q])) fun q => .inr (by simp [q])) hu hv).symm
theorem dist_right (h' : IsTree pl' ts') (hJ : IsTree (pl ++ pl') (ts ++ ts' ++ [(x, y, k)])) {u v : Nm} (hu : u ∈ pl') (hv : v ∈ pl') : dist (ts ++ ts' ++ [(x, y, k)]) u v = dist ts' u v :=
  (dist_among h' hJ (fun a b l z => z.elim (fun q => .inl (by simp [q])) fun q => .inr (by simp [q])) hu hv).symm
theorem dist_cross (h : IsTree pl ts) (h' : IsTree pl' ts') (hJ : IsTree (pl ++ pl') (ts ++ ts' ++ [(x, y, k)])) (dis : ∀ z ∈ pl, z ∉ pl') (hx : x ∈ pl) (hy : y ∈ pl') {u v : Nm} (hu : u ∈ pl) (hv : v ∈ pl') : dist (ts ++ ts' ++ [(x, y, k)]) u v = dist ts u x + k + dist ts' y v := by
  have w1 := (h.the_way hu hx).among (ts := ts ++ ts' ++ [(x, y, k)]) fun a b l z => z.elim (fun q => .inl (by simp [q])) fun q => .inr (by simp [q])
  have w2 := (h'.the_way hy hv).among (ts := ts ++ ts' ++ [(x, y, k)]) fun a b l z => z.elim (fun q => .inl (by simp [q])) fun q => .inr (by simp [q])
  have i1 := (h.the_way hu hx).inside (fun e he => ⟨(h.ties e he).1, (h.ties e he).2.1⟩) hu
  have i2 := (h'.the_way hy hv).inside (fun e he => ⟨(h'.ties e he).1, (h'.ties e he).2.1⟩) hy
  have w3 := Way.snoc w1 (w := y) (k := k) (.inl (by simp)) fun z => dis y (i1 y z) hy
  exact (hJ.is_way (w3.join w2 fun z hz hz' => dis z (i1 z hz') (i2 z hz))).2
theorem rch_in (h : IsTree pl ts) {u : Nm} (hu : u ∈ pl) : (∃ v ∈ pl, dist ts u v = rch pl ts u) ∧ ∀ v ∈ pl, dist ts u v ≤ rch pl ts u := by
  obtain ⟨a, b⟩ := mxG_in (l := pl.map fun x => dist ts u x) (fun z => by rw [List.map_eq_nil_iff] at z; rw [z] at hu; cases hu)
  obtain ⟨v, hv, e⟩ := List.mem_map.mp a
  exact ⟨⟨v, hv, e⟩, fun v hv => b _ (List.mem_map.mpr ⟨v, hv, rfl⟩)⟩
theorem mx_in (h : IsTree pl ts) (ne : pl ≠ []) : (∃ u ∈ pl, ∃ v ∈ pl, dist ts u v = mxG (pl.map (rch pl ts))) ∧ ∀ u ∈ pl, ∀ v ∈ pl, dist ts u v ≤ mxG (pl.map (rch pl ts)) := by
  obtain ⟨a, b⟩ := mxG_in (l := pl.map (rch pl ts)) (fun z => ne (List.map_eq_nil_iff.mp z))
  obtain ⟨u, hu, e⟩ := List.mem_map.mp a
  obtain ⟨⟨v, hv, e2⟩, _⟩ := rch_in h hu
  refine ⟨⟨u, hu, v, hv, e2.trans e⟩, fun u hu v hv => Int.le_trans ((rch_in h hu).2 v hv) (b _ (List.mem_map.mpr ⟨u, hu, rfl⟩))⟩
/-- the greatest length in a joined tree -/
theorem joined_top (h : Fine pl ts) (h' : Fine pl' ts') (dis : ∀ z ∈ pl, z ∉ pl') (hx : x ∈ pl) (hy : y ∈ pl') (k1 : 1 ≤ k) (k2 : k ≤ 1000000) {m : Int}
    (m1 : ∃ u ∈ pl ++ pl', ∃ v ∈ pl ++ pl', dist (ts ++ ts' ++ [(x, y, k)]) u v = m) (m2 : ∀ u ∈ pl ++ pl', ∀ v ∈ pl ++ pl', dist (ts ++ ts' ++ [(x, y, k)]) u v ≤ m) : m = (joinT pl pl' ts ts' k x y).1 := by
  have hJ := h.tree.joined h'.tree dis hx hy k1 k2
  obtain ⟨⟨u1, hu1, v1, hv1, e1⟩, a2⟩ := mx_in h.tree h.ne
  obtain ⟨⟨u2, hu2, v2, hv2, e2⟩, b2⟩ := mx_in h'.tree h'.ne
  obtain ⟨⟨ux, hux, ex⟩, rx⟩ := rch_in h.tree hx
  obtain ⟨⟨vy, hvy, ey⟩, ry⟩ := rch_in h'.tree hy
  have L := fun {u v} => dist_left (u := u) (v := v) h.tree hJ
  have R := fun {u v} => dist_right (u := u) (v := v) h'.tree hJ
  have X := fun {u v} => dist_cross (u := u) (v := v) h.tree h'.tree hJ dis hx hy
  have g1 := m2 u1 (List.mem_append_left _ hu1) v1 (List.mem_append_left _ hv1)
  rw [L hu1 hv1, e1] at g1
  have g2 := m2 u2 (List.mem_append_right _ hu2) v2 (List.mem_append_right _ hv2)
  rw [R hu2 hv2, e2] at g2
  have g3 := m2 ux (List.mem_append_left _ hux) vy (List.mem_append_right _ hvy)
  rw [X hux hvy, (h.tree.dist_symm hux hx).1, ex, ey] at g3
  have cr : ∀ u ∈ pl, ∀ v ∈ pl', dist (ts ++ ts' ++ [(x, y, k)]) u v ≤ rch pl ts x + k + rch pl' ts' y := fun u hu v hv => by
    rw [X hu hv, (h.tree.dist_symm hu hx).1]
    have := rx u hu
    have := ry v hv
    omega
  have up : m ≤ mxG (pl.map (rch pl ts)) ∨ m ≤ mxG (pl'.map (rch pl' ts')) ∨ m ≤ rch pl ts x + k + rch pl' ts' y := by
    obtain ⟨u, hu, v, hv, rfl⟩ := m1
    rcases List.mem_append.mp hu with hu | hu <;> rcases List.mem_append.mp hv with hv | hv
    · rw [L hu hv]
      exact .inl (a2 u hu v hv)
    · exact .inr (.inr (cr u hu v hv))
    · rw [(hJ.dist_symm (List.mem_append_right _ hu) (List.mem_append_left _ hv)).1]
      exact .inr (.inr (cr v hv u hu))
    · rw [R hu hv]
      exact .inr (.inl (b2 u hu v hv))
  show m = mx2 (mx2 (mxG (pl.map (rch pl ts))) (mxG (pl'.map (rch pl' ts')))) (rch pl ts x + k + rch pl' ts' y)
  unfold mx2
  split <;> split at * <;> omega
end
end Far

namespace Far
open PySem PySem.Spec PyProof.Rows L2
/-! ### enumerate(t), t a tuple -/
theorem meets_enumT {v : Value} {o : Obj} {H : Heap → Prop} (B : Begins v o H) :
    Meets (Builtin.«enumerate.__new__» ⟨[.type "enumerate", v], []⟩) (fun _ R s => H s.heap ∧
      R (.ok (.ret (.ref (s.heap.push o).objs.size))) { s with heap := (s.heap.push o).push { cls := .type "enumerate", data := .fields #[.none, .bool false, .ref s.heap.objs.size, rawInt 0, .none, .none] } }) :=
  .of_wp fun prog w A R s h => by
    obtain ⟨hp, g, d, tk, os⟩ := s; obtain ⟨h1, h⟩ := h
    have hsub := sub_enumerate
    have q1 : ∀ {A' : Around} {E : Value → Shared → Prop} {Q : Value → Shared → Prop}, Q (.ref hp.objs.size) ⟨hp.push o, g, d, tk, os⟩ → wpAny (model prog w) A' (pyIter v) Q E ⟨hp, g, d, tk, os⟩ :=
      fun q => B.iter prog w _ _ ⟨hp, g, d, tk, os⟩ _ h1 q
    wp_walk using q1
    refine wpAny_stack_any fun st => wpAny_pure ?_
    split
    · rename_i c _ _ _ _ _
      cases (c == Value.type "enumerate")
      · wp_walk using q1
        exact ⟨_, rfl, h⟩
      · wp_walk using q1
        exact ⟨_, rfl, h⟩
    · wp_walk using q1
      exact ⟨_, rfl, h⟩
theorem enumT_begins {prog : Program} {w : World} {A : Around} {E : Value → Shared → Prop} {s : Shared} {v : Value} {o : Obj} {H : Heap → Prop} {Q : Value → Shared → Prop} (B : Begins v o H) (h1 : H s.heap)
    (h : ∀ h', IsEnum h' (s.heap.objs.size + 1) s.heap.objs.size 0 .none → h'.get? s.heap.objs.size = some o → h'.objs.size = s.heap.objs.size + 2 →
      (∀ b o, s.heap.get? b = some o → h'.get? b = some o) → Q (.ref (s.heap.objs.size + 1)) { s with heap := h' }) :
    wpAny (model prog w) A (call (.type "enumerate") [v]) Q E s := by
  refine callType_new F.called_enumerate (by decide) (F.typeCall_enumerate_1 _) (F.newCall_enumerate_1 _) (fun obj => F.args_object_init_2 obj _) F.entry_enumerate_new
    (meets_enumT B) ⟨h1, ?_⟩
  have hz : (s.heap.push o).objs.size = s.heap.objs.size + 1 := Heap.size_push ..
  show _ ∧ _
  rw [hz]
  have he : IsEnum ((s.heap.push o).push { cls := .type "enumerate", data := .fields #[.none, .bool false, .ref s.heap.objs.size, rawInt 0, .none, .none] }) (s.heap.objs.size + 1) s.heap.objs.size 0 .none := by
    have := Heap.get?_push_size (s.heap.push o) (o := { cls := .type "enumerate", data := .fields #[.none, .bool false, .ref s.heap.objs.size, rawInt 0, .none, .none] }) rfl
    rw [hz] at this; exact this
  refine ⟨⟨_, he, rfl⟩, h _ he (Heap.get?_push_of_some _ (Heap.get?_push_size _ B.free)) (by rw [Heap.size_push, hz]) fun b o x => Heap.get?_push_of_some _ (Heap.get?_push_of_some _ x)⟩
/-- the tuple at a, each item in a new pair with its number -/
def Itne (K : PySem.W.Frag) (a : Addr) : It :=
  ⟨fun i H => ∃ (xs : List V) (x : V), SqT K H a xs ∧ xs[i]? = some x,
   fun i H v H' => ∃ T x, v = .ref T ∧ H T = none ∧ H' = upd H T (.tup [.int (i : Nat), x]) ∧ ∀ xs, SqT K H a xs → xs[i]? = some x,
   fun i H => ∃ xs : List V, SqT K H a xs ∧ xs.length ≤ i⟩
theorem turn_enumT {P : Program} {w : World} {K : PySem.W.Frag} {elts : List Expr} {kk : Nat} {tpos : Pos} (a e it : Addr) :
    Turn P w K (.Tuple elts kk tpos) (Itne K a) [e, it] e (fun i h => (∃ o, IsEnum h e it ((i : Nat) : Int) o) ∧ h.IsTupleIter it a i ∧ e ≠ it ∧ a ≠ it) where
  mem := by simp
  obj := fun i h st b hb => by
    obtain ⟨⟨o', he⟩, ⟨o, ho, hc, hd⟩, _⟩ := st
    rcases (show b = e ∨ b = it by simpa using hb) with rfl | rfl
    · exact ⟨_, he, fun v q => nomatch q⟩
    · exact ⟨o, ho, fun v q => by rw [hd] at q; cases q⟩
  keep := fun i h h' ⟨⟨o, he⟩, hi, hne⟩ k => ⟨⟨o, k e (by simp) _ he⟩, hi.at fun o q => k it (by simp) o q, hne⟩
  item := by
    intro X hP hw hK hc i pins s σ H E I hf st hg
    subst hP hw hK
    obtain ⟨⟨old, he⟩, hit, hne, hna⟩ := st
    obtain ⟨xs, x, hq, hx⟩ := hg
    obtain ⟨its, rv, p, hz⟩ := I.tuple hq
    have p' : s.heap.IsTuple a its.toArray := p
    obtain ⟨u, hu, ru⟩ := rv.get hx
    have hel : e < s.heap.objs.size := Heap.lt_size he
    have hil : it < s.heap.objs.size := by
      obtain ⟨_, q, _⟩ := hit
      exact Heap.lt_size q
    have hea : e ∉ [it, a] := by
      intro hm
      rcases List.mem_cons.mp hm with z | z
      · exact hne z
      · have z := List.mem_singleton.mp z
        obtain ⟨o, m, q, _⟩ := p'
        rw [← z, he] at m
        cases m
        have q : Value.type "enumerate" = Value.type "tuple" := q
        exact absurd q (by decide)
    have hlt : i < its.toArray.size := by
      have := (List.getElem?_eq_some_iff.mp hu).1
      simpa using this
    refine wpAny_pyNext_enum_itemC (Draws.tuple (A := X.A.in1) (I.ok.hd hc) it a hna its.toArray) he ⟨hit, p'⟩ hlt hne hea fun x' h' tk hx' ho hst' hT hsz hk => ?_
    have ex : x' = u := by
      have : its.toArray[i]? = some u := by simpa using hu
      exact Option.some.inj (hx'.symm.trans this)
    subst ex
    refine ⟨_, rfl, wpAny_letOwnedTupleGo_enum (s := { s with heap := h', toks := tk + 1 }) ho fun h2 he2 sb => ?_⟩
    have hT2 : h2.get? s.heap.objs.size = some { cls := .type "tuple", data := .seq #[.int (i : Nat) tk, x'] } := (sb.2 _ (Nat.ne_of_gt hel)).trans hT
    have new : ObjOk X.prog X.w (upd H s.heap.objs.size (.tup [.int (i : Nat), x])) h2 s.heap.objs.size (.tup [.int (i : Nat), x]) :=
      ⟨by show 2 ≤ sizeLine; decide, [.int (i : Nat) tk, x'], .cons ⟨_, rfl⟩ (.cons ru .nil), ⟨_, hT2, rfl, _, rfl⟩⟩
    have I1 : Inv X pins σ (upd H s.heap.objs.size (.tup [.int (i : Nat), x])) { s with heap := h2, toks := tk + 1 } :=
      I.turnedNew (ch := [e, it]) (fun b ob hb q => (sb.2 b (fun z => hb (by simp [z]))).trans (hk b ob (fun z => hb (by simp [z])) (fun z => hb (by simp [z])) q)) hf (Nat.le_refl _) new
    refine ⟨.ref s.heap.objs.size, _, I1, rfl, ⟨_, x, rfl, I.hok.fresh (Nat.le_refl _), rfl, fun ys hy => by rw [I.tuple_inj hy hq]; exact hx⟩, ⟨⟨x', ?_⟩, hst'.1.at fun o q => (sb.2 it (Ne.symm hne)).trans q, hne, hna⟩, fun b hb => ?_⟩
    · rw [show ((i + 1 : Nat) : Int) = (i : Nat) + 1 by omega]
      exact he2
    · have hb' : b < s.heap.objs.size := by
        rcases (show b = e ∨ b = it by simpa using hb) with z | z
        · rw [z]; exact hel
        · rw [z]; exact hil
      rw [upd_ne (Nat.ne_of_lt hb')]
      exact (hf b hb).1
  done := by
    intro X hP hw hK hc i pins s σ H E I hf st hg
    subst hP hw hK
    obtain ⟨⟨old, he⟩, hit, hne, hna⟩ := st
    obtain ⟨xs, hq, hx⟩ := hg
    obtain ⟨its, rv, p, hz⟩ := I.tuple hq
    have p' : s.heap.IsTuple a its.toArray := p
    obtain ⟨f0, f1, f2, f3, f4, f5⟩ := hf it (by simp)
    have hl := rv.length
    have D : Draws X.prog X.w X.A.in1 it [it, a] i (fun _ _ => True) (fun j h => (h.IsTupleIter it a j ∧ h.IsTuple a its.toArray) ∧ j = i) :=
      { live := fun _ _ st => let ⟨o, ho, _⟩ := st.1.1; ⟨o, ho⟩
        frame := fun _ _ _ st hk => ⟨⟨st.1.1.at fun o e => hk it (by simp) o e, st.1.2.at fun o e => hk a (by simp) o e⟩, st.2⟩
        item := fun j _ _ _ hj st _ => absurd st.2 (by omega)
        done := fun s Q E st hE => wpAny_nextOf_tuple_end (I.ok.hd hc) st.1.1 st.1.2 (by simp; omega) hE }
    exact wpAny_pyNext_enum_endD D he ⟨⟨hit, p'⟩, rfl⟩ fun h' eb => ⟨rfl, I.turned (t' := s.toks) (fun b o hb q => eb b o hb q) f0 f1 f3 f4 f5⟩
  self := fun A i s Q E st h => by
    obtain ⟨⟨_, he⟩, _⟩ := st
    exact wpAny_pyIter_enum he h
def iEnumT (K : PySem.W.Frag) (ta : TA) : TI := fun σ H R => ta σ H fun vs H1 => ∃ a xs, vs = [.ref a] ∧ SqT K H1 a xs ∧ R (Itne K a) H1
theorem pi_enumT {X : Cx} {e : Expr} {ta : TA} {p pos tpos : Pos} {elts : List Expr} {kk : Nat} (hg : Gl X "enumerate") (hm : X.mg "enumerate" = none) (ha : PA X [e] ta) (hs : starEach [e] X.env = [(false, eval e X.env)] := by rfl) :
    PI X (.Tuple elts kk tpos) (.Call (.Name "enumerate" p) [e] [] pos) (iEnumT X.K ta) := by
  refine ⟨fun pins s σ H R I h => ?_⟩
  refine Call_ (ld_blt I hg hm boot_enumerate (PyProof.Rows.callWith_type1 (thn (ha.run pos pins s σ H _ I h) fun us s1 ⟨vs, H1, I1, r1, q1⟩ => ?_) hs rfl))
  obtain ⟨a, xs, ex, hq, q⟩ := q1
  subst ex
  cases r1 with
  | cons r rr =>
    cases rr
    cases r
    obtain ⟨its, rv, p', hz⟩ := I1.tuple hq
    have p2 : s1.heap.IsTuple a its.toArray := p'
    refine enumT_begins (begins_tuple a its.toArray) p2 fun h' he hit hsz hk => wpAny_pyIter_enum he ?_
    have I2 : Inv X pins σ H1 { s1 with heap := h' } := I1.kept (t' := s1.toks) hk
    have hal : a < s1.heap.objs.size := by
      obtain ⟨o, m, _⟩ := p2
      exact Heap.lt_size m
    refine ⟨s1.heap.objs.size + 1, [s1.heap.objs.size + 1, s1.heap.objs.size], _, _, H1, rfl, I2, turn_enumT a (s1.heap.objs.size + 1) s1.heap.objs.size, ⟨⟨.none, by simpa using he⟩, ⟨_, hit, rfl, rfl⟩, Nat.succ_ne_self _, Nat.ne_of_lt hal⟩, fun b hb => ?_, q⟩
    have hle : s1.heap.objs.size ≤ b := by
      rcases (show b = s1.heap.objs.size + 1 ∨ b = s1.heap.objs.size by simpa using hb) with z | z
      · rw [z]; exact Nat.le_add_right _ _
      · rw [z]; exact Nat.le_refl _
    exact I1.fpOk hle (I1.hok.fresh hle)
end Far

namespace Far
open PySem PySem.Spec PyProof.Rows L2
open C8 (pss_cut tCut)
open SX (S)
structure TxtQ (mg : Str → Option Value) : Prop where
  len : mg "len" = none
  range : mg "range" = none
  tuple : mg "tuple" = none
  enumerate : mg "enumerate" = none
theorem szM {n : Nat} (h : n ≤ 10000000) : n < sizeLine := Nat.lt_of_le_of_lt h (by decide)
theorem for_enumT {K : PySem.W.Frag} {a : Addr} {xs : List V} {g : TG} {tb : TS} {D : Ends} {σ : L2.St} {H : Hp} (Pv : Nat → L2.St → Hp → Prop) (h0 : Pv 0 σ H) (hl : ∀ i σ H, Pv i σ H → SqT K H a xs)
    (hs : ∀ i x σ H T, xs[i]? = some x → Pv i σ H → H T = none → g (.ref T) σ (upd H T (.tup [.int (i : Nat), x])) fun σ2 H2 => tb { D with nx := Pv (i + 1), ct := Pv (i + 1), bk := D.nx } σ2 H2) (hd : ∀ σ H, Pv xs.length σ H → D.nx σ H) :
    ∃ W : Nat → Nat → L2.St → Hp → Prop, (∃ m, W 0 m σ H) ∧ ∀ i m σ H, W i m σ H →
      ((Itne K a).stop i H ∧ D.nx σ H) ∨ ((Itne K a).go i H ∧ ∃ N : L2.St → Hp → Prop, (∀ σ' H', N σ' H' → ∃ m', m' < m ∧ W (i + 1) m' σ' H') ∧ ∀ x H', (Itne K a).yld i H x H' → g x σ H' fun σ2 H2 => tb { D with nx := N, ct := N, bk := D.nx } σ2 H2) := by
  refine ⟨fun i m σ H => m = xs.length - i ∧ i ≤ xs.length ∧ Pv i σ H, ⟨xs.length, by simp, Nat.zero_le _, h0⟩, fun i m σ H ⟨em, hi, p⟩ => ?_⟩
  have q := hl i σ H p
  by_cases lt : i < xs.length
  · refine .inr ⟨⟨xs, xs[i], q, by simp [lt]⟩, Pv (i + 1), fun σ' H' p' => ⟨xs.length - (i + 1), by omega, rfl, lt, p'⟩, fun v H' ⟨T, x, ev, nT, eH, hx⟩ => ?_⟩
    rw [ev, eH]
    exact hs i x σ H T (hx xs q) p nT
  · have e : i = xs.length := by omega
    rw [e] at p
    exact .inl ⟨⟨xs, q, by omega⟩, hd σ H p⟩
abbrev s_pairs_in_order : Stmt := topS 20
abbrev N_pairs_in_order : List Str := ["tree", "places", "told", "number", "one", "lengths", "behind"]
theorem sc_pairs_in_order : FnScope N_pairs_in_order ["tree"] (defScope s_pairs_in_order) := ⟨rfl, rfl, rfl, by decide +kernel, rfl, by decide +kernel, by decide +kernel⟩
section
variable {P : Program} {w : World} {K : PySem.W.Frag} {mg : Str → Option Value} {base : Heap}
/-- what pairs_in_order tells -/
def spPio : Sp := fun vs H Q _ => ∃ (v : V) (pl : List Nm) (ts : List Tie), vs = [v] ∧ Dt H v (treeD pl ts) ∧ Fine pl ts ∧ ∀ (H' : Hp) (D : Addr) (ws : List V), Same H H' → H D = none → H' D = some (.lst ws) → DtAll H' ws ((pairsOf pl ts).map triD) → Q (.ref D) H'
theorem ok_pio {f : Addr} {fd : FuncData} (F : Fun K "pairs_in_order" "pairs_in_order" s_pairs_in_order f fd) (T : TxtQ mg) (Clengths_from : Cal P w K mg base 3 "lengths_from" spLens) : FnOk P w K mg base CX0 4 f fd ["tree"] spPio := by
  refine F.ok sc_pairs_in_order (fun vs H Q E h => ?_) (fun cdv A outer s H vs Q E hr h => ?_)
  · obtain ⟨v, pl, ts, rfl, _⟩ := h
    rfl
  · obtain ⟨v, pl, ts, rfl, hd, fine, q⟩ := h
    obtain ⟨t, a, b, vs, rfl, ht, ha, hb, hA⟩ := dt_tree hd
    refine ⟨_, (pss_cons (ps_set (i := 1) sc_pairs_in_order.nd rfl (.inl rfl) (pe_ix ix_tup (pv 0) pe_int (fun _ _ => rfl)))
      (pss_cons (ps_set (i := 2) sc_pairs_in_order.nd rfl (.inl rfl) (pe_lst pa_nil))
      (pss_cut (ps_for PassesOwn.never rfl (pi_enumT (by rfl) T.enumerate (pa_cons (pv 1) pa_nil)) (pg_tup rfl (pgs_cons (pg_name (i := 3) sc_pairs_in_order.nd rfl (.inl rfl)) (pgs_cons (pg_name (i := 4) sc_pairs_in_order.nd rfl (.inl rfl)) pgs_nil)))
        (pss_cons (ps_set (i := 5) sc_pairs_in_order.nd rfl (.inl rfl) (pe_c Clengths_from hr (by decide) rfl (pa_cons (pv 0) (pa_cons (pv 4) pa_nil))))
        (pss_one (ps_for PassesOwn.never rfl (pi_range2 (by rfl) T.range (pa_cons (pe_op op_add (pv 3) pe_int) (pa_cons (pe_callB call_len_seq (by rfl) T.len bt_len (pa_cons (pv 1) pa_nil)) pa_nil))) (pg_name (i := 6) sc_pairs_in_order.nd rfl (.inl rfl))
          (pss_one (ps_expr (pe_bm PySem.F.plainAttrs_list PySem.F.slot_list_append PySem.F.type_list_append mt_append (pv 2) (pa_cons (pe_tup (pa_cons (pe_ix ix_tup (pv 5) (pv 6) (fun _ _ => rfl)) (pa_cons (pv 4) (pa_cons (pe_ix ix_tup (pv 1) (pv 6) (fun _ _ => rfl)) pa_nil)))) pa_nil))))))))
      (pss_one (ps_ret (pv 2)))))), ?_⟩
    have p1000 := fine.len
    have sqn : ((pl.map S).map V.str).length = pl.length := by rw [List.length_map, List.length_map]
    refine ⟨_, rfl, t, _, 0, .ref a, rfl, rfl, SqT.of ht, atI_nat (j := 0) rfl, ?_⟩
    refine ⟨Nat.zero_le _, fun D nD => ?_⟩
    refine ⟨fun σ' H' => ∃ (x3 x4 x5 x6 : Option V) (ws : List V), σ' = [some (.ref t), some (.ref a), some (.ref D), x3, x4, x5, x6] ∧ Same H H' ∧ H' D = some (.lst ws) ∧ DtAll H' ws ((pairsOf pl ts).map triD), ?_, fun σ' H' hM => ?_⟩
    · have S2 := same_new (o := .lst []) (Same.refl H) nD
      refine ⟨_, rfl, a, _, rfl, (ha.same S2).sq, ?_⟩
      refine for_enumT (K := K) (a := a) (xs := (pl.map S).map V.str) (fun i σ' H' => ∃ (x3 x4 x5 x6 : Option V) (ws : List V), σ' = [some (.ref t), some (.ref a), some (.ref D), x3, x4, x5, x6] ∧ Same H H' ∧ H' D = some (.lst ws) ∧ DtAll H' ws ((prs pl ts i).map triD)) ⟨none, none, none, none, [], rfl, S2, upd_same, .nil⟩ (fun i σ' H' hP => ?_) (fun i v σ' H' u hi hP nu => ?_) (fun σ' H' hP => ?_)
      · obtain ⟨_, _, _, _, ws, rfl, SM, _⟩ := hP
        exact (ha.same SM).sq
      · obtain ⟨x3, x4, x5, x6, ws, rfl, SM, hD, hW⟩ := hP
        have gx : ∃ x, pl[i]? = some x ∧ v = .str (S x) := by
          rw [List.getElem?_map, List.getElem?_map] at hi
          cases el : pl[i]? with
          | none => rw [el] at hi; cases hi
          | some x => rw [el] at hi; exact ⟨x, rfl, (Option.some.inj hi).symm⟩
        obtain ⟨x, gx, rfl⟩ := gx
        have ip : i < pl.length := (List.getElem?_eq_some_iff.mp gx).1
        have hx : x ∈ pl := List.mem_of_getElem? gx
        have uD : u ≠ D := (ne_of_none hD nu).symm
        have S3 := same_new (o := .tup [.int (i : Nat), .str (S x)]) SM nu
        have tk3 : TK H' (upd H' u (.tup [.int (i : Nat), .str (S x)])) := TK.new nu
        have hD3 : (upd H' u (.tup [.int (i : Nat), .str (S x)])) D = some (.lst ws) := by rw [upd_ne uD.symm]; exact hD
        have hW3 := DtAll.keep tk3 hW
        have hu3 : (upd H' u (.tup [.int (i : Nat), .str (S x)])) u = some (.tup [.int (i : Nat), .str (S x)]) := upd_same
        clear hD hW tk3 nu SM
        generalize upd H' u (.tup [.int (i : Nat), .str (S x)]) = H3 at S3 hD3 hW3 hu3
        refine ⟨u, _, rfl, SqT.of hu3, rfl, _, _, rfl, _, _, rfl, rfl, ?_⟩
        refine ⟨_, rfl, _, rfl, .ref t, pl, ts, x, rfl, Dt.keep (TK.of S3) hd, fine, hx, fun H4 L S4 nL hL => ?_⟩
        have SM := S3.trans S4
        have hD := S4 _ _ hD3
        have hW := DtAll.keep (TK.of S4) hW3
        refine ⟨_, rfl, _, _, rfl, rfl, _, rfl, a, _, rfl, .inr (ha.same SM).sq, _, _, rfl, ⟨by omega, by omega, by rw [sqn]; omega, by rw [sqn]; omega⟩, ?_⟩
        refine for_range (lo := ((i : Nat) : Int) + 1) (n := ((((pl.map S).map V.str).length : Int) - (((i : Nat) : Int) + 1)).toNat) (fun j σ' H' => ∃ (x6 : Option V) (ws : List V), σ' = [some (.ref t), some (.ref a), some (.ref D), some (.int ((i : Nat) : Int)), some (.str (S x)), some (.ref L), x6] ∧ Same H H' ∧ H' L = some (.tup (pl.map fun z => .int (dist ts x z))) ∧ H' D = some (.lst ws) ∧ DtAll H' ws ((prs pl ts i ++ (rowP pl ts i).take j).map triD)) ⟨x6, ws, rfl, SM, hL, hD, by rw [List.take_zero, List.append_nil]; exact hW⟩ (fun j σ' H' hj hP => ?_) (fun σ' H' hP => ?_)
        · obtain ⟨x6, ws, rfl, S6, hL, hD, hW⟩ := hP
          rw [sqn] at hj
          have jp : i + 1 + j < pl.length := by omega
          have gy : pl[i + 1 + j]? = some pl[i + 1 + j] := List.getElem?_eq_getElem jp
          generalize pl[i + 1 + j] = y at gy
          have hy : y ∈ pl := List.mem_of_getElem? gy
          have ej : ((i : Nat) : Int) + 1 + (j : Int) = ((i + 1 + j : Nat) : Int) := by omega
          have wl : ws.length = (prs pl ts i ++ (rowP pl ts i).take j).length := by
            have := DtAll.len hW
            rwa [List.length_map] at this
          have b1 := prs_len pl ts i
          have b2 : i * pl.length ≤ 1000 * 1000 := Nat.mul_le_mul (by omega) p1000
          rw [List.length_append, List.length_take, rowP_len] at wl
          have gpy : ((pl.map S).map V.str)[i + 1 + j]? = some (.str (S y)) := by rw [List.getElem?_map, List.getElem?_map, gy]; rfl
          have gd : (pl.map fun z => V.int (dist ts x z))[i + 1 + j]? = some (.int (dist ts x y)) := by rw [List.getElem?_map, gy]; rfl
          refine ⟨_, rfl, .inl ⟨rfl, _, SqL.of hD⟩, _, rfl, _, rfl, L, _, ((i : Nat) : Int) + 1 + (j : Int), _, rfl, rfl, SqT.of hL, by rw [ej]; exact atI_nat gd, ?_⟩
          refine ⟨_, rfl, _, rfl, _, rfl, a, _, ((i : Nat) : Int) + 1 + (j : Int), _, rfl, rfl, (ha.same S6).sq, by rw [ej]; exact atI_nat gpy, (by show 3 ≤ sizeLine; decide), fun e ne => ?_⟩
          have hD2 : (upd H' e (.tup [.int (dist ts x y), .str (S x), .str (S y)])) D = some (.lst ws) := by
            rw [upd_ne (ne_of_none hD ne)]
            exact hD
          refine ⟨D, ws, _, rfl, rfl, hD2, szM (by omega), ?_⟩
          have tk : TK (upd H' e (.tup [.int (dist ts x y), .str (S x), .str (S y)])) (upd (upd H' e (.tup [.int (dist ts x y), .str (S x), .str (S y)])) D (.lst (ws ++ [.ref e]))) := TK.mut hD2
          have Le : L ≠ e := ne_of_none hL ne
          have LD : L ≠ D := ne_of hL hD (by intro z; cases z)
          refine ⟨_, ws ++ [.ref e], rfl, same_put (same_new S6 ne) nD, by rw [upd_ne LD, upd_ne Le]; exact hL, upd_same, ?_⟩
          rw [List.take_add_one, rowP_at gx gy, ← List.append_assoc, List.map_append]
          exact DtAll.app (DtAll.keep ((TK.new ne).trans tk) hW) (.cons (.tup (tk.tup _ _ upd_same) (.cons (.int _) (.cons (.str _) (.cons (.str _) .nil)))) .nil)
        · obtain ⟨x6, ws, rfl, S6, hL, hD, hW⟩ := hP
          refine ⟨_, _, _, _, ws, rfl, S6, hD, ?_⟩
          rw [sqn, List.take_of_length_le (by rw [rowP_len]; omega)] at hW
          rw [prs_succ]
          exact hW
      · obtain ⟨x3, x4, x5, x6, ws, rfl, SM, hD, hW⟩ := hP
        rw [sqn] at hW
        exact ⟨x3, x4, x5, x6, ws, rfl, SM, hD, hW⟩
    · obtain ⟨x3, x4, x5, x6, ws, rfl, SM, hD, hW⟩ := hM
      exact ⟨_, rfl, q H' D ws SM nD hD hW⟩
end
end Far

namespace Far
open PySem PySem.Spec PyProof.Rows L2
open C8 (pss_cut tCut)
open SX (S)
/-! ### the first of the greatest, by going along -/
def topT : Tri → List Tri → Tri := List.foldl fun m y => if y.1 > m.1 then y else m
theorem topT_snoc (m : Tri) (ps : List Tri) (y : Tri) : topT m (ps ++ [y]) = if y.1 > (topT m ps).1 then y else topT m ps := by
  unfold topT
  rw [List.foldl_append]
  rfl
theorem topT_is : ∀ (ps : List Tri) (m : Tri), (topT m ps = m ∧ ∀ y ∈ ps, y.1 ≤ m.1) ∨ (m.1 < (topT m ps).1 ∧ (∃ r, ps.filter (fun x => x.1 == (topT m ps).1) = topT m ps :: r) ∧ ∀ y ∈ ps, y.1 ≤ (topT m ps).1)
  | [], m => .inl ⟨rfl, fun y hy => (by cases hy)⟩
  | y :: t, m => by
    by_cases c : y.1 > m.1
    · have e : topT m (y :: t) = topT y t := by
        show topT (if y.1 > m.1 then y else m) t = _
        rw [if_pos c]
      rw [e]
      rcases topT_is t y with ⟨h1, h2⟩ | ⟨h1, ⟨r, h2⟩, h3⟩
      · refine .inr ⟨by rw [h1]; exact c, ⟨t.filter fun x => x.1 == y.1, ?_⟩, fun z hz => ?_⟩
        · rw [h1, List.filter_cons, if_pos (by simp)]
        · rw [h1]
          rcases List.mem_cons.mp hz with q | q
          · rw [q]
            exact Int.le_refl _
          · exact h2 z q
      · refine .inr ⟨by omega, ⟨r, ?_⟩, fun z hz => ?_⟩
        · rw [List.filter_cons, if_neg (by simp; omega)]
          exact h2
        · rcases List.mem_cons.mp hz with q | q
          · rw [q]
            omega
          · exact h3 z q
    · have e : topT m (y :: t) = topT m t := by
        show topT (if y.1 > m.1 then y else m) t = _
        rw [if_neg c]
      rw [e]
      rcases topT_is t m with ⟨h1, h2⟩ | ⟨h1, ⟨r, h2⟩, h3⟩
      · refine .inl ⟨h1, fun z hz => ?_⟩
        rcases List.mem_cons.mp hz with q | q
        · rw [q]
          omega
        · exact h2 z q
      · refine .inr ⟨h1, ⟨r, ?_⟩, fun z hz => ?_⟩
        · rw [List.filter_cons, if_neg (by simp; omega)]
          exact h2
        · rcases List.mem_cons.mp hz with q | q
          · rw [q]
            omega
          · exact h3 z q
theorem IsTree.pos {pl : List Nm} {ts : List Tie} (F : IsTree pl ts) {u x : Nm} (hu : u ∈ pl) (hx : x ∈ pl) (n : u ≠ x) : 1 ≤ dist ts u x := by
  have w := F.the_way hu hx
  have k := Way.nonneg (fun e he => (F.ties e he).2.2.1) w
  obtain ⟨q, e1⟩ := w.first
  obtain ⟨q', e2⟩ := w.last
  have l2 : 2 ≤ (path ts u x).length := by
    cases q with
    | nil =>
      rw [e1] at e2
      have := congrArg List.getLast? e2
      rw [List.getLast?_append] at this
      simp at this
      exact absurd this n
    | cons a r =>
      rw [e1]
      simp
  omega
theorem prs_ne {pl : List Nm} {ts : List Tie} (nd : pl.Nodup) {x : Tri} : ∀ {n : Nat}, n ≤ pl.length → x ∈ prs pl ts n → x.2.1 ≠ x.2.2
  | 0, _, h => by cases h
  | n + 1, hn, h => by
    rw [prs_succ] at h
    rcases List.mem_append.mp h with h | h
    · exact prs_ne nd (by omega) h
    · obtain ⟨y, hy, rfl⟩ := List.mem_map.mp h
      show pl.getD n [] ≠ y
      have e : pl.getD n [] = pl[n]'(by omega) := by simp [List.getD, show n < pl.length by omega]
      rw [e]
      intro z
      obtain ⟨j, hj, ej⟩ := List.mem_iff_getElem.mp hy
      rw [List.getElem_drop, ← z] at ej
      rw [List.length_drop] at hj
      have := (List.getElem_inj nd).mp ej
      omega
theorem pairs_pos {pl : List Nm} {ts : List Tie} (F : Fine pl ts) {x : Tri} (h : x ∈ pairsOf pl ts) : 1 ≤ x.1 := by
  obtain ⟨h1, h2, h3⟩ := mem_pairs h
  rw [h3]
  exact F.tree.pos h1 h2 (prs_ne F.tree.nodup (Nat.le_refl _) h)
theorem farD_top {pl : List Nm} {ts : List Tie} (F : Fine pl ts) : farD pl ts = triD (topT (0, pl.headD [], pl.headD []) (pairsOf pl ts)) ∧ (pairsOf pl ts ≠ [] → (topT (0, pl.headD [], pl.headD []) (pairsOf pl ts)).1 = best (pairsOf pl ts)) := by
  have hp : ∀ x ∈ pairsOf pl ts, 1 ≤ x.1 := fun x hx => pairs_pos F hx
  unfold farD farOf
  generalize pairsOf pl ts = ps at hp
  rcases topT_is ps (0, pl.headD [], pl.headD []) with ⟨h1, h2⟩ | ⟨h1, ⟨r, h2⟩, h3⟩
  · cases ps with
    | nil => exact ⟨by rw [h1]; rfl, fun z => absurd rfl z⟩
    | cons x r =>
      have a := hp x (List.mem_cons_self ..)
      have b := h2 x (List.mem_cons_self ..)
      exact absurd b (by show ¬ x.1 ≤ 0; omega)
  · generalize topT (0, pl.headD [], pl.headD []) ps = m at *
    have hb : best ps = m.1 := by
      refine best_is (List.mem_map.mpr ⟨m, ?_, rfl⟩) fun y hy => ?_
      · have : m ∈ ps.filter fun x => x.1 == m.1 := by
          rw [h2]
          exact List.mem_cons_self ..
        exact (List.mem_filter.mp this).1
      · obtain ⟨z, hz, rfl⟩ := List.mem_map.mp hy
        exact h3 z hz
    rw [hb, h2]
    exact ⟨rfl, fun _ => rfl⟩
abbrev s_farthest : Stmt := topS 19
abbrev N_farthest : List Str := ["tree", "first", "told", "pair"]
theorem sc_farthest : FnScope N_farthest ["tree"] (defScope s_farthest) := ⟨rfl, rfl, rfl, by decide +kernel, rfl, by decide +kernel, by decide +kernel⟩
section
variable {P : Program} {w : World} {K : PySem.W.Frag} {mg : Str → Option Value} {base : Heap}
def spFarthest : Sp := fun vs H Q _ => ∃ (v : V) (pl : List Nm) (ts : List Tie), vs = [v] ∧ Dt H v (treeD pl ts) ∧ Fine pl ts ∧ ∀ (H' : Hp) (r : V), Same H H' → Dt H' r (farD pl ts) → Q r H'
def spAllFarthest : Sp := fun vs H Q _ => ∃ (v : V) (pl : List Nm) (ts : List Tie), vs = [v] ∧ Dt H v (treeD pl ts) ∧ Fine pl ts ∧ ∀ (H' : Hp) (r : V), Same H H' → Dt H' r (allD pl ts) → Q r H'
theorem ok_farthest {f : Addr} {fd : FuncData} (F : Fun K "farthest" "farthest" s_farthest f fd) (Cpairs_in_order : Cal P w K mg base 4 "pairs_in_order" spPio) : FnOk P w K mg base CX0 5 f fd ["tree"] spFarthest := by
  refine F.ok sc_farthest (fun vs H Q E h => ?_) (fun cdv A outer s H vs Q E hr h => ?_)
  · obtain ⟨v, pl, ts, rfl, _⟩ := h
    rfl
  · obtain ⟨v, pl, ts, rfl, hd, fine, q⟩ := h
    obtain ⟨t, a, b, vs, rfl, ht, ha, hb, hA⟩ := dt_tree hd
    refine ⟨_, (pss_cons (ps_set (i := 1) sc_farthest.nd rfl (.inl rfl) (pe_ix ix_tup (pe_ix ix_tup (pv 0) pe_int (fun _ _ => rfl)) pe_int (fun _ _ => rfl)))
      (pss_cons (ps_set (i := 2) sc_farthest.nd rfl (.inl rfl) (pe_tup (pa_cons pe_int (pa_cons (pv 1) (pa_cons (pv 1) pa_nil)))))
      (pss_cut (ps_for PassesOwn.never rfl (pi_list (pe_c Cpairs_in_order hr (by decide) rfl (pa_cons (pv 0) pa_nil))) (pg_name (i := 3) sc_farthest.nd rfl (.inl rfl))
        (pss_one (ps_if (pt_cmpR op_gt (pe_ix ix_tup (pv 3) pe_int (fun _ _ => rfl)) (pe_ix ix_tup (pv 2) pe_int (fun _ _ => rfl)) (nomark _))
          (pss_one (ps_set (i := 2) sc_farthest.nd rfl (.inl rfl) (pv 3)))
          pss_nil)))
      (pss_one (ps_ret (pv 2)))))), ?_⟩
    obtain ⟨p0, pr, epl⟩ : ∃ p0 pr, pl = p0 :: pr := by
      cases hp : pl with
      | nil => exact absurd hp fine.ne
      | cons a r => exact ⟨a, r, rfl⟩
    have g0 : ((pl.map S).map V.str)[0]? = some (.str (S p0)) := by rw [epl]; rfl
    refine ⟨_, rfl, t, _, 0, .ref a, rfl, rfl, SqT.of ht, atI_nat (j := 0) rfl, a, _, 0, _, rfl, rfl, ha.sq, atI_nat (j := 0) g0, ?_⟩
    refine ⟨_, rfl, _, rfl, (by show 3 ≤ sizeLine; decide), fun T0 nT0 => ?_⟩
    have S1 := same_new (o := .tup [.int 0, .str (S p0), .str (S p0)]) (Same.refl H) nT0
    have h0 : (upd H T0 (.tup [.int 0, .str (S p0), .str (S p0)])) T0 = some (.tup [.int 0, .str (S p0), .str (S p0)]) := upd_same
    generalize upd H T0 (.tup [.int 0, .str (S p0), .str (S p0)]) = H1 at S1 h0
    refine ⟨fun σ' H' => ∃ (r : Addr) (x3 : Option V), σ' = [some (.ref t), some (.str (S p0)), some (.ref r), x3] ∧ Same H H' ∧ Dt H' (.ref r) (triD (topT (0, pl.headD [], pl.headD []) (pairsOf pl ts))), ?_, fun σ' H' hM => ?_⟩
    · refine ⟨_, rfl, .ref t, pl, ts, rfl, Dt.keep (TK.of S1) hd, fine, fun H2 D ws S2 nD hD hW => ?_⟩
      have wl := DtAll.len hW
      rw [List.length_map] at wl
      refine ⟨D, rfl, ⟨_, SqL.of hD⟩, for_list (K := K) (a := D) (xs := ws) (fun i σ' H' => H' = H2 ∧ ∃ (r : Addr) (x3 : Option V), σ' = [some (.ref t), some (.str (S p0)), some (.ref r), x3] ∧ H2 r = some (.tup [.int (topT (0, pl.headD [], pl.headD []) ((pairsOf pl ts).take i)).1, .str (S (topT (0, pl.headD [], pl.headD []) ((pairsOf pl ts).take i)).2.1), .str (S (topT (0, pl.headD [], pl.headD []) ((pairsOf pl ts).take i)).2.2)])) ⟨rfl, T0, none, rfl, ?_⟩ (fun i σ' H' _ hP => by rw [hP.1]; exact SqL.of hD) (fun i v σ' H' hi hP => ?_) (fun σ' H' hP => ?_)⟩
      · rw [List.take_zero]
        show H2 T0 = some (.tup [.int 0, .str (S (pl.headD [])), .str (S (pl.headD []))])
        rw [epl]
        exact S2 _ _ h0
      · obtain ⟨rfl, r, x3, rfl, hr2⟩ := hP
        obtain ⟨d, hd, hx⟩ := DtAll.get hW hi
        rw [List.getElem?_map] at hd
        cases ee : (pairsOf pl ts)[i]? with
        | none => rw [ee] at hd; cases hd
        | some y =>
          rw [ee] at hd
          have ed : d = triD y := (Option.some.inj hd).symm
          subst ed
          obtain ⟨u, rfl, hu⟩ := dt_tri hx
          have et : (pairsOf pl ts).take (i + 1) = (pairsOf pl ts).take i ++ [y] := by
            rw [List.take_add_one, ee]
            rfl
          rw [et, topT_snoc]
          refine ⟨_, rfl, u, _, 0, _, rfl, rfl, SqT.of hu, atI_nat (j := 0) rfl, _, rfl, r, _, 0, _, rfl, rfl, SqT.of hr2, atI_nat (j := 0) rfl, _, _, rfl, rfl, _, rfl, ?_⟩
          refine ite2 (fun z => ?_) (fun z => ?_)
          · have z : y.1 > (topT (0, pl.headD [], pl.headD []) ((pairsOf pl ts).take i)).1 := of_decide_eq_true z
            rw [if_pos z]
            exact ⟨_, rfl, rfl, u, _, rfl, hu⟩
          · have z : ¬ y.1 > (topT (0, pl.headD [], pl.headD []) ((pairsOf pl ts).take i)).1 := fun k => z (decide_eq_true k)
            rw [if_neg z]
            exact ⟨rfl, r, _, rfl, hr2⟩
      · obtain ⟨rfl, r, x3, rfl, hr2⟩ := hP
        rw [wl, List.take_length] at hr2
        exact ⟨r, x3, rfl, S1.trans S2, .tup hr2 (.cons (.int _) (.cons (.str _) (.cons (.str _) .nil)))⟩
    · obtain ⟨r, x3, rfl, SM, hr2⟩ := hM
      refine ⟨_, rfl, q H' _ SM ?_⟩
      rw [(farD_top fine).1]
      exact hr2
end
end Far

namespace Far
open PySem PySem.Spec PyProof.Rows L2
/-! ### {**a, **b} -/
section
variable {prog : Program} {w : World} {A : Around} {E : Value → Shared → Prop}
/-- a pair put without more ado -/
theorem put_pair {s : Shared} {d : Addr} {kvs : List (Key × Value)} {k : Key} {key v : Value} {Q : Unit → Shared → Prop} (kk : (mixKind prog w).is k key = true) (D : s.heap.DictOf (mixKind prog w) d kvs) (z : kvs.length ≤ sizeLine)
    (q : ∀ h', h'.DictOf (mixKind prog w) d (stored kvs k v) → Heap.SameBut d s.heap h' → Q () { s with heap := h' }) : wpAny (model prog w) A (dictPut d ((mixKind prog w).hash k) key v) Q E s := by
  obtain ⟨o, es, ep, g1, g2, g3, g4, g5, g6⟩ := D
  have z2 : es.size ≤ sizeLine := by
    have e1 := g5.length
    rw [Array.length_toList] at e1
    omega
  unfold dictPut
  refine wpAny_bind (wpAny_dictFind_of kk g1 g3 g4 ?_)
  have ix : (es.findIdx? fun e => (mixKind prog w).is k e.key) = kvs.findIdx? fun kv => decide (kv.1 = k) := by
    have := g5.findIdx k
    obtain ⟨l⟩ := es
    rw [← this]
    simp
  cases ei : es.findIdx? fun e => (mixKind prog w).is k e.key with
  | some i =>
    have hit := any_of_findIdx_some (ix ▸ ei)
    have el : (es.toList.findIdx? fun e => (mixKind prog w).is k e.key) = some i := by
      rw [← ei]
      obtain ⟨l⟩ := es
      simp
    have md := g5.modify g6 el v
    refine wpAny_updateDict g1 g3 (q _ ⟨_, es.modify i fun e => { e with val := v }, ep, Heap.get?_update_self _ g1 (Obj.isFreed_of_dict (Obj.data_mapDict g3 _)), g2.mapDict _, ?_, ?_, ?_, ?_⟩ ?_)
    · exact Obj.data_mapDict g3 _
    · exact g4.modify _ _
    · unfold stored
      rw [if_pos hit]
      obtain ⟨l⟩ := es
      simpa using md
    · unfold stored
      rw [if_pos hit, keys_map_store]
      exact g6
    · exact Heap.SameBut.update ..
  | none =>
    have fresh : k ∉ kvs.map (·.1) := not_mem_of_findIdx_none (ix ▸ ei)
    have miss : ¬ (kvs.any fun kv => decide (kv.1 = k)) = true := fun z => by
      obtain ⟨kv, m, e⟩ := List.any_eq_true.mp z
      exact fresh (List.mem_map.mpr ⟨kv, m, of_decide_eq_true e⟩)
    have ap := g5.append kk ((mixKind prog w).hash k) v
    refine wpAny_updateDictKeys (hz := z2) g1 g3 (q _ ⟨_, es.push ⟨(mixKind prog w).hash k, key, v⟩, ep + 1, Heap.get?_update_self _ g1 (Obj.isFreed_of_dict (Obj.data_mapDictKeys g3 _)), g2.mapDictKeys _, ?_, ?_, ?_, ?_⟩ ?_)
    · exact Obj.data_mapDictKeys g3 _
    · exact g4.push kk _
    · unfold stored
      rw [if_neg miss]
      obtain ⟨l⟩ := es
      simpa using ap
    · unfold stored
      rw [if_neg miss, List.map_append]
      exact List.nodup_append.mpr ⟨g6, by simp, fun a ha b hb z => fresh (by rw [List.mem_singleton.mp hb] at z; rw [z] at ha; exact ha)⟩
    · exact Heap.SameBut.update ..
theorem merge_in {s : Shared} {d o : Addr} {kvs more : List (Key × Value)} {Q : Unit → Shared → Prop} (ne : d ≠ o) (nS : (o == sysModules) = false) (D : s.heap.DictOf (mixKind prog w) d kvs) (O : s.heap.DictOf (mixKind prog w) o more) (z : kvs.length + more.length ≤ sizeLine)
    (q : ∀ h', h'.DictOf (mixKind prog w) d (PySem.merged kvs more) → Heap.SameBut d s.heap h' → Q () { s with heap := h' }) : wpAny (model prog w) A (mergeMapping d (.ref o) false) Q E s := by
  obtain ⟨od, esd, epd, a1, a2, a3, a4, a5, a6⟩ := id D
  obtain ⟨oo, eso, epo, b1, b2, b3, b4, b5, b6⟩ := id O
  unfold mergeMapping
  refine wpAny_bind (wpAny_isInstance O.typeIs isSubtype_dict_dict ?_)
  rw [if_pos rfl]
  refine wpAny_bind (wpAny_specialOf O.typeIs PySem.F.slot_dict_iter.lookup ?_)
  refine wpAny_bind (wpAny_pure ?_)
  dsimp only
  rw [show (some (Value.builtin "dict.__iter__") == some (Value.builtin "dict.__iter__")) = true by decide +kernel]
  dsimp only
  rw [if_neg (by rw [nS]; exact Bool.false_ne_true)]
  have ml : more.length = eso.size := by
    have e1 := b5.length
    rw [Array.length_toList] at e1
    omega
  have walk : wpAny (model prog w) A (do
      let size := (← dictEntries o).size
      let epoch ← dictEpoch o
      for i in List.range size do
        let some e := (← dictEntries o)[i]? | unsupported "dict.changed-during-merge"
        holding [e.key, e.val] do
          if false then
            if (← dictFind d e.key e.hash).isSome then rule "dict.merge.duplicate-key"; raiseNew (← newExc (.type "KeyError") [e.key])
          dictPut d e.hash e.key e.val
        if (← dictEpoch o) != epoch then unsupported "dict.changed-during-merge" : Sem Unit) Q E s := by
    refine wpAny_bind (wpAny_dictEntries b1 b3 (wpAny_bind (wpAny_dictEpoch b1 b3 ?_)))
    refine wpAny_bind ?_
    refine wpAny_forIn_list _ (fun rest _ s' => ∃ h' i, s' = { s with heap := h' } ∧ rest = (List.range eso.size).drop i ∧ i ≤ eso.size ∧ h'.DictOf (mixKind prog w) d (PySem.merged kvs (more.take i)) ∧ h'.get? o = some oo ∧ Heap.SameBut d s.heap h') _ ?_ ?_ _ _ ⟨s.heap, 0, rfl, rfl, Nat.zero_le _, by rw [List.take_zero]; exact D, b1, Heap.SameBut.refl _ _⟩
    · rintro x rest b s' ⟨h', i, rfl, hr, hi, D', O', S'⟩
      have lt : i < eso.size := by
        rcases Nat.lt_or_ge i eso.size with c | c
        · exact c
        · rw [List.drop_eq_nil_of_le (by rw [List.length_range]; exact c)] at hr
          cases hr
      rw [List.drop_eq_getElem_cons (by rw [List.length_range]; exact lt), List.getElem_range] at hr
      obtain ⟨rfl, rfl⟩ := List.cons.inj hr
      refine wpAny_bind (wpAny_dictEntries O' b3 ?_)
      rw [Array.getElem?_eq_getElem lt]
      obtain ⟨⟨k, v⟩, hkv⟩ : ∃ kv, more[x]? = some kv := ⟨_, List.getElem?_eq_getElem (by omega)⟩
      obtain ⟨key, val⟩ := b5.get? (e := eso[x]) (by simp [lt]) hkv
      obtain ⟨k', key', hash'⟩ := b4 eso[x] (Array.getElem_mem lt)
      obtain rfl : k' = k := (mixKind prog w).inj _ _ _ key' key
      dsimp only
      rw [hash', val]
      have zz : (PySem.merged kvs (more.take x)).length ≤ sizeLine := by
        have e1 := merged_length_le kvs (more.take x)
        rw [List.length_take] at e1
        omega
      refine wpAny_bind (wpAny_holding ?_)
      rw [if_neg Bool.false_ne_true]
      refine put_pair key D' zz fun h2 D2 S2 => ?_
      have O2 : h2.get? o = some oo := (S2.2 o ne.symm).trans O'
      refine wpAny_bind (wpAny_dictEpoch O2 b3 ?_)
      rw [if_neg (by simp)]
      refine wpAny_pure ⟨h2, x + 1, rfl, rfl, lt, ?_, O2, S'.trans S2⟩
      rw [merged_take_succ kvs more x (k', v) hkv]
      exact D2
    · rintro b s' ⟨h', i, rfl, hr, hi, D', O', S'⟩
      have e : i = eso.size := by
        have := congrArg List.length hr
        rw [List.length_drop, List.length_range, List.length_nil] at this
        omega
      refine wpAny_pure (q h' ?_ S')
      rw [e, ← ml, List.take_length] at D'
      exact D'
  refine wpAny_bind (wpAny_dictEntries a1 a3 ?_)
  split
  · refine wpAny_bind (wpAny_dictEntries b1 b3 (wpAny_bind ?_))
    rw [← Array.forIn_toList]
    refine wpAny_forIn_list _ (fun rest _ s' => (∀ e ∈ rest, ∃ k, (mixKind prog w).is k e.key = true) ∧ s' = s) _ (fun x rest b s' hI => ?_) (fun b s' hI => ?_) _ _ ⟨fun e he => ?_, rfl⟩
    · obtain ⟨all, rfl⟩ := hI
      obtain ⟨k, hk⟩ := all x List.mem_cons_self
      have nxt : ∀ e ∈ rest, ∃ k, (mixKind prog w).is k e.key = true := fun e he => all e (List.mem_cons_of_mem _ he)
      rcases keyIs_shape hk with ⟨n, t, _, ek⟩ | ⟨n, t, _, ek⟩
      · rw [ek]
        exact wpAny_pure ⟨nxt, rfl⟩
      · rw [ek]
        exact wpAny_pure ⟨nxt, rfl⟩
    · rw [hI.2]
      exact walk
    · obtain ⟨k, hk, _⟩ := b4 e (Array.mem_def.mpr he)
      exact ⟨k, hk⟩
  · exact walk
end
/-- {**a, **b}: the new dict stands empty while a is read -/
def tDMerge (t1 t2 : TE) : TE := fun σ H Q => ∀ p, H p = none → t1 σ (upd H p (.dK [])) fun v1 H1 => ∃ a kvs, v1 = .ref a ∧ H1 p = some (.dK []) ∧ H1 a = some (.dK kvs) ∧ p ≠ a ∧ kvs.length ≤ 100000 ∧
  t2 σ (upd H1 p (.dK (mergeK [] kvs))) fun v2 H2 => ∃ b kvs2, v2 = .ref b ∧ H2 p = some (.dK (mergeK [] kvs)) ∧ H2 b = some (.dK kvs2) ∧ p ≠ b ∧ kvs2.length ≤ 100000 ∧ Q (.ref p) (upd H2 p (.dK (mergeK (mergeK [] kvs) kvs2)))
theorem kv_len {kvs : List (Key × V)} {vs : List (Key × Value)} (h : KV kvs vs) : vs.length = kvs.length := by
  unfold KV at h
  induction h with
  | nil => rfl
  | cons _ _ ih => rw [List.length_cons, List.length_cons, ih]
theorem pe_dmerge {X : Cx} {pos : Pos} {e1 e2 : Expr} {t1 t2 : TE} (h1 : PE X e1 t1) (h2 : PE X e2 t2) : PE X (.Dict [none, none] [e1, e2] pos) (tDMerge t1 t2) := by
  refine ⟨fun pins s σ H Q I q => ?_⟩
  have fr := I.hok.fresh (Nat.le_refl s.heap.objs.size)
  have I1 := I.laid (o := .dK []) (a := s.heap.objs.size) (t' := s.toks) (h' := s.heap.push ⟨.type "dict", none, .dict #[] 0, #[]⟩) (fun _ _ z => Heap.get?_push_of_some _ z) (Nat.le_refl _) (dk_empty s.heap I.big)
  rw [PySem.arm_eval_Dict]
  refine wpAny_bind (wpAny_standAt ?_)
  show wpAny _ _ (dictDisplay [(none, do let x ← eval e1 X.env; standAt pos; pure x), (none, do let x ← eval e2 X.env; standAt pos; pure x)]) _ _ _
  unfold dictDisplay
  simp only [List.forIn_cons, List.forIn_nil, List.isEmpty_nil, if_true, pure_bind, bind_assoc]
  refine wpAny_bind (wpAny_alloc (wpAny_bind (wpAny_holding ?_)))
  refine wpAny_bind (thn (h1.run pins _ σ _ _ I1 (q _ fr)) fun u s1 ⟨v, H1, I2, rv, a, kvs, ev, ep, ea, ne, z1, q1⟩ => ?_)
  subst ev
  obtain rfl : u = Value.ref a := rv
  refine wpAny_bind (wpAny_standAt (wpAny_pure ?_))
  obtain ⟨_, hs, v0, r0, d0⟩ := dk_of I2.hok ep
  cases r0
  obtain ⟨_, hsa, va, ra, da⟩ := dk_of I2.hok ea
  have la := kv_len ra
  refine wpAny_bind (wpAny_onRaise (wpAny_tryCatch (wpAny_onRaise (wpAny_holding (merge_in ne hsa d0 da (by rw [la, List.length_nil]; exact Nat.le_trans (by omega) (by decide : 100000 ≤ sizeLine)) fun h' dd S => ?_)))))
  have lz : (mergeK [] kvs).length ≤ sizeLine := Nat.le_trans (length_mergeK kvs []) (Nat.le_trans (by rw [List.length_nil]; omega) (by decide : 100000 ≤ sizeLine))
  have I3 := d_write (t' := s1.toks) I2 (by rw [ep]; exact True.intro) S (let ⟨o, _, _, g, _⟩ := dd; ⟨o, g⟩) (dk_new lz hs (ra.merge .nil) dd)
  refine wpAny_bind (wpAny_holding (wpAny_bind (thn (h2.run pins _ σ _ _ I3 q1) fun u s2 ⟨v, H2, I4, rv, b, kvs2, ev, ep2, eb, ne2, z2, q2⟩ => ?_)))
  subst ev
  obtain rfl : u = Value.ref b := rv
  refine wpAny_bind (wpAny_standAt (wpAny_pure ?_))
  obtain ⟨_, hs2, v1, r1, d1⟩ := dk_of I4.hok ep2
  obtain ⟨_, hsb, vb, rb, db⟩ := dk_of I4.hok eb
  have lb := kv_len rb
  have l1 := kv_len r1
  have l1' := length_mergeK kvs []
  rw [List.length_nil] at l1'
  refine wpAny_bind (wpAny_onRaise (wpAny_tryCatch (wpAny_onRaise (wpAny_holding (merge_in ne2 hsb d1 db (by rw [lb, l1]; exact Nat.le_trans (by omega) (by decide : 200000 ≤ sizeLine)) fun h' dd S => ?_)))))
  have lz2 : (mergeK (mergeK [] kvs) kvs2).length ≤ sizeLine := Nat.le_trans (length_mergeK kvs2 _) (Nat.le_trans (by omega) (by decide : 200000 ≤ sizeLine))
  have I5 := d_write (t' := s2.toks) I4 (by rw [ep2]; exact True.intro) S (let ⟨o, _, _, g, _⟩ := dd; ⟨o, g⟩) (dk_new lz2 hs2 (rb.merge r1) dd)
  exact wpAny_pure ⟨.ref s.heap.objs.size, _, I5, rfl, q2⟩
end Far

namespace Far
open PySem PySem.Spec PyProof.Rows L2
/-! ### next(zip(a, b)), whatever became of the pair that was given out -/
abbrev ZipAt (h : Heap) (z TI TO : Addr) (f0 f1 : Value) : Prop := h.get? z = some { cls := .type "zip", dict := none, data := .fields #[f0, f1, .bool false, .ref TI, .ref TO], slots := #[] }
inductive ZipOut : Value → Value → Prop
  | free (b : Bool) : ZipOut .none (.bool b)
  | out (T : Nat) (b : Bool) : ZipOut (rawInt T) (.bool b)
section
variable {prog : Program} {w : World} {A : Around} {E : Value → Shared → Prop} {s : Shared} {z TI TO i1 i2 : Addr} {fp1 fp2 : List Addr} {n1 n2 i : Nat} {P1 P2 : Nat → Value → Prop} {St1 St2 : Nat → Heap → Prop} {a1 a2 f0 f1 : Value}
theorem look_alive {a : Addr} {Q : Option Obj → Shared → Prop} (h : Q (s.heap.get? a) s) : wpAny (model prog w) A (loadIfAlive a) Q E s := fun _ _ _ => h
theorem zip_asks {Q : Bool → Shared → Prop} (hz : ZipAt s.heap z TI TO f0 f1) (ok : ZipOut f0 f1)
    (h : ∀ b h' g0 g1, ZipOut g0 g1 → ZipAt h' z TI TO g0 g1 → Heap.SameBut z s.heap h' → Q b { s with heap := h' }) : wpAny (model prog w) A (Builtin.SmallTypes.ownedTupleIsFree (.ref z)) Q E s := by
  have same : Heap.SameBut z s.heap s.heap := Heap.SameBut.refl _ _
  unfold Builtin.SmallTypes.ownedTupleIsFree
  cases ok with
  | free b => exact wpAny_bind (wpAny_field hz rfl (x := .none) rfl (wpAny_pure (h true s.heap _ _ (.free b) hz same)))
  | out T b =>
    refine wpAny_bind (wpAny_field hz rfl (x := rawInt T) rfl ?_)
    show wpAny _ _ (loadIfAlive ((T : Int).toNat) >>= _) _ _ _
    refine wpAny_bind (look_alive ?_)
    rw [Int.toNat_natCast]
    cases e : s.heap.get? T with
    | none =>
      simp only [Option.isNone_none, if_true]
      exact wpAny_pure (h true s.heap _ _ (.out T b) hz same)
    | some o =>
      simp only [Option.isNone_some, Bool.false_eq_true, if_false]
      refine wpAny_bind (wpAny_field hz rfl (x := .bool b) rfl ?_)
      cases b with
      | true =>
        rw [if_neg (show ¬ ((Value.bool true != Value.bool true) = true) from Bool.false_ne_true)]
        exact wpAny_pure (h false s.heap _ _ (.out T true) hz same)
      | false =>
        rw [if_pos (show (Value.bool false != Value.bool true) = true from rfl)]
        exact wpAny_bind (wpAny_setField_rec hz (by simp) fun h1 z1 s1 => wpAny_pure (h false h1 _ _ (.out T true) z1 s1))
/-- a pair is drawn -/
theorem zip_item {Q : Value → Shared → Prop} (S : ZipSep2 z TI TO i1 i2 fp1 fp2) (D1 : Draws prog w A i1 fp1 n1 P1 St1) (D2 : Draws prog w A i2 fp2 n2 P2 St2)
    (hz : ZipAt s.heap z TI TO f0 f1) (ok : ZipOut f0 f1) (hTI : IsTupOf2 s.heap TI (.ref i1) (.ref i2)) (hTO : IsTupOf2 s.heap TO a1 a2) (st1 : St1 i s.heap) (st2 : St2 i s.heap) (lt1 : i < n1) (lt2 : i < n2)
    (hQ : ∀ x1 x2 h' tk g0 g1 b1 b2, P1 i x1 → P2 i x2 → ZipOut g0 g1 → ZipAt h' z TI TO g0 g1 → IsTupOf2 h' TO b1 b2 → St1 (i + 1) h' → St2 (i + 1) h' → IsTupOf2 h' s.heap.objs.size x1 x2 → h'.objs.size = s.heap.objs.size + 1 →
      (∀ c o, c ≠ z → c ≠ TO → c ≠ i1 → c ≠ i2 → s.heap.get? c = some o → h'.get? c = some o) → Q (.ref s.heap.objs.size) { s with heap := h', toks := tk }) :
    wpAny (model prog w) A (Builtin.«zip.__next__» ⟨[.ref z], []⟩) (fun fin s' => ∃ v, fin = .done (.ret v) ∧ Q v s') E s := by
  obtain ⟨hp, gs, dr, tk0, os⟩ := s
  show wpAny _ _ (field (.ref z) 2 >>= _) _ _ _
  refine wpAny_bind (wpAny_field hz rfl (x := .bool false) rfl ?_)
  show wpAny _ _ (field (.ref z) 3 >>= _) _ _ _
  refine wpAny_bind (wpAny_field hz rfl (x := .ref TI) rfl (wpAny_bind (wpAny_seqItems hTI rfl ?_)))
  show wpAny _ _ (Builtin.SmallTypes.ownedTupleIsFree (.ref z) >>= _) _ _ _
  refine wpAny_bind (zip_asks hz ok fun b k0 g0 g1 ok0 z0 e0 => ?_)
  replace e0 : Heap.SameBut z hp k0 := e0
  cases b with
  | true =>
    simp only [if_true]
    refine wpAny_bind (wpAny_rule (wpAny_bind (wpAny_field z0 rfl (x := .ref TO) rfl (wpAny_bind (wpAny_setField_rec z0 (by simp) fun k1 z1 e1 => ?_)))))
    replace z1 : ZipAt k1 z TI TO .ellipsis g1 := z1
    replace e1 : Heap.SameBut z k0 k1 := e1
    have q1 : Heap.ExtBut z hp k1 := fun c o hc x => e1.extBut _ _ hc (e0.extBut _ _ hc x)
    have T1 : IsTupOf2 k1 TO a1 a2 := q1 _ _ S.TOz hTO
    have u1 : St1 i k1 := D1.over (D1.over st1 e0 S.zf1) e1 S.zf1
    have u2 : St2 i k1 := D2.over (D2.over st2 e0 S.zf2) e1 S.zf2
    refine wpAny_bind ?_
    simp only [List.zipIdx_cons, List.zipIdx_nil, List.forIn_cons, List.forIn_nil]
    refine wpAny_bind (wpAny_bind (wpAny_onRaise ?_))
    show wpAny _ _ (Builtin.SmallTypes.nextOf (.ref i1) >>= _) _ _ ⟨k1, gs, dr, tk0, os⟩
    refine wpAny_bind (D1.item i _ _ _ lt1 u1 fun x1 k2 t2 px1 u1' e2 => wpAny_pure ?_)
    replace e2 : Heap.SameBut i1 k1 k2 := e2
    have T2 : IsTupOf2 k2 TO a1 a2 := e2.extBut _ _ S.Ti1 T1
    refine wpAny_bind (wpAny_seqItems (s := ⟨k2, gs, dr, t2, os⟩) T2 rfl (wpAny_bind (updateSeq_IsTupOf2 (s := ⟨k2, gs, dr, t2, os⟩) T2 fun k3 T3 e3 => wpAny_bind (wpAny_letGo (wpAny_pure ?_)))))
    replace T3 : IsTupOf2 k3 TO x1 a2 := T3
    replace e3 : Heap.SameBut TO k2 k3 := e3
    refine wpAny_bind (wpAny_bind (wpAny_onRaise ?_))
    show wpAny _ _ (Builtin.SmallTypes.nextOf (.ref i2) >>= _) _ _ ⟨k3, gs, dr, t2, os⟩
    refine wpAny_bind (D2.item i _ _ _ lt2 (D2.over (D2.over u2 e2 S.sep1_2) e3 S.Tf2) fun x2 k4 t4 px2 u2' e4 => wpAny_pure ?_)
    replace e4 : Heap.SameBut i2 k3 k4 := e4
    have T4 : IsTupOf2 k4 TO x1 a2 := e4.extBut _ _ S.Ti2 T3
    refine wpAny_bind (wpAny_seqItems (s := ⟨k4, gs, dr, t4, os⟩) T4 rfl (wpAny_bind (updateSeq_IsTupOf2 (s := ⟨k4, gs, dr, t4, os⟩) T4 fun k5 T5 e5 => wpAny_bind (wpAny_letGo (wpAny_pure (wpAny_pure ?_))))))
    replace T5 : IsTupOf2 k5 TO x1 x2 := T5
    replace e5 : Heap.SameBut TO k4 k5 := e5
    refine wpAny_bind (wpAny_seqItems (s := ⟨k5, gs, dr, t4, os⟩) T5 rfl (wpAny_bind (wpAny_newTuple ?_)))
    have sz : k5.objs.size = hp.objs.size := by rw [e5.1, e4.1, e3.1, e2.1, e1.1, e0.1]
    have z5 : ZipAt k5 z TI TO .ellipsis g1 := e5.extBut _ _ S.TOz.symm (e4.extBut _ _ S.zi2 (e3.extBut _ _ S.TOz.symm (e2.extBut _ _ S.zi1 z1)))
    have q5 : ∀ c o, c ≠ z → c ≠ TO → c ≠ i1 → c ≠ i2 → hp.get? c = some o → k5.get? c = some o := fun c o hz hT h1 h2 x => e5.extBut _ _ hT (e4.extBut _ _ h2 (e3.extBut _ _ hT (e2.extBut _ _ h1 (q1 _ _ hz x))))
    have v1 : St1 (i + 1) k5 := D1.over (D1.over (D1.over u1' e3 S.Tf1) e4 S.sep2_1) e5 S.Tf1
    have v2 : St2 (i + 1) k5 := D2.over u2' e5 S.Tf2
    have zlt : z < k5.objs.size := Heap.lt_size z5
    show wpAny _ _ (Builtin.SmallTypes.ownedTupleHandOut (.ref z) (.ref k5.objs.size) >>= _) _ _ ⟨k5.push { cls := .type "tuple", data := .seq #[x1, x2] }, gs, dr, t4, os⟩
    refine wpAny_bind ?_
    unfold Builtin.SmallTypes.ownedTupleHandOut
    have z6 : ZipAt (k5.push { cls := .type "tuple", data := .seq #[x1, x2] }) z TI TO .ellipsis g1 := Heap.get?_push_of_some _ z5
    refine wpAny_bind (wpAny_setField_rec z6 (by simp) fun k7 z7 e7 => ?_)
    replace z7 : ZipAt k7 z TI TO (rawInt k5.objs.size) g1 := z7
    refine wpAny_setField_rec z7 (by simp) fun k8 z8 e8 => ?_
    replace z8 : ZipAt k8 z TI TO (rawInt k5.objs.size) (.bool false) := z8
    replace e7 : Heap.SameBut z (k5.push { cls := .type "tuple", data := .seq #[x1, x2] }) k7 := e7
    replace e8 : Heap.SameBut z k7 k8 := e8
    have up : ∀ c o, c ≠ z → k5.get? c = some o → k8.get? c = some o := fun c o hc x => e8.extBut _ _ hc (e7.extBut _ _ hc (Heap.get?_push_of_some _ x))
    have T8 : IsTupOf2 k8 k5.objs.size x1 x2 := e8.extBut _ _ (Nat.ne_of_gt zlt) (e7.extBut _ _ (Nat.ne_of_gt zlt) (Heap.get?_push_size _ rfl))
    have s8 : k8.objs.size = k5.objs.size + 1 := by rw [e8.1, e7.1, Heap.size_push]
    refine wpAny_pure ⟨_, rfl, ?_⟩
    show Q (.ref k5.objs.size) ⟨k8, gs, dr, t4, os⟩
    rw [sz] at T8 s8 z8 ⊢
    exact hQ x1 x2 k8 t4 _ _ _ _ px1 px2 (.out _ false) z8 (up _ _ S.TOz T5) (D1.frame _ _ _ v1 fun c hc o x => up c o (fun q => S.zf1 (q ▸ hc)) x) (D2.frame _ _ _ v2 fun c hc o x => up c o (fun q => S.zf2 (q ▸ hc)) x) T8 s8 fun c o hz hT h1 h2 x => up c o hz (q5 c o hz hT h1 h2 x)
  | false =>
    simp only [Bool.false_eq_true, if_false]
    refine wpAny_bind ?_
    rw [← Array.forIn_toList]
    simp only [List.forIn_cons, List.forIn_nil]
    refine wpAny_bind (wpAny_bind (wpAny_holding ?_))
    show wpAny _ _ (Builtin.SmallTypes.nextOf (.ref i1) >>= _) _ _ ⟨k0, gs, dr, tk0, os⟩
    refine wpAny_bind (D1.item i _ _ _ lt1 (D1.over st1 e0 S.zf1) fun x1 k1 t1 px1 u1 e1 => wpAny_pure (wpAny_pure ?_))
    replace e1 : Heap.SameBut i1 k0 k1 := e1
    refine wpAny_bind (wpAny_bind (wpAny_holding ?_))
    show wpAny _ _ (Builtin.SmallTypes.nextOf (.ref i2) >>= _) _ _ ⟨k1, gs, dr, t1, os⟩
    refine wpAny_bind (D2.item i _ _ _ lt2 (D2.over (D2.over st2 e0 S.zf2) e1 S.sep1_2) fun x2 k2 t2 px2 u2 e2 => wpAny_pure (wpAny_pure (wpAny_pure ?_)))
    replace e2 : Heap.SameBut i2 k1 k2 := e2
    show wpAny _ _ (newTuple [x1, x2] >>= _) _ _ ⟨k2, gs, dr, t2, os⟩
    refine wpAny_bind (wpAny_newTuple ?_)
    have sz : k2.objs.size = hp.objs.size := by rw [e2.1, e1.1, e0.1]
    have z2 : ZipAt k2 z TI TO g0 g1 := e2.extBut _ _ S.zi2 (e1.extBut _ _ S.zi1 z0)
    have q2 : ∀ c o, c ≠ z → c ≠ i1 → c ≠ i2 → hp.get? c = some o → k2.get? c = some o := fun c o hz h1 h2 x => e2.extBut _ _ h2 (e1.extBut _ _ h1 (e0.extBut _ _ hz x))
    have up : ∀ c o, k2.get? c = some o → (k2.push { cls := .type "tuple", data := .seq #[x1, x2] }).get? c = some o := fun c o x => Heap.get?_push_of_some _ x
    have T3 : IsTupOf2 (k2.push { cls := .type "tuple", data := .seq #[x1, x2] }) k2.objs.size x1 x2 := Heap.get?_push_size _ rfl
    have s3 : (k2.push { cls := .type "tuple", data := .seq #[x1, x2] }).objs.size = k2.objs.size + 1 := Heap.size_push ..
    refine wpAny_pure ⟨_, rfl, ?_⟩
    show Q (.ref k2.objs.size) ⟨k2.push { cls := .type "tuple", data := .seq #[x1, x2] }, gs, dr, t2, os⟩
    rw [sz] at T3 s3 ⊢
    exact hQ x1 x2 _ t2 g0 g1 _ _ px1 px2 ok0 (up _ _ z2) (up _ _ (q2 _ _ S.TOz S.Ti1 S.Ti2 hTO)) (D1.frame _ _ _ (D1.over u1 e2 S.sep2_1) fun c _ o x => up c o x) (D2.frame _ _ _ u2 fun c _ o x => up c o x) T3 s3 fun c o hz _ h1 h2 x => up c o (q2 c o hz h1 h2 x)
/-- one of both is at its end -/
theorem zip_end {Q : Fin → Shared → Prop} (S : ZipSep2 z TI TO i1 i2 fp1 fp2) (D1 : Draws prog w A i1 fp1 n1 P1 St1) (D2 : Draws prog w A i2 fp2 n2 P2 St2)
    (hz : ZipAt s.heap z TI TO f0 f1) (ok : ZipOut f0 f1) (hTI : IsTupOf2 s.heap TI (.ref i1) (.ref i2)) (hTO : IsTupOf2 s.heap TO a1 a2) (st1 : St1 i s.heap) (st2 : St2 i s.heap) (le1 : i ≤ n1) (le2 : i ≤ n2) (he : i = n1 ∨ i = n2)
    (hE : ∀ h' tk e, (∀ c o, c ≠ z → c ≠ TO → c ≠ i1 → c ≠ i2 → s.heap.get? c = some o → h'.get? c = some o) → (∃ o, h'.get? e = some o ∧ o.cls = .type "StopIteration") → E (.ref e) { s with heap := h', toks := tk }) :
    wpAny (model prog w) A (Builtin.«zip.__next__» ⟨[.ref z], []⟩) Q E s := by
  obtain ⟨hp, gs, dr, tk0, os⟩ := s
  show wpAny _ _ (field (.ref z) 2 >>= _) _ _ _
  refine wpAny_bind (wpAny_field hz rfl (x := .bool false) rfl ?_)
  show wpAny _ _ (field (.ref z) 3 >>= _) _ _ _
  refine wpAny_bind (wpAny_field hz rfl (x := .ref TI) rfl (wpAny_bind (wpAny_seqItems hTI rfl ?_)))
  show wpAny _ _ (Builtin.SmallTypes.ownedTupleIsFree (.ref z) >>= _) _ _ _
  refine wpAny_bind (zip_asks hz ok fun b k0 g0 g1 ok0 z0 e0 => ?_)
  replace e0 : Heap.SameBut z hp k0 := e0
  cases b with
  | true =>
    simp only [if_true]
    refine wpAny_bind (wpAny_rule (wpAny_bind (wpAny_field z0 rfl (x := .ref TO) rfl (wpAny_bind (wpAny_setField_rec z0 (by simp) fun k1 z1 e1 => ?_)))))
    replace z1 : ZipAt k1 z TI TO .ellipsis g1 := z1
    replace e1 : Heap.SameBut z k0 k1 := e1
    have q1 : Heap.ExtBut z hp k1 := fun c o hc x => e1.extBut _ _ hc (e0.extBut _ _ hc x)
    have u1 : St1 i k1 := D1.over (D1.over st1 e0 S.zf1) e1 S.zf1
    have u2 : St2 i k1 := D2.over (D2.over st2 e0 S.zf2) e1 S.zf2
    have T1 : IsTupOf2 k1 TO a1 a2 := q1 _ _ S.TOz hTO
    have fin : ∀ (k : Heap) (t : Nat) (e : Addr) (z9 : ZipAt k z TI TO .ellipsis g1) (q9 : ∀ c o, c ≠ z → c ≠ TO → c ≠ i1 → c ≠ i2 → hp.get? c = some o → k.get? c = some o) (he : ∃ o, k.get? e = some o ∧ o.cls = .type "StopIteration"),
        wpAny (model prog w) A (setField (.ref z) 0 .none) (fun _ s' => E (.ref e) s') E ⟨k, gs, dr, t, os⟩ := fun k t e z9 q9 ⟨o, ho, hc⟩ => by
      have ez : e ≠ z := fun x => by
        subst x
        rw [z9] at ho
        cases ho
        simp at hc
      refine wpAny_setField_rec (s := ⟨k, gs, dr, t, os⟩) z9 (by simp) fun k' _ e' => ?_
      replace e' : Heap.SameBut z k k' := e'
      exact hE k' t e (fun c o hz hT h1 h2 x => e'.extBut _ _ hz (q9 c o hz hT h1 h2 x)) ⟨o, e'.extBut _ _ ez ho, hc⟩
    refine wpAny_bind ?_
    simp only [List.zipIdx_cons, List.zipIdx_nil, List.forIn_cons, List.forIn_nil]
    refine wpAny_bind (wpAny_bind (wpAny_onRaise ?_))
    show wpAny _ _ (Builtin.SmallTypes.nextOf (.ref i1) >>= _) _ _ ⟨k1, gs, dr, tk0, os⟩
    by_cases lt1 : i < n1
    · refine wpAny_bind (D1.item i _ _ _ lt1 u1 fun x1 k2 t2 px1 u1' e2 => wpAny_pure ?_)
      replace e2 : Heap.SameBut i1 k1 k2 := e2
      have T2 : IsTupOf2 k2 TO a1 a2 := e2.extBut _ _ S.Ti1 T1
      refine wpAny_bind (wpAny_seqItems (s := ⟨k2, gs, dr, t2, os⟩) T2 rfl (wpAny_bind (updateSeq_IsTupOf2 (s := ⟨k2, gs, dr, t2, os⟩) T2 fun k3 T3 e3 => wpAny_bind (wpAny_letGo (wpAny_pure ?_)))))
      replace e3 : Heap.SameBut TO k2 k3 := e3
      have i2e : i = n2 := by omega
      refine wpAny_bind (wpAny_bind (wpAny_onRaise ?_))
      show wpAny _ _ (Builtin.SmallTypes.nextOf (.ref i2) >>= _) _ _ ⟨k3, gs, dr, t2, os⟩
      refine wpAny_bind (D2.done ⟨k3, gs, dr, t2, os⟩ _ _ (by rw [← i2e]; exact D2.over (D2.over u2 e2 S.sep1_2) e3 S.Tf2) fun k4 e x4 ho => ?_)
      replace x4 : Heap.ExtBut i2 k3 k4 := x4
      exact fin k4 t2 e (x4 _ _ S.zi2 (e3.extBut _ _ S.TOz.symm (e2.extBut _ _ S.zi1 z1))) (fun c o hz hT h1 h2 x => x4 _ _ h2 (e3.extBut _ _ hT (e2.extBut _ _ h1 (q1 _ _ hz x)))) ho
    · have i1e : i = n1 := by omega
      refine wpAny_bind (D1.done ⟨k1, gs, dr, tk0, os⟩ _ _ (by rw [← i1e]; exact u1) fun k2 e x2 ho => ?_)
      replace x2 : Heap.ExtBut i1 k1 k2 := x2
      exact fin k2 tk0 e (x2 _ _ S.zi1 z1) (fun c o hz hT h1 h2 x => x2 _ _ h1 (q1 _ _ hz x)) ho
  | false =>
    simp only [Bool.false_eq_true, if_false]
    refine wpAny_bind ?_
    rw [← Array.forIn_toList]
    simp only [List.forIn_cons, List.forIn_nil]
    refine wpAny_bind (wpAny_bind (wpAny_holding ?_))
    show wpAny _ _ (Builtin.SmallTypes.nextOf (.ref i1) >>= _) _ _ ⟨k0, gs, dr, tk0, os⟩
    by_cases lt1 : i < n1
    · refine wpAny_bind (D1.item i _ _ _ lt1 (D1.over st1 e0 S.zf1) fun x1 k1 t1 px1 u1 e1 => wpAny_pure (wpAny_pure ?_))
      replace e1 : Heap.SameBut i1 k0 k1 := e1
      have i2e : i = n2 := by omega
      refine wpAny_bind (wpAny_bind (wpAny_holding ?_))
      show wpAny _ _ (Builtin.SmallTypes.nextOf (.ref i2) >>= _) _ _ ⟨k1, gs, dr, t1, os⟩
      refine wpAny_bind (D2.done ⟨k1, gs, dr, t1, os⟩ _ _ (by rw [← i2e]; exact D2.over (D2.over st2 e0 S.zf2) e1 S.sep1_2) fun k2 e x2 ho => ?_)
      replace x2 : Heap.ExtBut i2 k1 k2 := x2
      exact hE k2 t1 e (fun c o hz hT h1 h2 x => x2 _ _ h2 (e1.extBut _ _ h1 (e0.extBut _ _ hz x))) ho
    · have i1e : i = n1 := by omega
      refine wpAny_bind (D1.done ⟨k0, gs, dr, tk0, os⟩ _ _ (by rw [← i1e]; exact D1.over st1 e0 S.zf1) fun k1 e x1 ho => ?_)
      replace x1 : Heap.ExtBut i1 k0 k1 := x1
      exact hE k1 tk0 e (fun c o hz hT h1 h2 x => x1 _ _ h1 (e0.extBut _ _ hz x)) ho
end
end Far

namespace Far
open PySem PySem.Spec PyProof.Rows L2
section
variable {prog : Program} {w : World} {A : Around} {E : Value → Shared → Prop} {s : Shared} {z TI TO i1 i2 : Addr} {fp1 fp2 : List Addr} {n1 n2 i : Nat} {P1 P2 : Nat → Value → Prop} {St1 St2 : Nat → Heap → Prop} {a1 a2 f0 f1 : Value}
theorem next_zip {Q : Option Value → Shared → Prop} (S : ZipSep2 z TI TO i1 i2 fp1 fp2) (D1 : Draws prog w A.in1 i1 fp1 n1 P1 St1) (D2 : Draws prog w A.in1 i2 fp2 n2 P2 St2)
    (hz : ZipAt s.heap z TI TO f0 f1) (ok : ZipOut f0 f1) (hTI : IsTupOf2 s.heap TI (.ref i1) (.ref i2)) (hTO : IsTupOf2 s.heap TO a1 a2) (st1 : St1 i s.heap) (st2 : St2 i s.heap) (lt1 : i < n1) (lt2 : i < n2)
    (hQ : ∀ x1 x2 h' tk g0 g1 b1 b2, P1 i x1 → P2 i x2 → ZipOut g0 g1 → ZipAt h' z TI TO g0 g1 → IsTupOf2 h' TO b1 b2 → St1 (i + 1) h' → St2 (i + 1) h' → IsTupOf2 h' s.heap.objs.size x1 x2 → h'.objs.size = s.heap.objs.size + 1 →
      (∀ c o, c ≠ z → c ≠ TO → c ≠ i1 → c ≠ i2 → s.heap.get? c = some o → h'.get? c = some o) → Q (some (.ref s.heap.objs.size)) { s with heap := h', toks := tk }) :
    wpAny (model prog w) A (pyNext (.ref z)) Q E s := by
  have ty : s.TypeIs (.ref z) "zip" := ⟨_, hz, rfl⟩
  unfold pyNext
  exact wpAny_bind (wpAny_attempt (wpAny_callSpecial?_slot (name := Str.ofString "__next__") ty F.slot_zip_next
    (wpAny_call_entry F.slot_zip_next ty F.entry_zip_next (zip_item S D1 D2 hz ok hTI hTO st1 st2 lt1 lt2 fun x1 x2 h' tk g0 g1 b1 b2 c1 c2 c3 c4 c5 c6 c7 c8 c9 c10 => wpAny_pure (hQ x1 x2 h' tk g0 g1 b1 b2 c1 c2 c3 c4 c5 c6 c7 c8 c9 c10)) (F.args_zip_next_1 _))))
theorem next_zip_end {Q : Option Value → Shared → Prop} (S : ZipSep2 z TI TO i1 i2 fp1 fp2) (D1 : Draws prog w A.in1 i1 fp1 n1 P1 St1) (D2 : Draws prog w A.in1 i2 fp2 n2 P2 St2)
    (hz : ZipAt s.heap z TI TO f0 f1) (ok : ZipOut f0 f1) (hTI : IsTupOf2 s.heap TI (.ref i1) (.ref i2)) (hTO : IsTupOf2 s.heap TO a1 a2) (st1 : St1 i s.heap) (st2 : St2 i s.heap) (le1 : i ≤ n1) (le2 : i ≤ n2) (he : i = n1 ∨ i = n2)
    (hQ : ∀ h' tk, (∀ c o, c ≠ z → c ≠ TO → c ≠ i1 → c ≠ i2 → s.heap.get? c = some o → h'.get? c = some o) → Q none { s with heap := h', toks := tk }) : wpAny (model prog w) A (pyNext (.ref z)) Q E s := by
  have ty : s.TypeIs (.ref z) "zip" := ⟨_, hz, rfl⟩
  unfold pyNext
  refine wpAny_bind (wpAny_attempt (wpAny_callSpecial?_slot (name := Str.ofString "__next__") ty F.slot_zip_next
    (wpAny_call_entry F.slot_zip_next ty F.entry_zip_next (zip_end S D1 D2 hz ok hTI hTO st1 st2 le1 le2 he fun h' tk e hk ⟨o, ho, hc⟩ => ?_) (F.args_zip_next_1 _))))
  exact wpAny_bind (wpAny_isInstance (T := "StopIteration") (b := true) ⟨o, ho, hc⟩ isSubtype_stop (wpAny_pure (hQ _ _ hk)))
theorem iter_zip {Q : Value → Shared → Prop} (hz : ZipAt s.heap z TI TO f0 f1) (h : Q (.ref z) s) : wpAny (model prog w) A (pyIter (.ref z)) Q E s := by
  have ty : s.TypeIs (.ref z) "zip" := ⟨_, hz, rfl⟩
  refine wpAny_pyIter_slot ty F.slot_zip_iter (wpAny_call_entry F.slot_zip_iter ty F.entry_zip_iter ?_ (F.args_zip_iter_1 _))
  unfold Builtin.«dict_keyiterator.__iter__»
  exact wpAny_bind (wpAny_pure (wpAny_pure ⟨_, rfl, "zip", _, ty, F.slot_zip_next.lookup, h⟩))
end
/-- the pairs of two tuples, while both go on -/
def ItzN (K : PySem.W.Frag) (a b : Addr) : It :=
  ⟨fun i H => ∃ (xs ys : List V) (x y : V), SqT K H a xs ∧ SqT K H b ys ∧ xs[i]? = some x ∧ ys[i]? = some y,
   fun i H v H' => ∃ T x y, v = .ref T ∧ H T = none ∧ H' = upd H T (.tup [x, y]) ∧ (∀ xs, SqT K H a xs → xs[i]? = some x) ∧ ∀ ys, SqT K H b ys → ys[i]? = some y,
   fun i H => ∃ xs ys : List V, SqT K H a xs ∧ SqT K H b ys ∧ i ≤ xs.length ∧ i ≤ ys.length ∧ (i = xs.length ∨ i = ys.length)⟩
/-- the state of a zip of the tuples at a, b -/
def ZipSt (z TI TO i1 i2 a b : Addr) (i : Nat) (h : Heap) : Prop :=
  (∃ f0 f1, ZipOut f0 f1 ∧ ZipAt h z TI TO f0 f1) ∧ IsTupOf2 h TI (.ref i1) (.ref i2) ∧ (∃ x y, IsTupOf2 h TO x y) ∧ h.IsTupleIter i1 a i ∧ h.IsTupleIter i2 b i
theorem ZipSt.keep {z TI TO i1 i2 a b : Addr} {i : Nat} {h h' : Heap} (st : ZipSt z TI TO i1 i2 a b i h) (k : ∀ c ∈ [z, TI, TO, i1, i2], ∀ o, h.get? c = some o → h'.get? c = some o) : ZipSt z TI TO i1 i2 a b i h' := by
  obtain ⟨⟨f0, f1, ok, hz⟩, hTI, ⟨x, y, hTO⟩, h1, h2⟩ := st
  exact ⟨⟨f0, f1, ok, k z (by simp) _ hz⟩, k TI (by simp) _ hTI, ⟨x, y, k TO (by simp) _ hTO⟩, h1.at fun o q => k i1 (by simp) o q, h2.at fun o q => k i2 (by simp) o q⟩
structure ZipAp (z TI TO i1 i2 a b : Addr) : Prop where
  sep : ZipSep2 z TI TO i1 i2 [i1, a] [i2, b]
  a1 : a ≠ i1
  b2 : b ≠ i2
theorem zip_ap {N a b : Nat} (ha : a < N) (hb : b < N) : ZipAp (N + 4) (N + 2) (N + 3) N (N + 1) a b :=
  ⟨zip_sep2 (fp1 := [a]) (fp2 := [b]) (fun c hc => by rw [List.mem_singleton.mp hc]; exact ha) (fun c hc => by rw [List.mem_singleton.mp hc]; exact hb), Nat.ne_of_lt ha, Nat.ne_of_lt (Nat.lt_succ_of_lt hb)⟩
section
variable {X : Cx} {pins : List (Addr × Obj)} {σ : L2.St} {H : Hp} {s : Shared} {z TI TO i1 i2 a b : Addr} {i : Nat} {A : Around} {E : Value → Shared → Prop} {xs ys : List V}
/-- a turn, the pair tracked -/
theorem zip_turn (hh : A.handled = none) (D : ZipAp z TI TO i1 i2 a b) (I : Inv X pins σ H s) (hf : ∀ c ∈ [z, TI, TO, i1, i2], FpOk X pins H c) (st : ZipSt z TI TO i1 i2 a b i s.heap) (hx : SqT X.K H a xs) (hy : SqT X.K H b ys) {x y : V} (ex : xs[i]? = some x) (ey : ys[i]? = some y)
    {Q : Option Value → Shared → Prop} (q : ∀ T s', H T = none → Inv X pins σ (upd H T (.tup [x, y])) s' → ZipSt z TI TO i1 i2 a b (i + 1) s'.heap → (∀ c ∈ [z, TI, TO, i1, i2], (upd H T (.tup [x, y])) c = none) → (∀ c o, c ∉ [z, TI, TO, i1, i2] → s.heap.get? c = some o → s'.heap.get? c = some o) → T = s.heap.objs.size → Q (some (.ref T)) s') :
    wpAny (model X.prog X.w) A (pyNext (.ref z)) Q E s := by
  obtain ⟨⟨f0, f1, ok, hz⟩, hTI, ⟨x0, y0, hTO⟩, h1, h2⟩ := st
  obtain ⟨its, rv, p, _⟩ := I.tuple hx
  obtain ⟨its2, rv2, p2, _⟩ := I.tuple hy
  obtain ⟨u, hu, ru⟩ := rv.get ex
  obtain ⟨u2, hu2, ru2⟩ := rv2.get ey
  have zl : z < s.heap.objs.size := Heap.lt_size hz
  have l1 : i < its.toArray.size := by
    have := (List.getElem?_eq_some_iff.mp hu).1
    simpa using this
  have l2 : i < its2.toArray.size := by
    have := (List.getElem?_eq_some_iff.mp hu2).1
    simpa using this
  refine next_zip D.sep (Draws.tuple (A := A.in1) hh i1 a D.a1 its.toArray) (Draws.tuple (A := A.in1) hh i2 b D.b2 its2.toArray) hz ok hTI hTO ⟨h1, show s.heap.IsTuple a its.toArray from p⟩ ⟨h2, show s.heap.IsTuple b its2.toArray from p2⟩ l1 l2 fun v1 v2 h' tk g0 g1 b1 b2 e1 e2 ok' hz' hTO' t1 t2 hT sz k => ?_
  have ev1 : v1 = u := by
    have : its.toArray[i]? = some u := by simpa using hu
    exact Option.some.inj (e1.symm.trans this)
  have ev2 : v2 = u2 := by
    have : its2.toArray[i]? = some u2 := by simpa using hu2
    exact Option.some.inj (e2.symm.trans this)
  subst ev1 ev2
  have new : ObjOk X.prog X.w (upd H s.heap.objs.size (.tup [x, y])) h' s.heap.objs.size (.tup [x, y]) := ⟨by show 2 ≤ sizeLine; decide, [v1, v2], .cons ru (.cons ru2 .nil), ⟨_, hT, rfl, _, rfl⟩⟩
  have kk : ∀ c o, c ∉ [z, TI, TO, i1, i2] → s.heap.get? c = some o → h'.get? c = some o := fun c o hc e => k c o (fun q => hc (by simp [q])) (fun q => hc (by simp [q])) (fun q => hc (by simp [q])) (fun q => hc (by simp [q])) e
  have I1 : Inv X pins σ (upd H s.heap.objs.size (.tup [x, y])) { s with heap := h', toks := tk } := I.turnedNew (t' := tk) (ch := [z, TI, TO, i1, i2]) kk hf (Nat.le_refl _) new
  have lt : ∀ c ∈ [z, TI, TO, i1, i2], c < s.heap.objs.size := fun c hc => by
    have e' : c = z ∨ c = TI ∨ c = TO ∨ c = i1 ∨ c = i2 := by simpa using hc
    rcases e' with q | q | q | q | q
    · rw [q]; exact zl
    · rw [q]; exact Heap.lt_size hTI
    · rw [q]; exact Heap.lt_size hTO
    · rw [q]; obtain ⟨_, e1, _⟩ := h1; exact Heap.lt_size e1
    · rw [q]; obtain ⟨_, e1, _⟩ := h2; exact Heap.lt_size e1
  exact q _ _ (I.hok.fresh (Nat.le_refl _)) I1 ⟨⟨g0, g1, ok', hz'⟩, k _ _ D.sep.TIz D.sep.TITO D.sep.TIi1 D.sep.TIi2 hTI, ⟨b1, b2, hTO'⟩, t1.1, t2.1⟩
    (fun c hc => by rw [upd_ne (Nat.ne_of_lt (lt c hc))]; exact (hf c hc).1) kk rfl
theorem zip_over (hh : A.handled = none) (D : ZipAp z TI TO i1 i2 a b) (I : Inv X pins σ H s) (hf : ∀ c ∈ [z, TI, TO, i1, i2], FpOk X pins H c) (st : ZipSt z TI TO i1 i2 a b i s.heap) (hx : SqT X.K H a xs) (hy : SqT X.K H b ys) (le1 : i ≤ xs.length) (le2 : i ≤ ys.length) (he : i = xs.length ∨ i = ys.length)
    {Q : Option Value → Shared → Prop} (q : ∀ s', Inv X pins σ H s' → (∀ c o, c ∉ [z, TI, TO, i1, i2] → s.heap.get? c = some o → s'.heap.get? c = some o) → Q none s') :
    wpAny (model X.prog X.w) A (pyNext (.ref z)) Q E s := by
  obtain ⟨⟨f0, f1, ok, hz⟩, hTI, ⟨x0, y0, hTO⟩, h1, h2⟩ := st
  obtain ⟨its, rv, p, _⟩ := I.tuple hx
  obtain ⟨its2, rv2, p2, _⟩ := I.tuple hy
  have l1 := rv.length
  have l2 := rv2.length
  refine next_zip_end D.sep (Draws.tuple (A := A.in1) hh i1 a D.a1 its.toArray) (Draws.tuple (A := A.in1) hh i2 b D.b2 its2.toArray) hz ok hTI hTO ⟨h1, show s.heap.IsTuple a its.toArray from p⟩ ⟨h2, show s.heap.IsTuple b its2.toArray from p2⟩ (by simp; omega) (by simp; omega) (by simp; omega) fun h' tk k => ?_
  have kk : ∀ c o, c ∉ [z, TI, TO, i1, i2] → s.heap.get? c = some o → h'.get? c = some o := fun c o hc e => k c o (fun q => hc (by simp [q])) (fun q => hc (by simp [q])) (fun q => hc (by simp [q])) (fun q => hc (by simp [q])) e
  exact q _ (I.turnedL (t' := tk) (ch := [z, TI, TO, i1, i2]) kk hf) kk
end
theorem turn_zipN {P : Program} {w : World} {K : PySem.W.Frag} {tg : Expr} {a b z TI TO i1 i2 : Addr} (D : ZipAp z TI TO i1 i2 a b) (ht : ∀ it v, letOwnedTupleGo tg it v = pure ()) :
    Turn P w K tg (ItzN K a b) [z, TI, TO, i1, i2] z (ZipSt z TI TO i1 i2 a b) where
  mem := by simp
  obj := fun i h st c hc => by
    obtain ⟨⟨f0, f1, ok, hz⟩, hTI, ⟨x, y, hTO⟩, ⟨o1, e1, _, d1⟩, ⟨o2, e2, _, d2⟩⟩ := st
    have e' : c = z ∨ c = TI ∨ c = TO ∨ c = i1 ∨ c = i2 := by simpa using hc
    rcases e' with q | q | q | q | q
    · rw [q]; exact ⟨_, hz, fun v q => nomatch q⟩
    · rw [q]; exact ⟨_, hTI, fun v q => nomatch q⟩
    · rw [q]; exact ⟨_, hTO, fun v q => nomatch q⟩
    · rw [q]; exact ⟨o1, e1, fun v q => by rw [d1] at q; cases q⟩
    · rw [q]; exact ⟨o2, e2, fun v q => by rw [d2] at q; cases q⟩
  keep := fun i h h' st k => st.keep k
  item := by
    intro X hP hw hK hc i pins s σ H E I hf st hg
    subst hP hw hK
    obtain ⟨xs, ys, x, y, hqx, hqy, hx, hy⟩ := hg
    refine zip_turn (I.ok.hd hc) D I hf st hqx hqy hx hy fun T s' nT I' st' nf _ _ => ⟨_, rfl, ?_⟩
    rw [ht]
    exact wpAny_pure ⟨.ref T, _, I', rfl, ⟨T, x, y, rfl, nT, rfl, fun l hl => by rw [I.tuple_inj hl hqx]; exact hx, fun l hl => by rw [I.tuple_inj hl hqy]; exact hy⟩, st', nf⟩
  done := by
    intro X hP hw hK hc i pins s σ H E I hf st hg
    subst hP hw hK
    obtain ⟨xs, ys, hqx, hqy, le1, le2, he⟩ := hg
    exact zip_over (I.ok.hd hc) D I hf st hqx hqy le1 le2 he fun s' I' _ => ⟨rfl, I'⟩
  self := fun A i s Q E st h => by
    obtain ⟨⟨f0, f1, _, hz⟩, _⟩ := st
    exact iter_zip hz h
/-- for p in zip(a, b), two tuples -/
def iZipN (K : PySem.W.Frag) (ta : TA) : TI := fun σ H R => ta σ H fun vs H1 => ∃ a b xs ys, vs = [.ref a, .ref b] ∧ SqT K H1 a xs ∧ SqT K H1 b ys ∧ R (ItzN K a b) H1
section
variable {X : Cx}
/-- the zip is made -/
theorem zip_made {pins : List (Addr × Obj)} {σ : L2.St} {H : Hp} {s : Shared} {a b : Addr} {xs ys : List V} {Q : Value → Shared → Prop} {A : Around} {E : Value → Shared → Prop} (I : Inv X pins σ H s) (hx : SqT X.K H a xs) (hy : SqT X.K H b ys)
    (q : ∀ z TI TO i1 i2 s', ZipAp z TI TO i1 i2 a b → Inv X pins σ H s' → ZipSt z TI TO i1 i2 a b 0 s'.heap → (∀ c ∈ [z, TI, TO, i1, i2], FpOk X pins H c) → (∀ c o, s.heap.get? c = some o → s'.heap.get? c = some o) → Q (.ref z) s') :
    wpAny (model X.prog X.w) A (call (.type "zip") [.ref a, .ref b]) Q E s := by
  obtain ⟨its, rv, p1, _⟩ := I.tuple hx
  obtain ⟨its2, rv2, p2, _⟩ := I.tuple hy
  have al : a < s.heap.objs.size := by
    obtain ⟨o, m, _⟩ := id p1
    exact Heap.lt_size m
  have bl : b < s.heap.objs.size := by
    obtain ⟨o, m, _⟩ := id p2
    exact Heap.lt_size m
  refine zip_begins2 (begins_tuple a its.toArray) (begins_tuple b its2.toArray) (show s.heap.IsTuple a its.toArray from p1) (show s.heap.IsTuple b its2.toArray from p2) fun h' hz hTI hTO h1 h2 sz k => ?_
  refine q _ _ _ _ _ _ (zip_ap al bl) (I.kept (t' := s.toks) k) ⟨⟨_, _, .free false, hz⟩, hTI, ⟨_, _, hTO⟩, ⟨_, h1, rfl, rfl⟩, ⟨_, h2, rfl, rfl⟩⟩ (fun c hc => ?_) k
  have e' : c = s.heap.objs.size + 4 ∨ c = s.heap.objs.size + 2 ∨ c = s.heap.objs.size + 3 ∨ c = s.heap.objs.size ∨ c = s.heap.objs.size + 1 := by simpa using hc
  have hle : s.heap.objs.size ≤ c := by
    rcases e' with z | z | z | z | z
    · rw [z]; exact Nat.le_add_right _ _
    · rw [z]; exact Nat.le_add_right _ _
    · rw [z]; exact Nat.le_add_right _ _
    · rw [z]; exact Nat.le_refl _
    · rw [z]; exact Nat.le_add_right _ _
  exact I.fpOk hle (I.hok.fresh hle)
theorem pi_zipN {e e2 : Expr} {ta : TA} {p pos : Pos} {x : Str} {pt : Pos} (hg : Gl X "zip") (hm : X.mg "zip" = none) (ha : PA X [e, e2] ta)
    (hs : starEach [e, e2] X.env = (false, eval e X.env) :: starEach [e2] X.env := by rfl) (hpl : (backTo pos (starEach [e2] X.env)).any (·.1) = false := by rfl) :
    PI X (.Name x pt) (.Call (.Name "zip" p) [e, e2] [] pos) (iZipN X.K ta) := by
  refine ⟨fun pins s σ H R I h => ?_⟩
  refine Call_ (ld_blt I hg hm PyProof.Rows.boot_zip (PyProof.Rows.callWith_type1 (thn (ha.run pos pins s σ H _ I h) fun us s1 ⟨vs, H1, I1, r1, q1⟩ => ?_) hs hpl))
  obtain ⟨a, b, xs, ys, ex, hx, hy, q1⟩ := q1
  subst ex
  cases r1 with
  | cons r rr =>
    cases rr with
    | cons r' rr =>
      cases rr
      cases r
      cases r'
      refine zip_made I1 hx hy fun z TI TO i1 i2 s' D I' st hf _ => ?_
      obtain ⟨⟨f0, f1, _, hz⟩, _⟩ := id st
      exact iter_zip hz ⟨z, _, _, _, H1, rfl, I', turn_zipN D fun _ _ => rfl, st, hf, q1⟩
end
/-- a comprehension over the pairs -/
theorem zip_itN {K : PySem.W.Frag} {a b : Addr} {xs ys : List V} {n : Nat} {g : TG} {tt : TT} {te : TE} {vs : List Nat} {σ : L2.St} {H1 : Hp} {D : Addr} {Qd : Hp → Prop} (hn : n ≤ xs.length) (hn2 : n ≤ ys.length) (he : n = xs.length ∨ n = ys.length) (Pv : Nat → Hp → Prop) (h0 : Pv 0 (upd H1 D (.lst []))) (hl : ∀ i H, Pv i H → SqT K H a xs ∧ SqT K H b ys)
    (hs : ∀ i x y H T, xs[i]? = some x → ys[i]? = some y → Pv i H → H T = none → g (.ref T) (wipe σ vs) (upd H T (.tup [x, y])) fun σ2 H2 => wipe σ2 vs = wipe σ vs ∧ tt σ2 H2 fun b H3 =>
      if b = true then te σ2 H3 fun y H4 => ∃ acc, H4 D = some (.lst acc) ∧ acc.length < sizeLine ∧ Pv (i + 1) (upd H4 D (.lst (acc ++ [y]))) else Pv (i + 1) H3) (hd : ∀ H, Pv n H → Qd H) :
    ∃ W : Nat → Nat → Hp → Prop, (∃ m, W 0 m (upd H1 D (.lst []))) ∧ ∀ i m H, W i m H →
      ((ItzN K a b).stop i H ∧ Qd H) ∨ ((ItzN K a b).go i H ∧ ∃ Nx : Hp → Prop, (∀ H', Nx H' → ∃ m', m' < m ∧ W (i + 1) m' H') ∧ ∀ v H', (ItzN K a b).yld i H v H' → g v (wipe σ vs) H' fun σ2 H2 => wipe σ2 vs = wipe σ vs ∧ tt σ2 H2 fun b H3 =>
        if b = true then te σ2 H3 fun y H4 => ∃ acc, H4 D = some (.lst acc) ∧ acc.length < sizeLine ∧ Nx (upd H4 D (.lst (acc ++ [y]))) else Nx H3) := by
  refine ⟨fun i m H => m = n - i ∧ i ≤ n ∧ Pv i H, ⟨n, by simp, Nat.zero_le _, h0⟩, fun i m H ⟨em, hi, p⟩ => ?_⟩
  obtain ⟨q1, q2⟩ := hl i H p
  by_cases lt : i < n
  · refine .inr ⟨⟨xs, ys, xs[i]'(by omega), ys[i]'(by omega), q1, q2, by simp, by simp⟩, Pv (i + 1), fun H' p' => ⟨n - (i + 1), by omega, rfl, lt, p'⟩, fun v H' ⟨T, x, y, ev, nT, eH, hx, hy⟩ => ?_⟩
    rw [ev, eH]
    exact hs i x y H T (hx xs q1) (hy ys q2) p nT
  · have e : i = n := by omega
    rw [e] at p ⊢
    exact .inl ⟨⟨xs, ys, q1, q2, hn, hn2, he⟩, hd H p⟩
end Far

namespace Far
open PySem PySem.Spec PyProof.Rows L2
section
variable {prog : Program} {w : World} {z TI TO i1 i2 : Addr} {fp1 fp2 : List Addr} {n1 n2 : Nat} {P1 P2 : Nat → Value → Prop} {St1 St2 : Nat → Heap → Prop}
/-- a zip over any two, as it goes -/
def ZipOn (z TI TO i1 i2 : Addr) (St1 St2 : Nat → Heap → Prop) (i : Nat) (h : Heap) : Prop :=
  (∃ f0 f1, ZipOut f0 f1 ∧ ZipAt h z TI TO f0 f1) ∧ IsTupOf2 h TI (.ref i1) (.ref i2) ∧ (∃ x y, IsTupOf2 h TO x y) ∧ St1 i h ∧ St2 i h
/-- zip(a, b) as what dict() is given -/
theorem zipArg (A0 : Around) (hA0 : A0.handled = none) (S : ZipSep2 z TI TO i1 i2 fp1 fp2) (D1 : ∀ A : Around, A.handled = none → Draws prog w A i1 fp1 n1 P1 St1) (D2 : ∀ A : Around, A.handled = none → Draws prog w A i2 fp2 n2 P2 St2)
    (t1 : ∀ i h, St1 i h → ∀ c ∈ fp1, ∃ o, h.get? c = some o) (t2 : ∀ i h, St2 i h → ∀ c ∈ fp2, ∃ o, h.get? c = some o) :
    PairArg prog w "zip" z (z :: TI :: TO :: (fp1 ++ fp2)) [z, TO, i1, i2] (min n1 n2) (fun i k v => P1 i k ∧ P2 i v) (ZipOn z TI TO i1 i2 St1 St2 0) where
  type := fun s ok => by
    obtain ⟨⟨f0, f1, _, hz⟩, _⟩ := ok
    exact ⟨_, hz, rfl⟩
  notDict := by decide
  keep := fun h h' ok k => by
    obtain ⟨⟨f0, f1, ok, hz⟩, hTI, ⟨x, y, hTO⟩, st1, st2⟩ := ok
    exact ⟨⟨f0, f1, ok, k _ _ hz⟩, k _ _ hTI, ⟨x, y, k _ _ hTO⟩, (D1 A0 hA0).frame _ _ _ st1 fun b _ o e => k b o e, (D2 A0 hA0).frame _ _ _ st2 fun b _ o e => k b o e⟩
  there := fun h ok c hc => by
    obtain ⟨⟨f0, f1, _, hz⟩, hTI, ⟨x, y, hTO⟩, st1, st2⟩ := ok
    rcases List.mem_cons.mp hc with q | hc
    · exact ⟨_, q ▸ hz⟩
    rcases List.mem_cons.mp hc with q | hc
    · exact ⟨_, q ▸ hTI⟩
    rcases List.mem_cons.mp hc with q | hc
    · exact ⟨_, q ▸ hTO⟩
    rcases List.mem_append.mp hc with q | q
    · exact t1 _ _ st1 c q
    · exact t2 _ _ st2 c q
  sub := fun c hc => by
    have hc' : c = z ∨ c = TO ∨ c = i1 ∨ c = i2 := by simpa using hc
    have m1 := S.mem1
    have m2 := S.mem2
    rcases hc' with q | q | q | q <;> rw [q]
    · exact List.mem_cons_self ..
    · exact List.mem_cons_of_mem _ (List.mem_cons_of_mem _ (List.mem_cons_self ..))
    · exact List.mem_cons_of_mem _ (List.mem_cons_of_mem _ (List.mem_cons_of_mem _ (List.mem_append_left _ m1)))
    · exact List.mem_cons_of_mem _ (List.mem_cons_of_mem _ (List.mem_cons_of_mem _ (List.mem_append_right _ m2)))
  noKeys := fun A s Q E hA ok h => by
    obtain ⟨⟨f0, f1, _, hz⟩, _⟩ := ok
    exact getAttrOr_miss_zip hz rfl rfl rfl zip_no_keys (by decide +kernel) hA h
  iter := fun A s d Q E hA ok dl df h => by
    have ok0 := ok
    obtain ⟨⟨f0, f1, _, hz⟩, _⟩ := ok0
    have dz : d ≠ z := fun e => df (by rw [e]; exact List.mem_cons_self ..)
    have dTI : d ≠ TI := fun e => df (by rw [e]; exact List.mem_cons_of_mem _ (List.mem_cons_self ..))
    have dTO : d ≠ TO := fun e => df (by rw [e]; exact List.mem_cons_of_mem _ (List.mem_cons_of_mem _ (List.mem_cons_self ..)))
    have d1 : ∀ c ∈ fp1, c ≠ d := fun c hc e => df (by rw [← e]; exact List.mem_cons_of_mem _ (List.mem_cons_of_mem _ (List.mem_cons_of_mem _ (List.mem_append_left _ hc))))
    have d2 : ∀ c ∈ fp2, c ≠ d := fun c hc e => df (by rw [← e]; exact List.mem_cons_of_mem _ (List.mem_cons_of_mem _ (List.mem_cons_of_mem _ (List.mem_append_right _ hc))))
    refine iter_zip hz (h z [z, TO, i1, i2] (ZipOn z TI TO i1 i2 St1 St2) s.heap s.toks ?_ ok (fun _ _ e => e) fun c hc => .inl hc)
    exact {
      off := fun hm => by
        have hc' : d = z ∨ d = TO ∨ d = i1 ∨ d = i2 := by simpa using hm
        rcases hc' with q | q | q | q
        · exact dz q
        · exact dTO q
        · exact d1 _ S.mem1 q.symm
        · exact d2 _ S.mem2 q.symm
      frame := fun i h1 h2 st k => by
        obtain ⟨⟨f0, f1, ok, hz⟩, hTI, ⟨x, y, hTO⟩, st1, st2⟩ := st
        exact ⟨⟨f0, f1, ok, k _ _ (Ne.symm dz) hz⟩, k _ _ (Ne.symm dTI) hTI, ⟨x, y, k _ _ (Ne.symm dTO) hTO⟩, (D1 A hA).frame _ _ _ st1 fun b hb o e => k b o (d1 b hb) e, (D2 A hA).frame _ _ _ st2 fun b hb o e => k b o (d2 b hb) e⟩
      item := fun i s1 Q1 E1 hi st _ hQ => by
        obtain ⟨⟨f0, f1, ok, hz⟩, hTI, ⟨x, y, hTO⟩, st1, st2⟩ := st
        refine next_zip S (D1 A.in1 hA) (D2 A.in1 hA) hz ok hTI hTO st1 st2 (by omega) (by omega) fun x1 x2 h' tk g0 g1 b1 b2 p1 p2 ok' hz' hTO' u1 u2 hT _ k => ?_
        exact hQ _ x1 x2 h' tk ⟨p1, p2⟩ (.inl ⟨_, hT, rfl, _, rfl⟩) ⟨⟨g0, g1, ok', hz'⟩, k _ _ S.TIz S.TITO S.TIi1 S.TIi2 hTI, ⟨b1, b2, hTO'⟩, u1, u2⟩
          fun c o hc e => k c o (fun q => hc (by simp [q])) (fun q => hc (by simp [q])) (fun q => hc (by simp [q])) (fun q => hc (by simp [q])) e
      done := fun s1 Q1 E1 st hQ => by
        obtain ⟨⟨f0, f1, ok, hz⟩, hTI, ⟨x, y, hTO⟩, st1, st2⟩ := st
        exact next_zip_end S (D1 A.in1 hA) (D2 A.in1 hA) hz ok hTI hTO st1 st2 (by omega) (by omega) (by omega) fun h' tk k => hQ h' tk fun c o hc e =>
          k c o (fun q => hc (by simp [q])) (fun q => hc (by simp [q])) (fun q => hc (by simp [q])) (fun q => hc (by simp [q])) e }
end
section
variable {X : Cx}
theorem keys_of {P : Program} {w : World} : ∀ {kvs : List (Key × V)} {us vs : List Value}, Vals (kvs.map fun k => kV k.1) us → Vals (kvs.map (·.2)) vs → ∃ prs : List (Key × Value), KV kvs prs ∧ prs.length = kvs.length ∧ ∀ (i : Nat) (u v : Value), us[i]? = some u → vs[i]? = some v → ∃ k, prs[i]? = some (k, v) ∧ (mixKind P w).is k u = true
  | [], _, _, .nil, .nil => ⟨[], .nil, rfl, fun i u v e _ => by simp at e⟩
  | kv :: r, u :: us, v :: vs, .cons h1 t1, .cons h2 t2 => by
    obtain ⟨prs, a, b, c⟩ := keys_of (P := P) (w := w) (kvs := r) t1 t2
    refine ⟨(kv.1, v) :: prs, .cons ⟨rfl, h2⟩ a, by rw [List.length_cons, List.length_cons, b], fun i u' v' e1 e2 => ?_⟩
    cases i with
    | zero =>
      obtain rfl : u = u' := Option.some.inj e1
      obtain rfl : v = v' := Option.some.inj e2
      exact ⟨kv.1, rfl, kV_is (P := P) (w := w) h1⟩
    | succ i =>
      obtain ⟨k, f1, f2⟩ := c i u' v' (by simpa using e1) (by simpa using e2)
      exact ⟨k, by simpa using f1, f2⟩
/-- dict(zip(a, b)), two tuples of one length -/
def tDictZip2 (K : PySem.W.Frag) (ta : TA) : TE := fun σ H Q => ta σ H fun vs H1 => ∃ (a b : Addr) (kvs : List (Key × V)), vs = [.ref a, .ref b] ∧ SqT K H1 a (kvs.map fun k => kV k.1) ∧ SqT K H1 b (kvs.map (·.2)) ∧ ∀ q, H1 q = none → Q (.ref q) (upd H1 q (.dK (mergeK [] kvs)))
theorem pe_dictZip2 (K : PySem.W.Frag) (eK : X.K = K) (hc : X.calm = true) {e e2 : Expr} {ta : TA} {p p2 q pos : Pos} (hg : Gl X "dict") (hm : X.mg "dict" = none) (bt : bootBuiltins "dict" = some (.type "dict")) (hg2 : Gl X "zip") (hm2 : X.mg "zip" = none) (ha : PA X [e, e2] ta)
    (hs : starEach [e, e2] X.env = (false, eval e X.env) :: starEach [e2] X.env := by rfl) (hpl : (backTo q (starEach [e2] X.env)).any (·.1) = false := by rfl)
    (hso : starEach [.Call (.Name "zip" p2) [e, e2] [] q] X.env = (false, eval (.Call (.Name "zip" p2) [e, e2] [] q) X.env) :: starEach [] X.env := by rfl) :
    PE X (.Call (.Name "dict" p) [.Call (.Name "zip" p2) [e, e2] [] q] [] pos) (tDictZip2 K ta) := by
  subst eK
  refine ⟨fun pins s σ H Q I h => ?_⟩
  refine Call_ (ld_blt I hg hm bt ?_)
  refine PyProof.Rows.callWith_type1 (PyProof.Rows.args_cons ?_ hso) hso rfl
  refine Call_ (ld_blt I hg2 hm2 PyProof.Rows.boot_zip (PyProof.Rows.callWith_type1 (thn (ha.run q pins s σ H _ I h) fun us s1 ⟨vs, H1, I1, r1, q1⟩ => ?_) hs hpl))
  obtain ⟨a, b, kvs, ex, hx, hy, q1⟩ := q1
  subst ex
  cases r1 with
  | cons r rr =>
    cases rr with
    | cons r' rr =>
      cases rr
      cases r
      cases r'
      obtain ⟨its, rv, p1, _⟩ := I1.tuple hx
      obtain ⟨its2, rv2, p2', hz2⟩ := I1.tuple hy
      have al : a < s1.heap.objs.size := by
        obtain ⟨o, m, _⟩ := id p1
        exact Heap.lt_size m
      have bl : b < s1.heap.objs.size := by
        obtain ⟨o, m, _⟩ := id p2'
        exact Heap.lt_size m
      have l1 := rv.length
      have l2 := rv2.length
      rw [List.length_map] at l1 l2
      obtain ⟨prs, rel, pl, pk⟩ := keys_of (P := X.prog) (w := X.w) rv rv2
      refine zip_begins2 (begins_tuple a its.toArray) (begins_tuple b its2.toArray) (show s1.heap.IsTuple a its.toArray from p1) (show s1.heap.IsTuple b its2.toArray from p2') fun h' hz hTI hTO h1 h2 sz k => ?_
      refine PyProof.Rows.args_nil ?_
      have I2 : Inv X pins σ H1 { s1 with heap := h' } := I1.kept (t' := s1.toks) k
      have S := zip_sep2 (N := s1.heap.objs.size) (fp1 := [a]) (fp2 := [b]) (fun c hc => by rw [List.mem_singleton.mp hc]; exact al) (fun c hc => by rw [List.mem_singleton.mp hc]; exact bl)
      have P := zipArg (prog := X.prog) (w := X.w) X.A (I2.ok.hd hc) S (n1 := its.toArray.size) (n2 := its2.toArray.size) (fun A hA => Draws.tuple (A := A) hA s1.heap.objs.size a (Nat.ne_of_lt al) its.toArray) (fun A hA => Draws.tuple (A := A) hA (s1.heap.objs.size + 1) b (Nat.ne_of_lt (Nat.lt_succ_of_lt bl)) its2.toArray)
        (fun i h st c hc => by
          rcases List.mem_cons.mp hc with q | q
          · obtain ⟨o, m, _⟩ := st.1
            exact ⟨o, q ▸ m⟩
          · obtain ⟨o, m, _⟩ := st.2
            exact ⟨o, (List.mem_singleton.mp q) ▸ m⟩)
        (fun i h st c hc => by
          rcases List.mem_cons.mp hc with q | q
          · obtain ⟨o, m, _⟩ := st.1
            exact ⟨o, q ▸ m⟩
          · obtain ⟨o, m, _⟩ := st.2
            exact ⟨o, (List.mem_singleton.mp q) ▸ m⟩)
      have z1 : its.toArray.size = kvs.length := by simp; omega
      have z2 : its2.toArray.size = kvs.length := by simp; omega
      have ff : ∀ c ∈ [s1.heap.objs.size + 4, s1.heap.objs.size + 3, s1.heap.objs.size, s1.heap.objs.size + 1], FpOk X pins H1 c := fun c hc => by
        have e' : c = s1.heap.objs.size + 4 ∨ c = s1.heap.objs.size + 3 ∨ c = s1.heap.objs.size ∨ c = s1.heap.objs.size + 1 := by simpa using hc
        have hle : s1.heap.objs.size ≤ c := by
          rcases e' with z | z | z | z
          · rw [z]; exact Nat.le_add_right _ _
          · rw [z]; exact Nat.le_add_right _ _
          · rw [z]; exact Nat.le_refl _
          · rw [z]; exact Nat.le_add_right _ _
        exact I1.fpOk hle (I1.hok.fresh hle)
      refine PySem.call_dict_pairs (s := { s1 with heap := h' }) (knd := mixKind X.prog X.w) (kvs := prs) P (I2.ok.hd hc) ⟨⟨_, _, .free false, hz⟩, hTI, ⟨_, _, hTO⟩, ⟨⟨_, h1, rfl, rfl⟩, (show s1.heap.IsTuple a its.toArray from p1).at fun o e => k _ o e⟩, ⟨⟨_, h2, rfl, rfl⟩, (show s1.heap.IsTuple b its2.toArray from p2').at fun o e => k _ o e⟩⟩
        ⟨by rw [z1, z2, Nat.min_self]; exact pl, fun i key v e => pk i key v (by simpa using e.1) (by simpa using e.2)⟩ (by rw [z1, z2, Nat.min_self, ← List.length_map (f := fun x : Key × V => x.2)]; exact hz2) fun h3 tk hd kk => ?_
      have nm : (h'.objs.size == sysModules) = false := beq_eq_false_iff_ne.mpr (Nat.ne_of_gt I2.big)
      have hlen : (mergeK [] kvs).length ≤ sizeLine := by
        refine Nat.le_trans (length_mergeK kvs []) ?_
        rw [List.length_nil, Nat.zero_add, ← List.length_map (f := fun x : Key × V => x.2)]
        exact hz2
      have nH : H1 h'.objs.size = none := I2.hok.fresh (Nat.le_refl _)
      exact ⟨.ref h'.objs.size, upd H1 h'.objs.size (.dK (mergeK [] kvs)), I2.turnedNew (t' := tk) (ch := [s1.heap.objs.size + 4, s1.heap.objs.size + 3, s1.heap.objs.size, s1.heap.objs.size + 1]) (fun c o hc e => kk c o hc e) ff (Nat.le_refl _)
        (show ObjOk X.prog X.w _ _ _ (.dK (mergeK [] kvs)) from ⟨hlen, nm, PySem.merged [] prs, KV.merge rel .nil, hd⟩), rfl, q1 _ nH⟩
end
/-- t < u, tuples of whole numbers -/
def lexLt : List Int → List Int → Bool
  | _, [] => false
  | [], _ :: _ => true
  | x :: xs, y :: ys => if x = y then lexLt xs ys else decide (x < y)
def rLtT (K : PySem.W.Frag) : R2 := fun x y H Q => ∃ (a b : Addr) (ns ms : List Int), x = .ref a ∧ y = .ref b ∧ SqT K H a (ns.map V.int) ∧ SqT K H b (ms.map V.int) ∧
  Q (.bl (Ob.lexAt (fun j => decide (ns.getD j 0 = ms.getD j 0)) (fun j => decide (ns.getD j 0 < ms.getD j 0)) (decide (ns.length < ms.length)) 0 (min ns.length ms.length))) H
theorem op_ltT {X : Cx} (hu : X.A.units < cLine) : OpR X (compareOp .Lt) (rLtT X.K) := by
  intro pins s σ H x y v u Q I rx ry h
  obtain ⟨a, b, ns, ms, rfl, rfl, ha, hb, q⟩ := h
  cases rx
  cases ry
  obtain ⟨l1, r1, p1, _⟩ := I.tuple ha
  obtain ⟨l2, r2, p2, _⟩ := I.tuple hb
  have i1 : IntsAre l1 ns := Vals.ints r1
  have i2 : IntsAre l2 ms := Vals.ints r2
  have e1 : l1.toArray.size = ns.length := (List.size_toArray ..).trans i1.length
  have e2 : l2.toArray.size = ms.length := (List.size_toArray ..).trans i2.length
  have at1 : ∀ j (q : j < l1.toArray.size), ∃ t, l1.toArray[j] = .int (ns.getD j 0) t := fun j q => IntsAre.int_at i1 _ _ (by simp at q; simp [q])
  have at2 : ∀ j (q : j < l2.toArray.size), ∃ t, l2.toArray[j] = .int (ms.getD j 0) t := fun j q => IntsAre.int_at i2 _ _ (by simp at q; simp [q])
  have R := Ob.RcOp.tuples_lt (s := s) (A := X.A) (r := fun j => decide (ns.getD j 0 < ms.getD j 0)) (e := fun j => decide (ns.getD j 0 = ms.getD j 0)) p1 p2 hu (fun j q1 q2 => by
    obtain ⟨t, c1⟩ := at1 j q1
    obtain ⟨t', c2⟩ := at2 j q2
    have z : (ns.getD j 0 == ms.getD j 0) = decide (ns.getD j 0 = ms.getD j 0) := by
      by_cases c : ns.getD j 0 = ms.getD j 0
      · exact (beq_iff_eq.mpr c).trans (decide_eq_true c).symm
      · exact (beq_eq_false_iff_ne.mpr c).trans (decide_eq_false c).symm
    rw [c1, c2, ← z]
    exact SeqAt.EqAt.int_int _ _ _ _) (fun j q1 q2 _ => by
    obtain ⟨t, c1⟩ := at1 j q1
    obtain ⟨t', c2⟩ := at2 j q2
    rw [c1, c2]
    exact Ob.RcOp.lt_int _ _ _ _)
  rw [e1, e2] at R
  exact R X.prog X.w X.xe (EP X pins σ Q) ⟨.bl _, H, I, rfl, q⟩
end Far

namespace Far
open PySem PySem.Spec PyProof.Rows PyProof.V L2
theorem kv_vals17 : ∀ {kvs : List (Key × V)} {vs : List (Key × Value)}, KV kvs vs → Vals (kvs.map (·.2)) (vs.map (·.2))
  | [], [], .nil => .nil
  | _ :: _, _ :: _, .cons h t => .cons h.2 (kv_vals17 t)
/-- max(d.values()), the values whole numbers -/
def tMaxVals (te : TE) : TE := fun σ H Q => te σ H fun x H1 => ∃ (d : Addr) (kvs : List (Key × V)) (ns : List Int), x = .ref d ∧ H1 d = some (.dK kvs) ∧ kvs.map (·.2) = ns.map V.int ∧ 0 < ns.length ∧ ∀ m, m ∈ ns → (∀ y, y ∈ ns → y ≤ m) → Q (.int m) H1
theorem pe_maxVals {X : Cx} {e : Expr} {te : TE} {p pos apos cpos : Pos} (hc : X.calm = true) (he : PE X e te) (hg : Gl X "max") (hm : X.mg "max" = none) (hv : bootBuiltins "max" = some (.builtin "max"))
    (hbase : attributeBase e "values" X.env (eval e X.env) = eval e X.env := by rfl) (hline : (apos.endLine == cpos.line) = true := by rfl)
    (hs : starEach [.Call (.Attribute e "values" apos) [] [] cpos] X.env = (false, eval (.Call (.Attribute e "values" apos) [] [] cpos) X.env) :: starEach [] X.env := by rfl) :
    PE X (.Call (.Name "max" p) [.Call (.Attribute e "values" apos) [] [] cpos] [] pos) (tMaxVals te) := by
  refine ⟨fun pins s σ H Q I hq => ?_⟩
  refine wpAny_Call_Name_kw (ld_blt I hg hm hv ?_)
  refine PyProof.Rows.callWith_builtin1 ?_ hs rfl
  rw [hs]
  show wpAny _ _ (spliced ((false, eval (.Call (.Attribute e "values" apos) [] [] cpos) X.env) :: backTo pos (starEach [] X.env))) _ _ s
  refine Calls.spliced_cons ?_
  refine wpAny_Call_method (T := "dict") (id := "dict.values") hbase rfl hline F.plainAttrs_dict F.slot_dict_values F.type_dict_values (thn (he.run pins s σ H _ I hq) fun u s1 ⟨x, H1, I1, rx, d, kvs, ns, ex, hd, en, n0, q⟩ => ?_)
  subst ex
  obtain rfl : u = Value.ref d := rx
  obtain ⟨hz, hs0, vs, kv, hdo⟩ := I1.hok d _ hd
  obtain ⟨ep, hat⟩ := hdo.dictAt
  have lk : kvs.length = vs.length := Paired.length kv
  have I2 : Inv X pins σ H1 { s1 with heap := s1.heap.push { cls := .type "dict_values", data := .fields #[.ref d] } } := I1.kept (t' := s1.toks) fun b ob q => Heap.get?_push_of_some _ q
  refine ⟨hdo.typeIs, hdo.mapOf.noDict, ?_⟩
  show wpAny _ _ (callWith cpos (.builtin "dict.values") [.ref d] [] []) _ X.xe s1
  refine method_meetsIn F.slot_dict_values F.entry_dict_values rfl (PySem.evalArgs_none ⟨rfl, hdo.typeIs, F.args_dict_values_1 _, _, meets_dict_values (mixKind X.prog X.w) d hs0, ⟨vs, hdo⟩, ?_⟩)
  refine Calls.spliced_nil ?_
  have rv := kv_vals17 kv
  rw [en] at rv
  have hi := rv.ints
  obtain ⟨xs, exs⟩ := hi.allInts.items
  have hn : numsOf (intItems xs).toList = ns := by rw [← exs]; exact hi.numsOf
  rw [nums_intItems] at hn
  subst hn
  have hz2 : 0 < xs.size := by simpa using n0
  have vx : vs.length = xs.size := by
    have := congrArg Array.size exs
    simpa [intItems] using this
  have hdl : d < s1.heap.objs.size := hat.lt_size
  refine call_max_walk (wpAny_pyIter_values (v := s1.heap.objs.size) (d := d) (kvs := vs) (ep := ep) ⟨_, Heap.get?_push_size _ rfl, rfl, rfl⟩ (hat.push _) ?_)
  have hI2 := I2.ok.hd hc
  have hat2 := hat.push { cls := .type "dict_values", data := .fields #[.ref d] }
  have dI : d ≠ (s1.heap.push { cls := .type "dict_values", data := .fields #[.ref d] }).objs.size := by
    rw [Heap.size_push]
    exact Nat.ne_of_lt (Nat.lt_succ_of_lt hdl)
  refine ⟨_, _, _, _, _, _, fun i j => decide (numAt xs i > numAt xs j), rfl, Walks.dictValues (A := X.A.in1) (I1.ok.hd hc) _ d dI vs ep, ⟨⟨_, Heap.get?_push_size _ rfl, rfl, rfl⟩, hat2.push _⟩, fun b hb => ?_, by omega, CmpOf.ints_gt (numAt xs) (fun i v hv => ?_), fun v h' tk hP hk => ?_⟩
  · show b < ((s1.heap.push _).push _).objs.size
    rw [Heap.size_push]
    rcases List.mem_cons.mp hb with rfl | hb
    · exact Nat.lt_succ_self _
    · rw [List.mem_singleton.mp hb, Heap.size_push]
      exact Nat.lt_succ_of_lt (Nat.lt_succ_of_lt hdl)
  · obtain ⟨k, hk⟩ := hv
    refine intItems_at (v := v) ?_
    rw [← exs, List.getElem?_toArray, List.getElem?_map, hk]
    rfl
  · obtain ⟨k, hk2⟩ := hP
    have e2 : (intItems xs)[argBest (fun i j => decide (numAt xs i > numAt xs j)) (vs.length - 1)]? = some v := by
      rw [← exs, List.getElem?_toArray, List.getElem?_map, hk2]
      rfl
    obtain ⟨t, rfl⟩ := intItems_at e2
    rw [vx]
    obtain ⟨h1, h2⟩ := argBest_gt (numAt xs) (xs.size - 1)
    refine ⟨.int _, H1, I2.kept (t' := tk) ?_, ⟨_, rfl⟩, q _ ?_ fun a ha => ?_⟩
    · exact fun b o' e => hk b o' (fun hb => absurd (Heap.lt_size e) ((List.mem_singleton.mp hb) ▸ Nat.lt_irrefl _)) (Heap.get?_push_of_some _ e)
    · rw [numAt_eq]
      exact PySem.getD_mem (by rw [List.length_map, Array.length_toList]; omega)
    · obtain ⟨j, hj, rfl⟩ := mem_getD ha
      rw [List.length_map, Array.length_toList] at hj
      rw [← numAt_eq]
      exact h2 j (by omega)
end Far

namespace Far
open PySem PySem.Spec PyProof.Rows L2
open SX (S)
/-! ### the greatest length -/
section
variable {pl : List Nm} {ts : List Tie}
theorem top_in (F : Fine pl ts) : (topT (0, pl.headD [], pl.headD []) (pairsOf pl ts)).2.1 ∈ pl ∧ (topT (0, pl.headD [], pl.headD []) (pairsOf pl ts)).2.2 ∈ pl ∧ (topT (0, pl.headD [], pl.headD []) (pairsOf pl ts)).1 = dist ts (topT (0, pl.headD [], pl.headD []) (pairsOf pl ts)).2.1 (topT (0, pl.headD [], pl.headD []) (pairsOf pl ts)).2.2 := by
  have hh : pl.headD [] ∈ pl := by
    cases hp : pl with
    | nil => exact absurd hp F.ne
    | cons a r => exact List.mem_cons_self ..
  rcases topT_is (pairsOf pl ts) (0, pl.headD [], pl.headD []) with ⟨h1, _⟩ | ⟨_, ⟨r', h2⟩, _⟩
  · rw [h1]
    exact ⟨hh, hh, (F.tree.dist_self _).1.symm⟩
  · generalize topT (0, pl.headD [], pl.headD []) (pairsOf pl ts) = m at h2
    have hm : m ∈ pairsOf pl ts := by
      have : m ∈ (pairsOf pl ts).filter fun x => x.1 == m.1 := by
        rw [h2]
        exact List.mem_cons_self ..
      exact (List.mem_filter.mp this).1
    exact mem_pairs hm
end
noncomputable def topOf (pl : List Nm) (ts : List Tie) : Tri := topT (0, pl.headD [], pl.headD []) (pairsOf pl ts)
/-- what middle_point tells -/
theorem pair_mem {pl : List Nm} {ts : List Tie} {i j : Nat} {x y : Nm} (hx : pl[i]? = some x) (hy : pl[j]? = some y) (ij : i < j) : (dist ts x y, x, y) ∈ pairsOf pl ts := by
  unfold pairsOf prs
  have il := (List.getElem?_eq_some_iff.mp hx).1
  refine List.mem_flatMap.mpr ⟨i, List.mem_range.mpr il, ?_⟩
  obtain ⟨k, rfl⟩ : ∃ k, j = i + 1 + k := ⟨j - (i + 1), by omega⟩
  exact List.mem_of_getElem? (rowP_at hx hy)
theorem top_ge (pl : List Nm) (ts : List Tie) : 0 ≤ (topOf pl ts).1 ∧ ∀ y ∈ pairsOf pl ts, y.1 ≤ (topOf pl ts).1 := by
  unfold topOf
  rcases topT_is (pairsOf pl ts) (0, pl.headD [], pl.headD []) with ⟨h1, h2⟩ | ⟨h1, _, h3⟩
  · rw [h1]
    exact ⟨Int.le_refl _, h2⟩
  · exact ⟨Int.le_of_lt h1, h3⟩
theorem top_max {pl : List Nm} {ts : List Tie} (F : Fine pl ts) {u v : Nm} (hu : u ∈ pl) (hv : v ∈ pl) : dist ts u v ≤ (topOf pl ts).1 := by
  obtain ⟨z, all⟩ := top_ge pl ts
  obtain ⟨i, hi⟩ := List.getElem?_of_mem hu
  obtain ⟨j, hj⟩ := List.getElem?_of_mem hv
  rcases Nat.lt_trichotomy i j with h | h | h
  · exact all _ (pair_mem hi hj h)
  · subst h
    have e : u = v := Option.some.inj (hi.symm.trans hj)
    rw [e, (F.tree.dist_self v).1]
    exact z
  · rw [(F.tree.dist_symm hu hv).1]
    exact all _ (pair_mem hj hi h)
/-! ### a tie taken out -/
theorem Grown.cut2 {os : List Nm} {es : List Tie} (g : Grown os es) : ∀ e ∈ es, ∃ (ps qs : List Nm) (e1 e2 : List Tie), IsTree ps e1 ∧ IsTree qs e2 ∧ os.Perm (ps ++ qs) ∧ es.Perm (e :: (e1 ++ e2)) ∧ e.1 ∈ ps ∧ e.2.1 ∈ qs := by
  induction g with
  | one a => intro e he; cases he
  | @leaf os es a b k e0 g ha hb he0 k1 k2 ih =>
    intro e he
    rcases List.mem_append.mp he with z | z
    · obtain ⟨ps, qs, e1, e2, t1, t2, pp, pe, m1, m2⟩ := ih e z
      have bn : b ∉ ps ++ qs := fun w => hb (pp.mem_iff.mpr w)
      have b1 : b ∉ ps := fun w => bn (List.mem_append_left _ w)
      have b2 : b ∉ qs := fun w => bn (List.mem_append_right _ w)
      rcases List.mem_append.mp (pp.mem_iff.mp ha) with w | w
      · refine ⟨ps ++ [b], qs, e1 ++ [e0], e2, t1.hang w b1 he0 k1 k2, t2, ?_, ?_, List.mem_append_left _ m1, m2⟩
        · refine (pp.append_right _).trans ?_
          rw [List.append_assoc, List.append_assoc]
          exact List.Perm.append_left _ List.perm_append_comm
        · refine (pe.append_right _).trans ?_
          rw [List.cons_append]
          refine List.Perm.cons _ ?_
          rw [List.append_assoc, List.append_assoc]
          exact List.Perm.append_left _ List.perm_append_comm
      · refine ⟨ps, qs ++ [b], e1, e2 ++ [e0], t1, t2.hang w b2 he0 k1 k2, ?_, ?_, m1, List.mem_append_left _ m2⟩
        · rw [← List.append_assoc]
          exact pp.append_right _
        · rw [← List.append_assoc, ← List.cons_append]
          exact pe.append_right _
    · have ee := List.mem_singleton.mp z
      subst ee
      have T : IsTree os es := ⟨os, es, g, .refl _, .refl _⟩
      have B : IsTree [b] [] := ⟨[b], [], .one b, .refl _, .refl _⟩
      rcases he0 with q | q
      · refine ⟨os, [b], es, [], T, B, .refl _, ?_, by rw [q]; exact ha, by rw [q]; exact List.mem_singleton.mpr rfl⟩
        rw [List.append_nil]
        exact List.perm_append_comm
      · refine ⟨[b], os, [], es, B, T, List.perm_append_comm, ?_, by rw [q]; exact List.mem_singleton.mpr rfl, by rw [q]; exact ha⟩
        exact List.perm_append_comm
def restT (ts : List Tie) (i : Nat) : List Tie := ts.take i ++ ts.drop (i + 1)
def amT (ps : List Nm) (ts : List Tie) : List Tie := ts.filter fun t => decide (t.1 ∈ ps) && decide (t.2.1 ∈ ps)
noncomputable def nearP (pl : List Nm) (ts : List Tie) (e : Tie) : List Nm := pl.filter fun x => decide (dist ts e.1 x < dist ts e.2.1 x)
noncomputable def offP (pl : List Nm) (ts : List Tie) (e : Tie) : List Nm := pl.filter fun x => !decide (dist ts e.1 x < dist ts e.2.1 x)
theorem split_at {α : Type} {l : List α} {i : Nat} {x : α} (h : l[i]? = some x) : l = l.take i ++ x :: l.drop (i + 1) := by
  obtain ⟨il, e⟩ := List.getElem?_eq_some_iff.mp h
  have := List.take_append_drop i l
  rw [List.drop_eq_getElem_cons il, e] at this
  exact this.symm
theorem rest_perm {ts : List Tie} {i : Nat} {e : Tie} (h : ts[i]? = some e) : ts.Perm (e :: restT ts i) := by
  unfold restT
  have := split_at h
  generalize ts.take i = A at *
  generalize ts.drop (i + 1) = B at *
  rw [this]
  exact List.perm_middle
structure CutF (pl : List Nm) (ts : List Tie) (i : Nat) (e : Tie) : Prop where
  near : IsTree (nearP pl ts e) (amT (nearP pl ts e) (restT ts i))
  off : IsTree (offP pl ts e) (amT (offP pl ts e) (restT ts i))
  ma : e.1 ∈ nearP pl ts e
  mb : e.2.1 ∈ offP pl ts e
  dis : ∀ z ∈ nearP pl ts e, z ∉ offP pl ts e
  ps : (nearP pl ts e ++ offP pl ts e).Perm pl
  rs : (amT (nearP pl ts e) (restT ts i) ++ amT (offP pl ts e) (restT ts i)).Perm (restT ts i)
  k1 : 1 ≤ e.2.2
  k2 : e.2.2 ≤ 1000000
  tr : IsTree pl ts
theorem dist_perm {pl : List Nm} {ts ts' : List Tie} (h : IsTree pl ts) (p : ts'.Perm ts) {u v : Nm} (hu : u ∈ pl) (hv : v ∈ pl) : dist ts' u v = dist ts u v :=
  dist_among (h.perm (.refl _) p) h (fun x y k a => a.perm p) hu hv
theorem filter_perm_of {α : Type} [DecidableEq α] {l ps qs : List α} {f : α → Bool} (p : l.Perm (ps ++ qs)) (h1 : ∀ x ∈ ps, f x = true) (h2 : ∀ x ∈ qs, f x = false) : (l.filter f).Perm ps := by
  have q := p.filter f
  have a1 : ps.filter f = ps := List.filter_eq_self.mpr h1
  have a2 : qs.filter f = [] := List.filter_eq_nil_iff.mpr fun x hx => by rw [h2 x hx]; simp
  rw [List.filter_append, a1, a2, List.append_nil] at q
  exact q
theorem am_sub {ps : List Nm} {ts : List Tie} {i : Nat} {t : Tie} (h : t ∈ amT ps (restT ts i)) : t ∈ ts := (List.mem_append.mp (List.mem_filter.mp h).1).elim List.mem_of_mem_take List.mem_of_mem_drop
theorem IsTree.cutF {pl : List Nm} {ts : List Tie} (h : IsTree pl ts) {i : Nat} {e : Tie} (he : ts[i]? = some e) : CutF pl ts i e := by
  have hem : e ∈ ts := List.mem_of_getElem? he
  obtain ⟨_, _, k1, k2⟩ := h.ties e hem
  obtain ⟨os, es, g, p, q⟩ := id h
  obtain ⟨ps, qs, e1, e2, t1, t2, pp, pe, m1, m2⟩ := g.cut2 e (q.mem_iff.mp hem)
  have pp := p.trans pp
  have pe := q.trans pe
  have nd := h.nodup
  have nd2 : (ps ++ qs).Nodup := pp.nodup_iff.mp nd
  have dis : ∀ z ∈ ps, z ∉ qs := fun z hz hq => (List.nodup_append.mp nd2).2.2 z hz z hq rfl
  have J := t1.joined t2 dis m1 m2 k1 k2
  have Jp : ts.Perm (e1 ++ e2 ++ [(e.1, e.2.1, e.2.2)]) := pe.trans (by
    have : e :: (e1 ++ e2) = [e] ++ (e1 ++ e2) := rfl
    rw [this]
    exact List.perm_append_comm)
  have D : ∀ {u v : Nm}, u ∈ ps ++ qs → v ∈ ps ++ qs → dist ts u v = dist (e1 ++ e2 ++ [(e.1, e.2.1, e.2.2)]) u v := fun hu hv => dist_perm J Jp hu hv
  have nr : ∀ x ∈ ps, decide (dist ts e.1 x < dist ts e.2.1 x) = true := fun x hx => by
    have a1 := List.mem_append_left qs m1
    have a2 := List.mem_append_right ps m2
    have ax := List.mem_append_left qs hx
    rw [D a1 ax, D a2 ax, (J.dist_symm a2 ax).1, (J.dist_symm a1 ax).1, dist_cross t1 t2 J dis m1 m2 hx m2, dist_left t1 J hx m1, (t2.dist_self _).1]
    exact decide_eq_true (by omega)
  have nf : ∀ x ∈ qs, decide (dist ts e.1 x < dist ts e.2.1 x) = false := fun x hx => by
    have a1 := List.mem_append_left qs m1
    have a2 := List.mem_append_right ps m2
    have ax := List.mem_append_right ps hx
    rw [D a1 ax, D a2 ax, dist_cross t1 t2 J dis m1 m2 m1 hx, dist_right t2 J m2 hx, (t1.dist_self _).1]
    exact decide_eq_false (by omega)
  have np : (nearP pl ts e).Perm ps := filter_perm_of pp nr nf
  have fp : (offP pl ts e).Perm qs := filter_perm_of (pp.trans List.perm_append_comm) (fun x hx => by rw [nf x hx]; rfl) fun x hx => by rw [nr x hx]; rfl
  have rp : (restT ts i).Perm (e1 ++ e2) := ((rest_perm he).symm.trans pe).cons_inv
  have i1 : ∀ t ∈ e1, t.1 ∈ ps ∧ t.2.1 ∈ ps := fun t ht => ⟨(t1.ties t ht).1, (t1.ties t ht).2.1⟩
  have i2 : ∀ t ∈ e2, t.1 ∈ qs ∧ t.2.1 ∈ qs := fun t ht => ⟨(t2.ties t ht).1, (t2.ties t ht).2.1⟩
  have r1 : (amT (nearP pl ts e) (restT ts i)).Perm e1 := filter_perm_of rp (fun t ht => by rw [decide_eq_true (np.mem_iff.mpr (i1 t ht).1), decide_eq_true (np.mem_iff.mpr (i1 t ht).2)]; rfl) fun t ht => by rw [decide_eq_false (fun z => dis _ (np.mem_iff.mp z) (i2 t ht).1)]; rfl
  have r2 : (amT (offP pl ts e) (restT ts i)).Perm e2 := filter_perm_of (rp.trans List.perm_append_comm) (fun t ht => by rw [decide_eq_true (fp.mem_iff.mpr (i2 t ht).1), decide_eq_true (fp.mem_iff.mpr (i2 t ht).2)]; rfl) fun t ht => by rw [decide_eq_false (fun z => dis _ (i1 t ht).1 (fp.mem_iff.mp z))]; rfl
  exact ⟨t1.perm np r1, t2.perm fp r2, np.mem_iff.mpr m1, fp.mem_iff.mpr m2, fun z hz hq => dis z (np.mem_iff.mp hz) (fp.mem_iff.mp hq), (np.append fp).trans pp.symm, (r1.append r2).trans rp.symm, k1, k2, h⟩
/-- the part is one that a walk gives -/
theorem CutF.comp1 {pl : List Nm} {ts : List Tie} {i : Nat} {e : Tie} (c : CutF pl ts i e) (F : Fine pl ts) : FineC pl (restT ts i) (nearP pl ts e) (amT (nearP pl ts e) (restT ts i)) := by
  have sub : ∀ t ∈ restT ts i, t ∈ ts := fun t ht => (List.mem_append.mp ht).elim List.mem_of_mem_take List.mem_of_mem_drop
  have key : ∀ x y k t, x ∈ nearP pl ts e → t ∈ restT ts i → (t = (x, y, k) ∨ t = (y, x, k)) → t ∈ amT (nearP pl ts e) (restT ts i) := fun x y k t hx ht et => by
    rcases List.mem_append.mp (c.rs.mem_iff.mpr ht) with z | z
    · exact z
    · obtain ⟨a1, a2, _⟩ := c.off.ties t z
      rcases et with q | q <;> rw [q] at a1 a2
      · exact absurd a1 (c.dis x hx)
      · exact absurd a2 (c.dis x hx)
  refine ⟨c.near, fun x hx => (List.mem_filter.mp hx).1, fun x y k hx a => ?_, fun x y k a => ?_, F.tree.nodup, F.ok, F.len, ?_, fun t ht => ?_⟩
  · exact a.elim (fun z => .inl (key x y k _ hx z (.inl rfl))) fun z => .inr (key x y k _ hx z (.inr rfl))
  · exact a.elim (fun z => .inl (List.mem_filter.mp z).1) fun z => .inr (List.mem_filter.mp z).1
  · have h1 := F.tree.len
    have h2 := F.len
    unfold restT
    rw [List.length_append, List.length_take, List.length_drop]
    omega
  · have := F.tree.ties t (sub t ht)
    exact ⟨this.1, this.2.1⟩
theorem CutF.comp2 {pl : List Nm} {ts : List Tie} {i : Nat} {e : Tie} (c : CutF pl ts i e) (F : Fine pl ts) : FineC pl (restT ts i) (offP pl ts e) (amT (offP pl ts e) (restT ts i)) := by
  have key : ∀ x y k t, x ∈ offP pl ts e → t ∈ restT ts i → (t = (x, y, k) ∨ t = (y, x, k)) → t ∈ amT (offP pl ts e) (restT ts i) := fun x y k t hx ht et => by
    rcases List.mem_append.mp (c.rs.mem_iff.mpr ht) with z | z
    · obtain ⟨a1, a2, _⟩ := c.near.ties t z
      rcases et with q | q <;> rw [q] at a1 a2
      · exact absurd hx (c.dis x a1)
      · exact absurd hx (c.dis x a2)
    · exact z
  have C := c.comp1 F
  refine ⟨c.off, fun x hx => (List.mem_filter.mp hx).1, fun x y k hx a => ?_, fun x y k a => ?_, C.nd, C.ok, C.len, C.tlen, C.tin⟩
  · exact a.elim (fun z => .inl (key x y k _ hx z (.inl rfl))) fun z => .inr (key x y k _ hx z (.inr rfl))
  · exact a.elim (fun z => .inl (List.mem_filter.mp z).1) fun z => .inr (List.mem_filter.mp z).1
theorem CutF.fine1 {pl : List Nm} {ts : List Tie} {i : Nat} {e : Tie} (c : CutF pl ts i e) (F : Fine pl ts) : Fine (nearP pl ts e) (amT (nearP pl ts e) (restT ts i)) := ⟨c.near, fun l hl => F.ok l (List.mem_filter.mp hl).1, (c.comp1 F).plen⟩
theorem CutF.fine2 {pl : List Nm} {ts : List Tie} {i : Nat} {e : Tie} (c : CutF pl ts i e) (F : Fine pl ts) : Fine (offP pl ts e) (amT (offP pl ts e) (restT ts i)) := ⟨c.off, fun l hl => F.ok l (List.mem_filter.mp hl).1, (c.comp2 F).plen⟩
/-! ### a tie put elsewhere -/
def chgT (ts : List Tie) (i : Nat) (k : Int) (x y : Nm) : List Tie := ts.take i ++ [(x, y, k)] ++ ts.drop (i + 1)
theorem chg_perm (ts : List Tie) (i : Nat) (k : Int) (x y : Nm) : (chgT ts i k x y).Perm (restT ts i ++ [(x, y, k)]) := by
  unfold chgT restT
  rw [List.append_assoc, List.append_assoc]
  exact List.Perm.append_left _ List.perm_append_comm
noncomputable def rP (ts : List Tie) (ps : List Nm) (x : Nm) : Int := mxG (ps.map fun y => dist ts x y)
/-- how far a place is from its farthest in its part -/
noncomputable def rE (pl : List Nm) (ts : List Tie) (e : Tie) (x : Nm) : Int := if x ∈ nearP pl ts e then rP ts (nearP pl ts e) x else rP ts (offP pl ts e) x
noncomputable def insE (pl : List Nm) (ts : List Tie) (e : Tie) : Int := mxG ((nearP pl ts e ++ offP pl ts e).map (rE pl ts e))
noncomputable def overE (pl : List Nm) (ts : List Tie) (e : Tie) (x y : Nm) : Int := mx2 (insE pl ts e) (rE pl ts e x + e.2.2 + rE pl ts e y)
/-- just one of the two is at the tie's one -/
def acrE (pl : List Nm) (ts : List Tie) (e : Tie) (x y : Nm) : Prop := (x ∈ nearP pl ts e ∧ y ∈ offP pl ts e) ∨ (x ∈ offP pl ts e ∧ y ∈ nearP pl ts e)
section
variable {pl : List Nm} {ts : List Tie} {i : Nat} {e : Tie}
theorem CutF.rch1 (c : CutF pl ts i e) {x : Nm} (hx : x ∈ nearP pl ts e) : rch (nearP pl ts e) (amT (nearP pl ts e) (restT ts i)) x = rP ts (nearP pl ts e) x := by
  unfold rch rP
  refine congrArg mxG (List.map_congr_left fun y hy => ?_)
  exact dist_among c.near c.tr (fun a b k h => h.elim (fun z => .inl (am_sub z)) fun z => .inr (am_sub z)) hx hy
theorem CutF.rch2 (c : CutF pl ts i e) {x : Nm} (hx : x ∈ offP pl ts e) : rch (offP pl ts e) (amT (offP pl ts e) (restT ts i)) x = rP ts (offP pl ts e) x := by
  unfold rch rP
  refine congrArg mxG (List.map_congr_left fun y hy => ?_)
  exact dist_among c.off c.tr (fun a b k h => h.elim (fun z => .inl (am_sub z)) fun z => .inr (am_sub z)) hx hy
theorem CutF.rE1 (c : CutF pl ts i e) {x : Nm} (hx : x ∈ nearP pl ts e) : rE pl ts e x = rch (nearP pl ts e) (amT (nearP pl ts e) (restT ts i)) x := by
  rw [c.rch1 hx]
  exact if_pos hx
theorem CutF.rE2 (c : CutF pl ts i e) {x : Nm} (hx : x ∈ offP pl ts e) : rE pl ts e x = rch (offP pl ts e) (amT (offP pl ts e) (restT ts i)) x := by
  rw [c.rch2 hx]
  exact if_neg fun z => c.dis x z hx
theorem mxG_app {l m : List Int} (hl : l ≠ []) (hm : m ≠ []) : mxG (l ++ m) = mx2 (mxG l) (mxG m) := by
  obtain ⟨a1, a2⟩ := mxG_in hl
  obtain ⟨b1, b2⟩ := mxG_in hm
  obtain ⟨c1, c2⟩ := mxG_in (l := l ++ m) (by simp [hl])
  have h1 := c2 _ (List.mem_append_left _ a1)
  have h2 := c2 _ (List.mem_append_right _ b1)
  unfold mx2
  rcases List.mem_append.mp c1 with z | z
  · have := a2 _ z
    split <;> omega
  · have := b2 _ z
    split <;> omega
theorem CutF.ins (c : CutF pl ts i e) : insE pl ts e = mx2 (mxG ((nearP pl ts e).map (rch (nearP pl ts e) (amT (nearP pl ts e) (restT ts i))))) (mxG ((offP pl ts e).map (rch (offP pl ts e) (amT (offP pl ts e) (restT ts i))))) := by
  unfold insE
  rw [List.map_append, mxG_app, List.map_congr_left fun x hx => c.rE1 hx, List.map_congr_left (l := offP pl ts e) fun x hx => c.rE2 hx]
  · exact fun z => by
      have := c.ma
      rw [List.map_eq_nil_iff.mp z] at this
      cases this
  · exact fun z => by
      have := c.mb
      rw [List.map_eq_nil_iff.mp z] at this
      cases this
theorem mx2_comm (i j : Int) : mx2 i j = mx2 j i := by
  unfold mx2
  split <;> split <;> omega
/-- the changed tree, and how long it is -/
theorem CutF.changed (c : CutF pl ts i e) (F : Fine pl ts) {x y : Nm} (a : acrE pl ts e x y) : Fine pl (chgT ts i e.2.2 x y) ∧ (topOf pl (chgT ts i e.2.2 x y)).1 = overE pl ts e x y := by
  have F1 := c.fine1 F
  have F2 := c.fine2 F
  rcases a with ⟨hx, hy⟩ | ⟨hx, hy⟩
  · have J := c.near.joined c.off c.dis hx hy c.k1 c.k2
    have pT : (chgT ts i e.2.2 x y).Perm (amT (nearP pl ts e) (restT ts i) ++ amT (offP pl ts e) (restT ts i) ++ [(x, y, e.2.2)]) := (chg_perm ts i e.2.2 x y).trans (c.rs.symm.append_right _)
    have T : IsTree pl (chgT ts i e.2.2 x y) := J.perm c.ps.symm pT
    have FC : Fine pl (chgT ts i e.2.2 x y) := ⟨T, F.ok, F.len⟩
    refine ⟨FC, ?_⟩
    obtain ⟨t1, t2, t3⟩ := top_in FC
    have D : ∀ u ∈ nearP pl ts e ++ offP pl ts e, ∀ v ∈ nearP pl ts e ++ offP pl ts e, dist (chgT ts i e.2.2 x y) u v = dist (amT (nearP pl ts e) (restT ts i) ++ amT (offP pl ts e) (restT ts i) ++ [(x, y, e.2.2)]) u v := fun u hu v hv => dist_perm J pT hu hv
    have := joined_top F1 F2 c.dis hx hy c.k1 c.k2 (m := (topOf pl (chgT ts i e.2.2 x y)).1) ⟨_, c.ps.mem_iff.mpr t1, _, c.ps.mem_iff.mpr t2, by rw [← D _ (c.ps.mem_iff.mpr t1) _ (c.ps.mem_iff.mpr t2)]; exact t3.symm⟩ fun u hu v hv => by rw [← D u hu v hv]; exact top_max FC (c.ps.mem_iff.mp hu) (c.ps.mem_iff.mp hv)
    rw [this]
    unfold overE joinT insN
    rw [c.ins, c.rE1 hx, c.rE2 hy]
  · have J := c.off.joined c.near (fun z h1 h2 => c.dis z h2 h1) hx hy c.k1 c.k2
    have pT : (chgT ts i e.2.2 x y).Perm (amT (offP pl ts e) (restT ts i) ++ amT (nearP pl ts e) (restT ts i) ++ [(x, y, e.2.2)]) := (chg_perm ts i e.2.2 x y).trans ((c.rs.symm.trans List.perm_append_comm).append_right _)
    have ps : (offP pl ts e ++ nearP pl ts e).Perm pl := List.perm_append_comm.trans c.ps
    have T : IsTree pl (chgT ts i e.2.2 x y) := J.perm ps.symm pT
    have FC : Fine pl (chgT ts i e.2.2 x y) := ⟨T, F.ok, F.len⟩
    refine ⟨FC, ?_⟩
    obtain ⟨t1, t2, t3⟩ := top_in FC
    have D : ∀ u ∈ offP pl ts e ++ nearP pl ts e, ∀ v ∈ offP pl ts e ++ nearP pl ts e, dist (chgT ts i e.2.2 x y) u v = dist (amT (offP pl ts e) (restT ts i) ++ amT (nearP pl ts e) (restT ts i) ++ [(x, y, e.2.2)]) u v := fun u hu v hv => dist_perm J pT hu hv
    have := joined_top F2 F1 (fun z h1 h2 => c.dis z h2 h1) hx hy c.k1 c.k2 (m := (topOf pl (chgT ts i e.2.2 x y)).1) ⟨_, ps.mem_iff.mpr t1, _, ps.mem_iff.mpr t2, by rw [← D _ (ps.mem_iff.mpr t1) _ (ps.mem_iff.mpr t2)]; exact t3.symm⟩ fun u hu v hv => by rw [← D u hu v hv]; exact top_max FC (ps.mem_iff.mp hu) (ps.mem_iff.mp hv)
    rw [this]
    unfold overE joinT insN
    rw [c.ins, c.rE2 hx, c.rE1 hy, mx2_comm (mxG (List.map _ (offP pl ts e)))]
end
end Far

namespace Far
open PySem PySem.Spec PyProof.Rows L2
open C8 (pss_cut tCut)
open SX (S)
theorem bt_dict : bootBuiltins ("dict" : Str) = some (.type "dict") := by decide +kernel
theorem pi_listK {X : Cx} {K : PySem.W.Frag} {tg l : Expr} {tl : TE} (hl : PE X l tl) (e : X.K = K := by rfl) : PI X tg l (iList K tl) := by
  subst e
  exact pi_list hl
structure TxtE (mg : Str → Option Value) : Prop where
  dict : mg "dict" = none
  zip : mg "zip" = none
  max : mg "max" = none
  len : mg "len" = none
  range : mg "range" = none
  tuple : mg "tuple" = none
  enumerate : mg "enumerate" = none
  min : mg "min" = none
/-- how far all places are from each, in dicts of their own -/
structure ApAt (H : Hp) (D : Addr) (ad : Nm → Addr) (pl : List Nm) (ts : List Tie) (ps : List Nm) : Prop where
  out : H D = some (.dK (dkm ps fun x => .ref (ad x)))
  inn : ∀ x ∈ ps, H (ad x) = some (.dK (dkm pl fun y => .int (dist ts x y)))
  ne : ∀ x ∈ ps, ad x ≠ D
theorem ApAt.same {H H' : Hp} {D : Addr} {ad : Nm → Addr} {pl ps : List Nm} {ts : List Tie} (h : ApAt H D ad pl ts ps) (s : Same H H') : ApAt H' D ad pl ts ps := ⟨s _ _ h.out, fun x hx => s _ _ (h.inn x hx), h.ne⟩
/-- a walk over a list, whatever a turn does -/
theorem walk_lst {K : PySem.W.Frag} {a : Addr} {xs : List V} {B : (Hp → Prop) → V → Hp → Prop} {H0 : Hp} {Qd : Hp → Prop} (Pv : Nat → Hp → Prop) (h0 : Pv 0 H0) (hl : ∀ i H, Pv i H → SqL K H a xs) (hs : ∀ i x H, xs[i]? = some x → Pv i H → B (Pv (i + 1)) x H) (hd : ∀ H, Pv xs.length H → Qd H) :
    ∃ W : Nat → Nat → Hp → Prop, (∃ m, W 0 m H0) ∧ ∀ i m H, W i m H → ((Itl K a).stop i H ∧ Qd H) ∨ ((Itl K a).go i H ∧ ∃ Nx : Hp → Prop, (∀ H', Nx H' → ∃ m', m' < m ∧ W (i + 1) m' H') ∧ ∀ x H', (Itl K a).yld i H x H' → B Nx x H') := by
  refine ⟨fun i m H => m = xs.length - i ∧ i ≤ xs.length ∧ Pv i H, ⟨xs.length, by simp, Nat.zero_le _, h0⟩, fun i m H ⟨em, hi, p⟩ => ?_⟩
  have q := hl i H p
  by_cases lt : i < xs.length
  · refine .inr ⟨⟨xs, xs[i], q, by simp [lt]⟩, Pv (i + 1), fun H' p' => ⟨xs.length - (i + 1), by omega, rfl, lt, p'⟩, fun x H' y => ?_⟩
    obtain ⟨e, y⟩ := y
    rw [e]
    exact hs i x _ (y xs q) p
  · have e : i = xs.length := by omega
    rw [e] at p
    exact .inl ⟨⟨xs, q, by omega⟩, hd H p⟩
/-- pairs put one after another, each once -/
theorem merge_dkm : ∀ {qs ps : List Nm} {f : Nm → V}, (ps ++ qs).Nodup → mergeK (dkm ps f) (dkm qs f) = dkm (ps ++ qs) f
  | [], ps, f, _ => by rw [List.append_nil]; rfl
  | q :: qs, ps, f, nd => by
    have nq : q ∉ ps := fun h => (List.nodup_append.mp nd).2.2 q h q List.mem_cons_self rfl
    have e1 : mergeK (dkm ps f) (dkm (q :: qs) f) = mergeK (putK (dkm ps f) (Sum.inr (S q)) (f q)) (dkm qs f) := rfl
    have e2 : dkm (ps ++ [q]) (fun z => if z = q then f q else f z) = dkm (ps ++ [q]) f := dkm_cong fun z _ => by
      by_cases c : z = q
      · rw [if_pos c, c]
      · rw [if_neg c]
    rw [e1, dkm_new nq, e2, merge_dkm (ps := ps ++ [q]) (by rw [List.append_assoc]; exact nd), List.append_assoc]
    rfl
theorem merge_nil {ps : List Nm} {f : Nm → V} (nd : ps.Nodup) : mergeK [] (dkm ps f) = dkm ps f := merge_dkm (ps := []) nd
theorem dkm_len (ps : List Nm) (f : Nm → V) : (dkm ps f).length = ps.length := List.length_map ..
theorem dkm_vals (ps : List Nm) (f : Nm → Int) : (dkm ps fun x => .int (f x)).map (·.2) = (ps.map f).map V.int := by
  unfold dkm
  rw [List.map_map, List.map_map]
  rfl
abbrev cs_reach : Scope := { kind := ScopeKind.function, names := [(Str.ofString ".0", NameKind.local), (Str.ofString "place", NameKind.cell), (Str.ofString "max", NameKind.globalImplicit), (Str.ofString "apart", NameKind.cell), (Str.ofString "part", NameKind.cell)], isGenerator := false, isCoroutine := false }
abbrev s_lengths_apart : Stmt := topS 13
abbrev N_lengths_apart : List Str := ["tree", "place"]
theorem sc_lengths_apart : FnScope N_lengths_apart ["tree"] (defScope s_lengths_apart) := ⟨rfl, rfl, rfl, by decide +kernel, rfl, by decide +kernel, by decide +kernel⟩
abbrev s_reaches : Stmt := topS 15
abbrev N_reaches : List Str := ["part", "apart", "place", "there"]
theorem sc_reaches : FnScope N_reaches ["part", "apart"] (defScope s_reaches) := ⟨rfl, rfl, rfl, by decide +kernel, rfl, by decide +kernel, by decide +kernel⟩
section
variable {P : Program} {w : World} {K : PySem.W.Frag} {mg : Str → Option Value} {base : Heap}
def spApart : Sp := fun vs H Q _ => ∃ (v : V) (pl : List Nm) (ts : List Tie), vs = [v] ∧ Dt H v (treeD pl ts) ∧ Fine pl ts ∧ ∀ (H' : Hp) (D : Addr) (ad : Nm → Addr), Same H H' → H D = none → ApAt H' D ad pl ts pl → Q (.ref D) H'
theorem ok_apart {f : Addr} {fd : FuncData} (F : Fun K "_lengths_apart" "_lengths_apart" s_lengths_apart f fd) (T : TxtE mg) (Clengths_from : Cal P w K mg base 3 "lengths_from" spLens) : FnOk P w K mg base CX0 4 f fd ["tree"] spApart := by
  refine F.ok sc_lengths_apart (fun vs H Q E h => ?_) (fun cdv A outer s H vs Q E hr h => ?_)
  · obtain ⟨v, pl, ts, rfl, _⟩ := h
    rfl
  · obtain ⟨v, pl, ts, rfl, hd, fine, q⟩ := h
    obtain ⟨t, a, b, rfl, ht, ha⟩ := pl0_of hd
    refine ⟨_, (pss_one (ps_ret (pe_dc (own := [("place", 1)]) (g := gName 1) (tt := tYes) rfl sc_lengths_apart.nd (pi_tup (pe_ix ix_tup (pv 0) pe_int (fun _ _ => rfl))) (blkOk_by (N := N_lengths_apart) (sc := defScope s_lengths_apart) (by decide +kernel)) (fun _ _ _ _ _ => pg_name (i := 1) sc_lengths_apart.nd rfl (Or.inl rfl)) (fun _ _ _ _ _ => pts_nil) (fun _ _ _ _ _ => (pv 1)) (fun _ _ _ _ _ => (pe_dictZip2 K rfl rfl (by rfl) T.dict bt_dict (by rfl) T.zip (pa_cons (pe_ix (ixt (K := K)) (pv 0) pe_int (fun _ _ => rfl)) (pa_cons (pe_c Clengths_from hr (by decide) rfl (pa_cons (pv 0) (pa_cons (pv 1) pa_nil))) pa_nil))))))), ?_⟩
    have nd := fine.tree.nodup
    have p1000 := fine.len
    refine ⟨_, rfl, t, _, 0, .ref a, rfl, rfl, SqT.of ht, atI_nat (j := 0) rfl, a, rfl, ⟨_, ha.sq⟩, fun D nD => ?_⟩
    refine dc_tup (K := K) (a := a) (xs := (pl.map S).map V.str) (fun i H' => ∃ ad : Nm → Addr, Same H H' ∧ ApAt H' D ad pl ts (pl.take i)) ⟨fun _ => 0, same_new (Same.refl H) nD, ⟨upd_same, fun l hl => (by cases hl), fun l hl => (by cases hl)⟩⟩ (fun i H' _ hP => ?_) (fun i x H' hi hP => ?_) (fun H' hP => ?_)
    · obtain ⟨_, sm, _⟩ := hP
      exact (ha.same sm).sq
    · obtain ⟨ad, sm, ap⟩ := hP
      obtain ⟨l, el, lm, rfl, et⟩ := at_name hi
      have ln : l ∉ pl.take i := fun hm => by
        obtain ⟨j, hj, ej⟩ := List.mem_take_iff_getElem.mp hm
        obtain ⟨hi', ei⟩ := List.getElem?_eq_some_iff.mp el
        have := (List.getElem_inj nd).mp (ej.trans ei.symm)
        omega
      refine ⟨rfl, _, rfl, _, rfl, t, _, 0, .ref a, rfl, rfl, SqT.of (sm _ _ ht), atI_nat (j := 0) rfl, ?_⟩
      refine ⟨_, rfl, _, rfl, .ref t, pl, ts, l, rfl, Dt.keep (TK.of sm) hd, fine, lm, fun H1 q1 S1 n1 h1 => ?_⟩
      have sm1 := sm.trans S1
      have ap1 := ap.same S1
      refine ⟨a, q1, dkm pl fun y => .int (dist ts l y), rfl, ?_, ?_, fun g ng => ?_⟩
      · have e : (dkm pl fun y => V.int (dist ts l y)).map (fun k => kV k.1) = (pl.map S).map V.str := by
          unfold dkm
          rw [List.map_map, List.map_map]
          rfl
        rw [e]
        exact (ha.same sm1).sq
      · have e : (dkm pl fun y => V.int (dist ts l y)).map (fun k => k.2) = pl.map fun x => .int (dist ts l x) := by
          unfold dkm
          rw [List.map_map]
          rfl
        rw [e]
        exact SqT.of h1
      rw [merge_nil nd]
      have gD : D ≠ g := ne_of_none ap1.out ng
      have sm2 := same_new (o := .dK (dkm pl fun y => .int (dist ts l y))) sm1 ng
      have ap2 := ap1.same (same_new (o := .dK (dkm pl fun y => .int (dist ts l y))) (Same.refl H1) ng)
      have hg : (upd H1 g (.dK (dkm pl fun y => .int (dist ts l y)))) g = some (.dK (dkm pl fun y => .int (dist ts l y))) := upd_same
      generalize upd H1 g (.dK (dkm pl fun y => .int (dist ts l y))) = H2 at sm2 ap2 hg
      refine ⟨_, Sum.inr (S l), rfl, ap2.out, by rw [dkm_len, List.length_take]; exact sz_lt (by omega), ?_⟩
      rw [dkm_new ln, et]
      refine ⟨fun z => if z = l then g else ad z, same_put sm2 nD, ⟨?_, fun m hm => ?_, fun m hm => ?_⟩⟩
      · rw [upd_same]
        refine congrArg (fun z => some (HO.dK z)) (dkm_cong fun z _ => ?_)
        by_cases e : z = l <;> simp [e]
      · rcases List.mem_append.mp hm with z | z
        · have ml : m ≠ l := fun e => ln (e ▸ z)
          rw [if_neg ml]
          rw [upd_ne (ap2.ne m z)]
          exact ap2.inn m z
        · rw [List.mem_singleton.mp z, if_pos rfl, upd_ne gD.symm]
          exact hg
      · show (if m = l then g else ad m) ≠ D
        rcases List.mem_append.mp hm with z | z
        · have ml : m ≠ l := fun e => ln (e ▸ z)
          rw [if_neg ml]
          exact ap2.ne m z
        · rw [List.mem_singleton.mp z, if_pos rfl]
          exact gD.symm
    · obtain ⟨ad, sm, ap⟩ := hP
      rw [List.length_map, List.length_map, List.take_length] at ap
      exact q H' D ad sm nD ap
theorem ApAt.get {H : Hp} {D : Addr} {ad : Nm → Addr} {pl : List Nm} {ts : List Tie} (h : ApAt H D ad pl ts pl) {x y : Nm} (hx : x ∈ pl) (hy : y ∈ pl) : DGet H D (.str (S x)) (some (.ref (ad x))) ∧ DGet H (ad x) (.str (S y)) (some (.int (dist ts x y))) := by
  refine ⟨?_, ?_⟩
  · rw [← dkm_get (f := fun l => V.ref (ad l)) hx]
    exact DGet.k (k := Sum.inr (S x)) h.out
  · rw [← dkm_get (f := fun l => V.int (dist ts x l)) hy]
    exact DGet.k (k := Sum.inr (S y)) (h.inn x hx)
def spReaches : Sp := fun vs H Q _ => ∃ (p D : Addr) (ad : Nm → Addr) (pl ps : List Nm) (ts : List Tie), vs = [.ref p, .ref D] ∧ H p = some (.lst ((ps.map S).map V.str)) ∧ ApAt H D ad pl ts pl ∧ (∀ x ∈ ps, x ∈ pl) ∧ ps.Nodup ∧ ps ≠ [] ∧ ps.length ≤ 1000 ∧
  ∀ (H' : Hp) (r : Addr), Same H H' → H r = none → H' r = some (.dK (dkm ps fun x => .int (rP ts ps x))) → Q (.ref r) H'
theorem ok_reaches {f : Addr} {fd : FuncData} (F : Fun K "_reaches" "_reaches" s_reaches f fd) (T : TxtE mg) : FnOk P w K mg base CX0 1 f fd ["part", "apart"] spReaches := by
  refine F.ok sc_reaches (fun vs H Q E h => ?_) (fun cdv A outer s H vs Q E hr h => ?_)
  · obtain ⟨p, D, ad, pl, ps, ts, rfl, _⟩ := h
    rfl
  · obtain ⟨p, D, ad, pl, ps, ts, rfl, hp, ap, sub, nd, ne, pl1, q⟩ := h
    refine ⟨_, (pss_one (ps_ret (pe_dc (own := [("place", 2)]) (g := gName 2) (tt := tYes) rfl sc_reaches.nd (pi_list (pv 0)) (blkOk_by (N := N_reaches) (sc := defScope s_reaches) (by decide +kernel)) (fun _ _ _ _ _ => pg_name (i := 2) sc_reaches.nd rfl (Or.inr rfl)) (fun _ _ _ _ _ => pts_nil) (fun _ _ _ _ _ => (pv 2)) (fun _ _ _ _ _ => (pe_callB (cr_maxL (K := K) rfl) (by rfl) T.max bt_max (pa_cons (pe_lc (own := [("there", 3)]) (g := gName 3) (tt := tYes) rfl sc_reaches.nd (pi_listK (K := K) (pv 0)) (blkOk_by (N := N_reaches) (sc := cs_reach) (by decide +kernel)) (fun _ _ _ _ _ => pg_name (i := 3) sc_reaches.nd rfl (Or.inl rfl)) (fun _ _ _ _ _ => pts_nil) (fun _ _ _ _ _ => (pe_dget (hu_of hr) (pe_dget (hu_of hr) (pv 1) (pv 2) (fun _ _ => rfl)) (pv 3) (fun _ _ => rfl)))) pa_nil)))))), ?_⟩
    refine ⟨_, rfl, p, rfl, ⟨_, SqL.of hp⟩, fun R nR => ?_⟩
    refine walk_lst (K := K) (a := p) (xs := (ps.map S).map V.str) (fun i H' => Same H H' ∧ H' R = some (.dK (dkm (ps.take i) fun x => .int (rP ts ps x)))) ⟨same_new (Same.refl H) nR, upd_same⟩ (fun i H' hP => SqL.of (hP.1 _ _ hp)) (fun i x H' hi hP => ?_) (fun H' hP => ?_)
    · obtain ⟨sm, hR⟩ := hP
      obtain ⟨l, el, lm, rfl, et⟩ := at_name hi
      have ln : l ∉ ps.take i := fun hm => by
        obtain ⟨j, hj, ej⟩ := List.mem_take_iff_getElem.mp hm
        obtain ⟨hi', ei⟩ := List.getElem?_eq_some_iff.mp el
        have := (List.getElem_inj nd).mp (ej.trans ei.symm)
        omega
      refine ⟨rfl, _, rfl, _, rfl, p, rfl, ⟨_, SqL.of (sm _ _ hp)⟩, fun G nG => ?_⟩
      have RG : R ≠ G := ne_of_none hR nG
      refine lc_list (K := K) (a := p) (xs := (ps.map S).map V.str) (fun j H'' => Same H H'' ∧ H'' R = some (.dK (dkm (ps.take i) fun x => .int (rP ts ps x))) ∧ H'' G = some (.lst (((ps.take j).map fun y => dist ts l y).map V.int))) ⟨same_new sm nG, by rw [upd_ne RG]; exact hR, upd_same⟩ (fun j H'' _ hP => SqL.of (hP.1 _ _ hp)) (fun j y H'' hj hP => ?_) (fun H'' hP => ?_)
      · obtain ⟨sm2, hR2, hG2⟩ := hP
        obtain ⟨m, em, mm, rfl, et2⟩ := at_name hj
        obtain ⟨g1, g2⟩ := (ap.same sm2).get (sub l lm) (sub m mm)
        refine ⟨rfl, _, rfl, _, rfl, D, .ref (ad l), rfl, g1, _, rfl, ad l, .int (dist ts l m), rfl, g2, _, hG2, by rw [List.length_map, List.length_map, List.length_take]; exact sz_lt (by omega), ?_⟩
        refine ⟨same_put sm2 (sm.free nG), by rw [upd_ne RG]; exact hR2, ?_⟩
        rw [upd_same, et2, List.map_append, List.map_append]
        rfl
      · obtain ⟨sm2, hR2, hG2⟩ := hP
        rw [List.length_map, List.length_map, List.take_length] at hG2
        refine ⟨G, _, rfl, SqL.of hG2, by rw [List.length_map]; exact List.length_pos_iff.mpr ne, fun m hm hle => ?_⟩
        rw [mxG_is hm hle]
        refine ⟨_, Sum.inr (S l), rfl, hR2, by rw [dkm_len, List.length_take]; exact sz_lt (by omega), ?_⟩
        rw [dkm_new ln, et]
        refine ⟨same_put sm2 nR, ?_⟩
        rw [upd_same]
        refine congrArg (fun z => some (HO.dK z)) (dkm_cong fun z _ => ?_)
        by_cases e : z = l
        · rw [if_pos e, e]
          rfl
        · rw [if_neg e]
    · obtain ⟨sm, hR⟩ := hP
      rw [List.length_map, List.length_map, List.take_length] at hR
      exact q H' R sm nR hR
end
end Far

namespace Far
open PySem PySem.Spec PyProof.Rows L2
open C8 (pss_cut tCut)
open SX (S)
theorem DtAll.cut {H : Hp} : ∀ (k : Nat) {vs : List V} {ds : List PyData}, DtAll H vs ds → DtAll H (vs.take k) (ds.take k) ∧ DtAll H (vs.drop k) (ds.drop k)
  | 0, _, _, h => ⟨.nil, h⟩
  | k + 1, _, _, .nil => ⟨.nil, .nil⟩
  | k + 1, _, _, .cons a t => ⟨.cons a (DtAll.cut k t).1, (DtAll.cut k t).2⟩
theorem cut_to {xs : List V} {j : Nat} (h : j ≤ xs.length) : cutV xs none (some (j : Int)) = xs.take j := by
  unfold cutV
  rw [HT.sIx_none, show HT.sIx xs.length xs.length (some (j : Int)) = min j xs.length from HT.sIx_nat _ _ j, Nat.min_eq_left h, List.drop_zero, Nat.sub_zero]
theorem cut_from {xs : List V} {j : Nat} (h : j ≤ xs.length) : cutV xs (some (j : Int)) none = xs.drop j := by
  unfold cutV
  rw [HT.sIx_none, show HT.sIx xs.length 0 (some (j : Int)) = min j xs.length from HT.sIx_nat _ _ j, Nat.min_eq_left h]
  exact List.take_of_length_le (by rw [List.length_drop]; omega)
theorem cut_toN {n j : Nat} (h : j < n) : ¬ (HT.sIx n 0 none = 0 ∧ HT.sIx n n (some (j : Int)) = n) := fun z => by
  have e : HT.sIx n n (some (j : Int)) = min j n := HT.sIx_nat _ _ j
  have := z.2
  omega
theorem cut_fromN {n j : Nat} (h : 1 ≤ j) (hn : 1 ≤ n) : ¬ (HT.sIx n 0 (some (j : Int)) = 0 ∧ HT.sIx n n none = n) := fun z => by
  have e : HT.sIx n 0 (some (j : Int)) = min j n := HT.sIx_nat _ _ j
  have := z.1
  omega
theorem tie_at {H : Hp} {i : Nat} {vs : List V} {ts : List Tie} {v : V} (h : DtAll H vs (ts.map tieD)) (hi : vs[i]? = some v) : ∃ (t : Tie) (p : Addr), ts[i]? = some t ∧ v = .ref p ∧ H p = some (.tup [.str (S t.1), .str (S t.2.1), .int t.2.2]) := by
  obtain ⟨d, hd, hv⟩ := DtAll.get h hi
  rw [List.getElem?_map] at hd
  cases e : ts[i]? with
  | none =>
    rw [e] at hd
    cases hd
  | some t =>
    rw [e] at hd
    have ed : d = tieD t := (Option.some.inj hd).symm
    subst ed
    obtain ⟨p, rfl, hp⟩ := dt_tie hv
    exact ⟨t, p, rfl, rfl, hp⟩
theorem near_self (pl : List Nm) (ts : List Tie) (e : Tie) : pl.filter (fun x => decide (x ∈ nearP pl ts e)) = nearP pl ts e := by
  refine List.filter_congr fun x hx => ?_
  by_cases c : dist ts e.1 x < dist ts e.2.1 x
  · rw [decide_eq_true c]
    exact decide_eq_true (List.mem_filter.mpr ⟨hx, decide_eq_true c⟩)
  · rw [decide_eq_false c]
    exact decide_eq_false fun z => c (of_decide_eq_true (List.mem_filter.mp z).2)
theorem off_self (pl : List Nm) (ts : List Tie) (e : Tie) : pl.filter (fun x => !decide (x ∈ nearP pl ts e)) = offP pl ts e := by
  refine List.filter_congr fun x hx => ?_
  by_cases c : dist ts e.1 x < dist ts e.2.1 x
  · rw [decide_eq_true c, decide_eq_true (show x ∈ nearP pl ts e from List.mem_filter.mpr ⟨hx, decide_eq_true c⟩)]
  · rw [decide_eq_false c, decide_eq_false (show x ∉ nearP pl ts e from fun z => c (of_decide_eq_true (List.mem_filter.mp z).2))]
abbrev s_u_parts_without : Stmt := topS 14
abbrev N_u_parts_without : List Str := ["tree", "number", "apart", "places", "ties", "one", "_", "found", "near", "far", "place"]
theorem sc_u_parts_without : FnScope N_u_parts_without ["tree", "number", "apart"] (defScope s_u_parts_without) := ⟨rfl, rfl, rfl, by decide +kernel, rfl, by decide +kernel, by decide +kernel⟩
section
variable {P : Program} {w : World} {K : PySem.W.Frag} {mg : Str → Option Value} {base : Heap}
def spParts : Sp := fun vs H Q _ => ∃ (v : V) (D : Addr) (ad : Nm → Addr) (pl : List Nm) (ts : List Tie) (i : Nat) (e : Tie), vs = [v, .int i, .ref D] ∧ Dt H v (treeD pl ts) ∧ Fine pl ts ∧ ts[i]? = some e ∧ ApAt H D ad pl ts pl ∧
  ∀ (H' : Hp) (q r1 r2 : Addr), Same H H' → H' q = some (.tup [.ref r1, .ref r2]) → H' r1 = some (.dK (dkm (nearP pl ts e) fun x => .int (rP ts (nearP pl ts e) x))) → H' r2 = some (.dK (dkm (offP pl ts e) fun x => .int (rP ts (offP pl ts e) x))) → Q (.ref q) H'
theorem ok_parts {f : Addr} {fd : FuncData} (F : Fun K "_parts_without" "_parts_without" s_u_parts_without f fd) (Cwalk_from : Cal P w K mg base 2 "walk_from" spWalkC) (C_reaches : Cal P w K mg base 1 "_reaches" spReaches) : FnOk P w K mg base CX0 3 f fd ["tree", "number", "apart"] spParts := by
  refine F.ok sc_u_parts_without (fun vs H Q E h => ?_) (fun cdv A outer s H vs Q E hr h => ?_)
  · obtain ⟨v, D, ad, pl, ts, i, e, rfl, _⟩ := h
    rfl
  · obtain ⟨v, D, ad, pl, ts, i, e, rfl, hd, fine, he, ap, q⟩ := h
    obtain ⟨t, a, b, vs, rfl, ht, ha, hb, hA⟩ := dt_tree hd
    refine ⟨_, (pss_cons (ps_asg (pv 0) (pg_tup rfl (pgs_cons (pg_name (i := 3) sc_u_parts_without.nd rfl (.inl rfl)) (pgs_cons (pg_name (i := 4) sc_u_parts_without.nd rfl (.inl rfl)) pgs_nil))))
      (pss_cons (ps_set (i := 5) sc_u_parts_without.nd rfl (.inl rfl) (pe_ix ix_tup (pe_ix ix_tup (pv 4) (pv 1) (fun _ _ => rfl)) pe_int (fun _ _ => rfl)))
      (pss_cons (ps_asg (pe_c Cwalk_from hr (by decide) rfl (pa_cons (pe_tup (pa_cons (pv 3) (pa_cons (pe_op op_catA (pe_slice sl_tup (pv 4) po_none (po_some (pv 1))) (pe_slice sl_tup (pv 4) (po_some (pe_op op_add (pv 1) pe_int)) po_none)) pa_nil))) (pa_cons (pv 5) pa_nil))) (pg_tup rfl (pgs_cons (pg_name (i := 6) sc_u_parts_without.nd rfl (.inl rfl)) (pgs_cons (pg_name (i := 7) sc_u_parts_without.nd rfl (.inr rfl)) pgs_nil))))
      (pss_cons (ps_setLc (i := 8) (own := [("place", 10)]) (g := gName 10)  rfl sc_u_parts_without.nd rfl rfl (sw_true rfl rfl rfl (by decide +kernel)) (pi_tup (pv 3)) (blkOk_by (N := N_u_parts_without) (sc := defScope s_u_parts_without) (by decide +kernel)) (fun _ _ _ _ _ => pg_name (i := 10) sc_u_parts_without.nd rfl (Or.inl rfl)) (fun _ _ _ _ _ => pts_one (pt_cmp (pc_din (hu_of hr) (pv 10) (pv 7)))) (fun _ _ _ _ _ => (pv 10)))
      (pss_cons (ps_setLc (i := 9) (own := [("place", 10)]) (g := gName 10)  rfl sc_u_parts_without.nd rfl rfl (sw_true rfl rfl rfl (by decide +kernel)) (pi_tup (pv 3)) (blkOk_by (N := N_u_parts_without) (sc := defScope s_u_parts_without) (by decide +kernel)) (fun _ _ _ _ _ => pg_name (i := 10) sc_u_parts_without.nd rfl (Or.inl rfl)) (fun _ _ _ _ _ => pts_one (pt_cmp (pc_dnotin (hu_of hr) (pv 10) (pv 7)))) (fun _ _ _ _ _ => (pv 10)))
      (pss_one (ps_ret (pe_tup (pa_cons (pe_c C_reaches hr (by decide) rfl (pa_cons (pv 8) (pa_cons (pv 2) pa_nil))) (pa_cons (pe_c C_reaches hr (by decide) rfl (pa_cons (pv 9) (pa_cons (pv 2) pa_nil))) pa_nil)))))))))), ?_⟩
    have nd := fine.tree.nodup
    have p1000 := fine.len
    have tl := fine.tree.len
    have c := fine.tree.cutF he
    have il : i < ts.length := (List.getElem?_eq_some_iff.mp he).1
    have vl : vs.length = ts.length := by
      have := DtAll.len hA
      rwa [List.length_map] at this
    obtain ⟨w, hw⟩ : ∃ w, vs[i]? = some w := ⟨vs[i]'(by omega), List.getElem?_eq_getElem (by omega)⟩
    obtain ⟨e', p3, he', rfl, hp3⟩ := tie_at hA hw
    have ee : e' = e := Option.some.inj (he'.symm.trans he)
    subst ee
    refine ⟨_, rfl, t, _, rfl, SqT.of ht, rfl, _, _, rfl, _, _, rfl, rfl, ?_⟩
    refine ⟨_, rfl, _, rfl, b, _, (i : Nat), .ref p3, rfl, rfl, SqT.of hb, atI_nat hw, p3, _, 0, _, rfl, rfl, SqT.of hp3, atI_nat (j := 0) rfl, ?_⟩
    -- the tree without the tie
    refine ⟨_, rfl, _, rfl, _, rfl, (i : Nat), rfl, b, vs, rfl, SqT.of hb, cut_toN (by omega), fun q1 nq1 => ?_⟩
    rw [cut_to (by omega)]
    have S1 := same_new (o := .tup (vs.take i)) (Same.refl H) nq1
    have hq1 : (upd H q1 (.tup (vs.take i))) q1 = some (.tup (vs.take i)) := upd_same
    generalize upd H q1 (.tup (vs.take i)) = H1 at S1 hq1
    have ei : ((i : Nat) : Int) + 1 = ((i + 1 : Nat) : Int) := by omega
    refine ⟨_, rfl, _, rfl, _, _, rfl, rfl, ((i + 1 : Nat) : Int), congrArg V.int ei, b, vs, rfl, SqT.of (S1 _ _ hb), cut_fromN (by omega) (by omega), fun q2 nq2 => ?_⟩
    rw [cut_from (by omega)]
    have S2 := same_new (o := .tup (vs.drop (i + 1))) (Same.refl H1) nq2
    refine cat_any0 (xs := vs.take i) (ys := vs.drop (i + 1)) (S2 _ _ hq1) upd_same (by rw [List.length_take, List.length_drop]; exact sz_le (by omega)) fun q3 H3 S3 hq3 => ?_
    have S13 := S1.trans (S2.trans S3)
    refine ⟨(by show 2 ≤ sizeLine; decide), fun r nr => ?_⟩
    have S4 := same_new (o := .tup [.ref a, .ref q3]) S13 nr
    have tk4 : TK H3 (upd H3 r (.tup [.ref a, .ref q3])) := TK.new nr
    have due : Dt (upd H3 r (.tup [.ref a, .ref q3])) (.ref r) (treeD pl (restT ts i)) := by
      have hA4 := DtAll.keep (TK.of S4) hA
      refine .tup upd_same (.cons (names_dt ((ha.same S13).upd nr) fine.ne) (.cons (.tup (tk4.tup _ _ hq3) ?_) .nil))
      unfold restT
      rw [List.map_append, List.map_take, List.map_drop]
      exact DtAll.app (DtAll.cut i hA4).1 (DtAll.cut (i + 1) hA4).2
    generalize upd H3 r (.tup [.ref a, .ref q3]) = H4 at S4 due
    refine ⟨_, rfl, .ref r, pl, restT ts i, nearP pl ts e', amT (nearP pl ts e') (restT ts i), e'.1, rfl, due, c.comp1 fine, c.ma, fun H5 g bk ln fs prev S5 W => ?_⟩
    have S45 := S4.trans S5
    refine ⟨g, _, rfl, SqT.of W.pair, rfl, _, _, rfl, _, _, rfl, rfl, ?_⟩
    have wl := W.lens
    have wa := W.all
    -- near
    refine ⟨_, rfl, a, rfl, ⟨_, (ha.same S45).sq⟩, fun N nN => ?_⟩
    refine lc_tup (K := K) (a := a) (xs := (pl.map S).map V.str) (fun j H' => Same H5 H' ∧ H' N = some (.lst ((((pl.take j).filter fun x => decide (x ∈ nearP pl ts e')).map S).map V.str))) ⟨same_new (Same.refl _) nN, upd_same⟩ (fun j H' _ hP => (ha.same (S45.trans hP.1)).sq) (fun j x H' hj hP => ?_) (fun H6 hP => ?_)
    · obtain ⟨sm, hN⟩ := hP
      obtain ⟨l, el, lm, rfl, et⟩ := at_name hj
      refine ⟨rfl, _, rfl, _, rfl, ln, _, rfl, DGet.k (k := Sum.inr (S l)) (sm _ _ wl), _, rfl, ?_⟩
      rw [dkm_some, et, List.filter_append]
      have fl := List.length_filter_le (fun x => decide (x ∈ nearP pl ts e')) (pl.take j)
      rw [List.length_take] at fl
      by_cases cc : l ∈ nearP pl ts e'
      · rw [decide_eq_true ((wa l).mpr cc)]
        refine iteT ⟨_, rfl, _, hN, by rw [List.length_map, List.length_map]; exact sz_lt (by omega), same_put sm nN, ?_⟩
        rw [upd_same, List.filter_cons_of_pos (by rw [decide_eq_true cc]), List.map_append, List.map_append]
        rfl
      · rw [decide_eq_false fun z => cc ((wa l).mp z)]
        refine iteF ⟨sm, ?_⟩
        rw [List.filter_cons_of_neg (by rw [decide_eq_false cc]; simp)]
        simpa using hN
    · obtain ⟨S6, hN⟩ := hP
      rw [List.length_map, List.length_map, List.take_length, near_self] at hN
      have S56 := S45.trans S6
      -- off
      refine ⟨_, rfl, a, rfl, ⟨_, (ha.same S56).sq⟩, fun G nG => ?_⟩
      refine lc_tup (K := K) (a := a) (xs := (pl.map S).map V.str) (fun j H' => Same H6 H' ∧ H' G = some (.lst ((((pl.take j).filter fun x => !decide (x ∈ nearP pl ts e')).map S).map V.str))) ⟨same_new (Same.refl _) nG, upd_same⟩ (fun j H' _ hP => (ha.same (S56.trans hP.1)).sq) (fun j x H' hj hP => ?_) (fun H7 hP => ?_)
      · obtain ⟨sm, hG⟩ := hP
        obtain ⟨l, el, lm, rfl, et⟩ := at_name hj
        refine ⟨rfl, _, rfl, _, rfl, ln, _, rfl, DGet.k (k := Sum.inr (S l)) (sm _ _ (S6 _ _ wl)), _, rfl, ?_⟩
        rw [dkm_some, et, List.filter_append]
        have fl := List.length_filter_le (fun x => !decide (x ∈ nearP pl ts e')) (pl.take j)
        rw [List.length_take] at fl
        by_cases cc : l ∈ nearP pl ts e'
        · rw [decide_eq_true ((wa l).mpr cc)]
          refine iteF ⟨sm, ?_⟩
          rw [List.filter_cons_of_neg (by rw [decide_eq_true cc]; simp)]
          simpa using hG
        · rw [decide_eq_false fun z => cc ((wa l).mp z)]
          refine iteT ⟨_, rfl, _, hG, by rw [List.length_map, List.length_map]; exact sz_lt (by omega), same_put sm nG, ?_⟩
          rw [upd_same, List.filter_cons_of_pos (by rw [decide_eq_false cc]; rfl), List.map_append, List.map_append]
          rfl
      · obtain ⟨S7, hG⟩ := hP
        rw [List.length_map, List.length_map, List.take_length, off_self] at hG
        have S57 := S56.trans S7
        have l1 := List.length_filter_le (fun x => decide (dist ts e'.1 x < dist ts e'.2.1 x)) pl
        have l2 := List.length_filter_le (fun x => !decide (dist ts e'.1 x < dist ts e'.2.1 x)) pl
        refine ⟨_, rfl, _, rfl, N, D, ad, pl, nearP pl ts e', ts, rfl, S7 _ _ hN, ap.same S57, fun x hx => (List.mem_filter.mp hx).1, c.near.nodup, fun z => (by have := c.ma; rw [z] at this; cases this), Nat.le_trans l1 p1000, fun H8 r1 S8 nr1 hr1 => ?_⟩
        refine ⟨_, rfl, _, rfl, G, D, ad, pl, offP pl ts e', ts, rfl, S8 _ _ hG, ap.same (S57.trans S8), fun x hx => (List.mem_filter.mp hx).1, c.off.nodup, fun z => (by have := c.mb; rw [z] at this; cases this), Nat.le_trans l2 p1000, fun H9 r2 S9 nr2 hr2 => ?_⟩
        refine ⟨(by show 2 ≤ sizeLine; decide), fun o no => ?_⟩
        exact q _ o r1 r2 (same_new (S57.trans (S8.trans S9)) no) upd_same (same_new (o := .tup [.ref r1, .ref r2]) S9 no _ _ hr1) (same_new (o := .tup [.ref r1, .ref r2]) (Same.refl _) no _ _ hr2)
end
end Far

namespace Far
open PySem PySem.Spec PyProof.Rows L2
open C8 (pss_cut tCut)
open SX (S)
noncomputable def mxA (pl : List Nm) (ts : List Tie) (e : Tie) : Int := mxG ((nearP pl ts e).map (rP ts (nearP pl ts e)))
noncomputable def mxB (pl : List Nm) (ts : List Tie) (e : Tie) : Int := mxG ((offP pl ts e).map (rP ts (offP pl ts e)))
noncomputable def prtD (pl : List Nm) (ts : List Tie) (e : Tie) : PyData := .tuple [.int (mxA pl ts e), .int (mxB pl ts e)]
/-- the pairs of which just one is of the part -/
def rowB (ps : List Nm) (x : Nm) (ys : List Nm) : List (Nm × Nm) := (ys.filter fun y => decide (x ∈ ps) != decide (y ∈ ps)).map fun y => (x, y)
def btw (pl ps : List Nm) (n : Nat) : List (Nm × Nm) := (List.range n).flatMap fun i => rowB ps (pl.getD i []) (pl.drop (i + 1))
def pdN (z : Nm × Nm) : PyData := .tuple [strD z.1, strD z.2]
theorem btw_succ (pl ps : List Nm) (n : Nat) : btw pl ps (n + 1) = btw pl ps n ++ rowB ps (pl.getD n []) (pl.drop (n + 1)) := by
  unfold btw
  rw [List.range_succ, List.flatMap_append]
  simp
theorem rowB_len (ps : List Nm) (x : Nm) (ys : List Nm) : (rowB ps x ys).length ≤ ys.length := by
  unfold rowB
  rw [List.length_map]
  exact List.length_filter_le ..
theorem btw_len (pl ps : List Nm) : ∀ n, (btw pl ps n).length ≤ n * pl.length
  | 0 => by simp [btw]
  | n + 1 => by
    rw [btw_succ, List.length_append, Nat.succ_mul]
    have h1 := btw_len pl ps n
    have h2 := rowB_len ps (pl.getD n []) (pl.drop (n + 1))
    rw [List.length_drop] at h2
    omega
theorem rowB_snoc (ps : List Nm) (x y : Nm) (ys : List Nm) : rowB ps x (ys ++ [y]) = rowB ps x ys ++ (if (decide (x ∈ ps) != decide (y ∈ ps)) = true then [(x, y)] else []) := by
  unfold rowB
  rw [List.filter_append, List.map_append]
  by_cases c : (decide (x ∈ ps) != decide (y ∈ ps)) = true
  · rw [if_pos c, List.filter_cons_of_pos (p := fun y => decide (x ∈ ps) != decide (y ∈ ps)) c]
    rfl
  · rw [if_neg c, List.filter_cons_of_neg (p := fun y => decide (x ∈ ps) != decide (y ∈ ps)) c]
    rfl
theorem bl_ne (a b : Bool) : (!decide (V.bl a = V.bl b)) = (a != b) := by
  cases a <;> cases b <;> simp
abbrev s_parts_without : Stmt := topS 12
abbrev N_parts_without : List Str := ["tree", "apart", "told", "number", "near", "far"]
theorem sc_parts_without : FnScope N_parts_without ["tree"] (defScope s_parts_without) := ⟨rfl, rfl, rfl, by decide +kernel, rfl, by decide +kernel, by decide +kernel⟩
abbrev s_pairs_between : Stmt := topS 17
abbrev N_pairs_between : List Str := ["places", "part", "told", "number", "one", "other"]
theorem sc_pairs_between : FnScope N_pairs_between ["places", "part"] (defScope s_pairs_between) := ⟨rfl, rfl, rfl, by decide +kernel, rfl, by decide +kernel, by decide +kernel⟩
section
variable {P : Program} {w : World} {K : PySem.W.Frag} {mg : Str → Option Value} {base : Heap}
def spPartsW : Sp := fun vs H Q _ => ∃ (v : V) (pl : List Nm) (ts : List Tie), vs = [v] ∧ Dt H v (treeD pl ts) ∧ Fine pl ts ∧ ∀ (H' : Hp) (q : Addr) (ws : List V), Same H H' → H' q = some (.tup ws) → DtAll H' ws (ts.map (prtD pl ts)) → Q (.ref q) H'
theorem ok_parts_without {f : Addr} {fd : FuncData} (F : Fun K "parts_without" "parts_without" s_parts_without f fd) (T : TxtE mg) (C_lengths_apart : Cal P w K mg base 4 "_lengths_apart" spApart) (C_parts_without : Cal P w K mg base 3 "_parts_without" spParts) : FnOk P w K mg base CX0 5 f fd ["tree"] spPartsW := by
  refine F.ok sc_parts_without (fun vs H Q E h => ?_) (fun cdv A outer s H vs Q E hr h => ?_)
  · obtain ⟨v, pl, ts, rfl, _⟩ := h
    rfl
  · obtain ⟨v, pl, ts, rfl, hd, fine, q⟩ := h
    obtain ⟨t, a, b, vs, rfl, ht, ha, hb, hA⟩ := dt_tree hd
    refine ⟨_, (pss_cons (ps_set (i := 1) sc_parts_without.nd rfl (.inl rfl) (pe_c C_lengths_apart hr (by decide) rfl (pa_cons (pv 0) pa_nil)))
      (pss_cons (ps_set (i := 2) sc_parts_without.nd rfl (.inl rfl) (pe_lst pa_nil))
      (pss_cut (ps_for PassesOwn.never rfl (pi_range1 (by rfl) T.range (pa_cons (pe_callB call_len_seq (by rfl) T.len bt_len (pa_cons (pe_ix ix_tup (pv 0) pe_int (fun _ _ => rfl)) pa_nil)) pa_nil)) (pg_name (i := 3) sc_parts_without.nd rfl (.inl rfl))
        (pss_cons (ps_asg (pe_c C_parts_without hr (by decide) rfl (pa_cons (pv 0) (pa_cons (pv 3) (pa_cons (pv 1) pa_nil)))) (pg_tup rfl (pgs_cons (pg_name (i := 4) sc_parts_without.nd rfl (.inl rfl)) (pgs_cons (pg_name (i := 5) sc_parts_without.nd rfl (.inl rfl)) pgs_nil))))
        (pss_one (ps_expr (pe_bm PySem.F.plainAttrs_list PySem.F.slot_list_append PySem.F.type_list_append mt_append (pv 2) (pa_cons (pe_tup (pa_cons (pe_maxVals rfl (pv 4) (by rfl) T.max bt_max) (pa_cons (pe_maxVals rfl (pv 5) (by rfl) T.max bt_max) pa_nil))) pa_nil))))))
      (pss_one (ps_ret (pe_tupleOf (by rfl) T.tuple (pv 2))))))), ?_⟩
    have tl := fine.tree.len
    have p1000 := fine.len
    have vl : vs.length = ts.length := by
      have := DtAll.len hA
      rwa [List.length_map] at this
    refine ⟨_, rfl, .ref t, pl, ts, rfl, hd, fine, fun H1 D ad S1 nD ap => ?_⟩
    refine ⟨Nat.zero_le _, fun L nL => ?_⟩
    have S2 := same_new (o := .lst []) S1 nL
    have nL0 := S1.free nL
    refine ⟨fun σ' H' => ∃ (x3 x4 x5 : Option V) (ws : List V), σ' = [some (.ref t), some (.ref D), some (.ref L), x3, x4, x5] ∧ Same H H' ∧ H' L = some (.lst ws) ∧ DtAll H' ws (ts.map (prtD pl ts)), ?_, fun σ' H' hM => ?_⟩
    rotate_left
    · obtain ⟨x3, x4, x5, ws, rfl, SM, hL, hW⟩ := hM
      have wl := DtAll.len hW
      rw [List.length_map] at wl
      refine ⟨_, rfl, .inl ⟨L, _, rfl, SqL.of hL, fun g ng => ?_⟩⟩
      exact q _ g ws (same_new SM ng) upd_same (DtAll.keep (TK.new ng) hW)
    · have hL0 : (upd H1 L (.lst [])) L = some (.lst []) := upd_same
      have ap2 := ap.same (same_new (o := .lst []) (Same.refl H1) nL)
      generalize upd H1 L (.lst []) = H2 at S2 hL0 ap2
      refine ⟨_, rfl, t, _, 1, .ref b, rfl, rfl, SqT.of (S2 _ _ ht), atI_nat (j := 1) rfl, b, _, rfl, .inr (SqT.of (S2 _ _ hb)), _, rfl, by omega, by omega, ?_⟩
      refine for_range (lo := 0) (n := (((vs.length : Nat) : Int)).toNat) (fun i σ' H' => ∃ (x3 x4 x5 : Option V) (ws : List V), σ' = [some (.ref t), some (.ref D), some (.ref L), x3, x4, x5] ∧ Same H H' ∧ ApAt H' D ad pl ts pl ∧ H' L = some (.lst ws) ∧ DtAll H' ws ((ts.take i).map (prtD pl ts))) ⟨none, none, none, [], rfl, S2, ap2, hL0, .nil⟩ (fun i σ' H' hi hP => ?_) (fun σ' H' hP => ?_)
      · obtain ⟨x3, x4, x5, ws, rfl, SM, ap3, hL, hW⟩ := hP
        have hi : i < vs.length := by simpa using hi
        obtain ⟨e, he⟩ : ∃ e, ts[i]? = some e := ⟨ts[i]'(by omega), List.getElem?_eq_getElem (by omega)⟩
        have et : ts.take (i + 1) = ts.take i ++ [e] := by rw [List.take_add_one, he]; rfl
        have c := fine.tree.cutF he
        have ei : (0 : Int) + (i : Int) = ((i : Nat) : Int) := by omega
        refine ⟨_, rfl, _, rfl, _, rfl, .ref t, D, ad, pl, ts, i, e, by rw [ei]; rfl, Dt.keep (TK.of SM) hd, fine, he, ap3, fun H4 g r1 r2 S4 hg h1 h2 => ?_⟩
        have S5 := SM.trans S4
        have hL4 := S4 _ _ hL
        have wl := DtAll.len hW
        rw [List.length_map, List.length_take] at wl
        refine ⟨g, _, rfl, SqT.of hg, rfl, _, _, rfl, _, _, rfl, rfl, ?_⟩
        refine ⟨_, rfl, .inl ⟨rfl, _, SqL.of hL4⟩, _, rfl, r1, _, _, rfl, h1, dkm_vals _ _, by rw [List.length_map]; exact List.length_pos_of_mem c.ma, fun m hm hle => ?_⟩
        rw [mxG_is hm hle]
        refine ⟨_, rfl, r2, _, _, rfl, h2, dkm_vals _ _, by rw [List.length_map]; exact List.length_pos_of_mem c.mb, fun m' hm' hle' => ?_⟩
        rw [mxG_is hm' hle']
        refine ⟨(by show 2 ≤ sizeLine; decide), fun o no => ?_⟩
        have S6 := same_new (o := .tup [.int (mxA pl ts e), .int (mxB pl ts e)]) S5 no
        have S46 := same_new (o := .tup [.int (mxA pl ts e), .int (mxB pl ts e)]) S4 no
        have hL6 := same_new (o := .tup [.int (mxA pl ts e), .int (mxB pl ts e)]) (Same.refl H4) no _ _ hL4
        have ho : (upd H4 o (.tup [.int (mxA pl ts e), .int (mxB pl ts e)])) o = some (.tup [.int (mxA pl ts e), .int (mxB pl ts e)]) := upd_same
        have ap6 := ap3.same S46
        have hW6 := DtAll.keep (TK.of S46) hW
        show ∃ _, _
        have e0 : (.tup [.int (mxG (List.map (rP ts (nearP pl ts e)) (nearP pl ts e))), .int (mxG (List.map (rP ts (offP pl ts e)) (offP pl ts e)))] : HO) = .tup [.int (mxA pl ts e), .int (mxB pl ts e)] := rfl
        rw [e0]
        generalize upd H4 o (.tup [.int (mxA pl ts e), .int (mxB pl ts e)]) = H6 at S6 hL6 ho ap6 hW6
        refine ⟨L, ws, _, rfl, rfl, hL6, sz_lt (by omega), ?_⟩
        have tk := TK.mut (o := .lst (ws ++ [.ref o])) hL6
        have LD : D ≠ L := ne_of ap6.out hL6 (by intro z; cases z)
        refine ⟨_, _, _, ws ++ [.ref o], rfl, same_put S6 nL0, ⟨by rw [upd_ne LD]; exact ap6.out, fun x hx => by rw [upd_ne (ne_of (ap6.inn x hx) hL6 (by intro z; cases z))]; exact ap6.inn x hx, ap6.ne⟩, upd_same, ?_⟩
        rw [et, List.map_append]
        exact DtAll.app (DtAll.keep tk hW6) (.cons (.tup (tk.tup _ _ ho) (.cons (.int _) (.cons (.int _) .nil))) .nil)
      · obtain ⟨x3, x4, x5, ws, rfl, SM, _, hL, hW⟩ := hP
        have en : (((vs.length : Nat) : Int)).toNat = ts.length := by omega
        rw [en, List.take_length] at hW
        exact ⟨x3, x4, x5, ws, rfl, SM, hL, hW⟩
def spBetween : Sp := fun vs H Q _ => ∃ (a r : Addr) (pl ps : List Nm) (g : Nm → V), vs = [.ref a, .ref r] ∧ TupAt H a ((pl.map S).map V.str) ∧ H r = some (.dK (dkm ps g)) ∧ pl.length ≤ 1000 ∧
  ∀ (H' : Hp) (q : Addr) (ws : List V), Same H H' → H q = none → H' q = some (.lst ws) → DtAll H' ws ((btw pl ps pl.length).map pdN) → Q (.ref q) H'
theorem ok_between {f : Addr} {fd : FuncData} (F : Fun K "_pairs_between" "_pairs_between" s_pairs_between f fd) (T : TxtE mg) : FnOk P w K mg base CX0 1 f fd ["places", "part"] spBetween := by
  refine F.ok sc_pairs_between (fun vs H Q E h => ?_) (fun cdv A outer s H vs Q E hr h => ?_)
  · obtain ⟨a, r, pl, ps, g, rfl, _⟩ := h
    rfl
  · obtain ⟨a, r, pl, ps, g, rfl, ha, hr', p1000, q⟩ := h
    refine ⟨_, (pss_cons (ps_set (i := 2) sc_pairs_between.nd rfl (.inl rfl) (pe_lst pa_nil))
      (pss_cut (ps_for PassesOwn.never rfl (pi_enumT (by rfl) T.enumerate (pa_cons (pv 0) pa_nil)) (pg_tup rfl (pgs_cons (pg_name (i := 3) sc_pairs_between.nd rfl (.inl rfl)) (pgs_cons (pg_name (i := 4) sc_pairs_between.nd rfl (.inl rfl)) pgs_nil)))
        (pss_one (ps_for PassesOwn.never rfl (pi_tup (pe_slice sl_tup (pv 0) (po_some (pe_op op_add (pv 3) pe_int)) po_none)) (pg_name (i := 5) sc_pairs_between.nd rfl (.inl rfl))
          (pss_one (ps_if (pt_cmpR op_ne (pe_cmp (pc_din (hu_of hr) (pv 4) (pv 1)) rfl) (pe_cmp (pc_din (hu_of hr) (pv 5) (pv 1)) rfl) (nomark _))
            (pss_one (ps_expr (pe_bm PySem.F.plainAttrs_list PySem.F.slot_list_append PySem.F.type_list_append mt_append (pv 2) (pa_cons (pe_tup (pa_cons (pv 4) (pa_cons (pv 5) pa_nil))) pa_nil))))
            pss_nil)))))
      (pss_one (ps_ret (pv 2))))), ?_⟩
    have sqn : ((pl.map S).map V.str).length = pl.length := by rw [List.length_map, List.length_map]
    refine ⟨Nat.zero_le _, fun L nL => ?_⟩
    have S1 := same_new (o := .lst []) (Same.refl H) nL
    have hL0 : (upd H L (.lst [])) L = some (.lst []) := upd_same
    refine ⟨fun σ' H' => ∃ (x3 x4 x5 : Option V) (ws : List V), σ' = [some (.ref a), some (.ref r), some (.ref L), x3, x4, x5] ∧ Same H H' ∧ H' L = some (.lst ws) ∧ DtAll H' ws ((btw pl ps pl.length).map pdN), ?_, fun σ' H' hM => ?_⟩
    rotate_left
    · obtain ⟨x3, x4, x5, ws, rfl, SM, hL, hW⟩ := hM
      exact ⟨_, rfl, q H' L ws SM nL hL hW⟩
    · generalize upd H L (.lst []) = H1 at S1 hL0
      refine ⟨_, rfl, a, _, rfl, (ha.same S1).sq, ?_⟩
      refine for_enumT (K := K) (a := a) (xs := (pl.map S).map V.str) (fun i σ' H' => ∃ (x3 x4 x5 : Option V) (ws : List V), σ' = [some (.ref a), some (.ref r), some (.ref L), x3, x4, x5] ∧ Same H H' ∧ H' L = some (.lst ws) ∧ DtAll H' ws ((btw pl ps i).map pdN)) ⟨none, none, none, [], rfl, S1, hL0, .nil⟩ (fun i σ' H' hP => ?_) (fun i v σ' H' u hi hP nu => ?_) (fun σ' H' hP => ?_)
      · obtain ⟨_, _, _, ws, rfl, SM, _⟩ := hP
        exact (ha.same SM).sq
      · obtain ⟨x3, x4, x5, ws, rfl, SM, hL, hW⟩ := hP
        obtain ⟨x, ex, mx, rfl, et⟩ := at_name hi
        have ip : i < pl.length := (List.getElem?_eq_some_iff.mp ex).1
        have S3 := same_new (o := .tup [.int (i : Nat), .str (S x)]) SM nu
        have S3' := same_new (o := .tup [.int (i : Nat), .str (S x)]) (Same.refl H') nu
        have hu3 : (upd H' u (.tup [.int (i : Nat), .str (S x)])) u = some (.tup [.int (i : Nat), .str (S x)]) := upd_same
        have hL3 := S3' _ _ hL
        have hW3 := DtAll.keep (TK.of S3') hW
        generalize upd H' u (.tup [.int (i : Nat), .str (S x)]) = H3 at S3 hL3 hW3 hu3
        refine ⟨u, _, rfl, SqT.of hu3, rfl, _, _, rfl, _, _, rfl, rfl, ?_⟩
        have ei : ((i : Nat) : Int) + 1 = ((i + 1 : Nat) : Int) := by omega
        refine ⟨_, rfl, _, rfl, _, _, rfl, rfl, ((i + 1 : Nat) : Int), congrArg V.int ei, a, _, rfl, (ha.same S3).sq, cut_fromN (by omega) (by rw [sqn]; omega), fun p1 np1 => ?_⟩
        rw [cut_from (by rw [sqn]; omega), ← List.map_drop, ← List.map_drop]
        have S4 := same_new (o := .tup (((pl.drop (i + 1)).map S).map V.str)) S3 np1
        have S4' := same_new (o := .tup (((pl.drop (i + 1)).map S).map V.str)) (Same.refl H3) np1
        have hp1 : (upd H3 p1 (.tup (((pl.drop (i + 1)).map S).map V.str))) p1 = some (.tup (((pl.drop (i + 1)).map S).map V.str)) := upd_same
        have hL4 := S4' _ _ hL3
        have hW4 := DtAll.keep (TK.of S4') hW3
        generalize upd H3 p1 (.tup (((pl.drop (i + 1)).map S).map V.str)) = H4 at S4 hp1 hL4 hW4
        refine ⟨p1, rfl, ⟨_, SqT.of hp1⟩, for_tup (K := K) (a := p1) (xs := ((pl.drop (i + 1)).map S).map V.str) (fun j σ' H' => ∃ (x5 : Option V) (ws : List V), σ' = [some (.ref a), some (.ref r), some (.ref L), some (.int ((i : Nat) : Int)), some (.str (S x)), x5] ∧ Same H H' ∧ H' p1 = some (.tup (((pl.drop (i + 1)).map S).map V.str)) ∧ H' L = some (.lst ws) ∧ DtAll H' ws ((btw pl ps i ++ rowB ps x ((pl.drop (i + 1)).take j)).map pdN))
          ⟨x5, ws, rfl, S4, hp1, hL4, by simpa [rowB] using hW4⟩ (fun j σ' H' _ hP => ?_) (fun j v σ' H' hj hP => ?_) (fun σ' H' hP => ?_)⟩
        · obtain ⟨_, _, _, _, h, _⟩ := hP
          exact SqT.of h
        · clear hW hW3 hW4 hL hL3 hL4
          clear ws
          obtain ⟨x5, ws, rfl, S5, hp5, hL5, hW5⟩ := hP
          obtain ⟨y, ey, my, rfl, ety⟩ := at_name hj
          have r5 := S5 _ _ hr'
          refine ⟨_, rfl, _, rfl, r, _, rfl, DGet.k (k := Sum.inr (S x)) r5, _, rfl, _, rfl, r, _, rfl, DGet.k (k := Sum.inr (S y)) r5, rfl, _, rfl, ?_⟩
          rw [dkm_some, dkm_some, bl_ne, ety, rowB_snoc]
          have wl := DtAll.len hW5
          have b1 := btw_len pl ps i
          have b2 : i * pl.length ≤ 1000 * 1000 := Nat.mul_le_mul (by omega) p1000
          have b3 := rowB_len ps x ((pl.drop (i + 1)).take j)
          rw [List.length_map, List.length_append] at wl
          rw [List.length_take, List.length_drop] at b3
          cases c : (decide (x ∈ ps) != decide (y ∈ ps)) with
          | false =>
            refine iteF ⟨_, ws, rfl, S5, hp5, hL5, ?_⟩
            rw [if_neg (by decide), List.append_nil]
            exact hW5
          | true =>
            refine iteT ⟨_, rfl, .inl ⟨rfl, _, SqL.of hL5⟩, _, rfl, _, rfl, (by show 2 ≤ sizeLine; decide), fun o no => ?_⟩
            have S6' := same_new (o := .tup [.str (S x), .str (S y)]) (Same.refl H') no
            have S6 := S5.trans S6'
            have hL6 := S6' _ _ hL5
            have hp6 := S6' _ _ hp5
            have hW6 := DtAll.keep (TK.of S6') hW5
            have ho : (upd H' o (.tup [.str (S x), .str (S y)])) o = some (.tup [.str (S x), .str (S y)]) := upd_same
            generalize upd H' o (.tup [.str (S x), .str (S y)]) = H6 at S6 hL6 hp6 hW6 ho
            have tk := TK.mut (o := .lst (ws ++ [.ref o])) hL6
            refine ⟨L, ws, _, rfl, rfl, hL6, szM (by omega), ?_⟩
            refine ⟨_, ws ++ [.ref o], rfl, same_put S6 nL, tk.tup _ _ hp6, upd_same, ?_⟩
            rw [if_pos rfl, ← List.append_assoc, List.map_append]
            exact DtAll.app (DtAll.keep tk hW6) (.cons (.tup (tk.tup _ _ ho) (.cons (.str _) (.cons (.str _) .nil))) .nil)
        · obtain ⟨x5, ws, rfl, S5, hp5, hL5, hW5⟩ := hP
          rw [List.length_map, List.length_map, List.take_length] at hW5
          refine ⟨_, _, _, ws, rfl, S5, hL5, ?_⟩
          rw [btw_succ, List.getD_eq_getElem?_getD, ex]
          exact hW5
      · obtain ⟨x3, x4, x5, ws, rfl, SM, hL, hW⟩ := hP
        rw [sqn] at hW
        exact ⟨x3, x4, x5, ws, rfl, SM, hL, hW⟩
end
end Far

namespace Far
open PySem PySem.Spec PyProof.Rows L2 LamX
open C8 (pss_cut tCut)
open SX (S)
theorem TupAt.tk {H H' : Hp} {a : Addr} {xs : List V} (h : TupAt H a xs) (s : TK H H') : TupAt H' a xs := h.elim (fun h => .inl (s.tup _ _ h)) fun ⟨o, d, h⟩ => .inr ⟨o, d, s.frz _ _ _ h⟩
abbrev Qua := Int × Int × Nm × Nm
def quaD (z : Qua) : PyData := .tuple [.int z.1, .int z.2.1, strD z.2.2.1, strD z.2.2.2]
/-- the changes of one tie, and of the first so many -/
noncomputable def chs (pl : List Nm) (ts : List Tie) (i : Nat) (e : Tie) : List Qua := (btw pl (nearP pl ts e) pl.length).map fun z => (overE pl ts e z.1 z.2, (i : Int), z.1, z.2)
noncomputable def allC (pl : List Nm) (ts : List Tie) (n : Nat) : List Qua := (List.range n).flatMap fun i => chs pl ts i (ts.getD i ([], [], 0))
theorem allC_succ (pl : List Nm) (ts : List Tie) (n : Nat) : allC pl ts (n + 1) = allC pl ts n ++ chs pl ts n (ts.getD n ([], [], 0)) := by
  unfold allC
  rw [List.range_succ, List.flatMap_append]
  simp
theorem chs_len (pl : List Nm) (ts : List Tie) (i : Nat) (e : Tie) : (chs pl ts i e).length ≤ pl.length * pl.length := by
  unfold chs
  rw [List.length_map]
  exact btw_len _ _ _
theorem allC_len (pl : List Nm) (ts : List Tie) : ∀ n, (allC pl ts n).length ≤ n * (pl.length * pl.length)
  | 0 => by simp [allC]
  | n + 1 => by
    rw [allC_succ, List.length_append, Nat.succ_mul]
    exact Nat.add_le_add (allC_len pl ts n) (chs_len ..)
theorem btw_mem {pl ps : List Nm} {z : Nm × Nm} : ∀ {n : Nat}, n ≤ pl.length → z ∈ btw pl ps n → z.1 ∈ pl ∧ z.2 ∈ pl
  | 0, _, h => by simp [btw] at h
  | n + 1, hn, h => by
    rw [btw_succ] at h
    rcases List.mem_append.mp h with q | q
    · exact btw_mem (by omega) q
    · unfold rowB at q
      obtain ⟨y, hy, rfl⟩ := List.mem_map.mp q
      have e : pl[n]? = some (pl[n]'(by omega)) := List.getElem?_eq_getElem (by omega)
      refine ⟨?_, List.mem_of_mem_drop (List.mem_filter.mp hy).1⟩
      rw [List.getD_eq_getElem?_getD, e]
      exact List.getElem_mem _
abbrev s_changes_of : Stmt := topS 16
abbrev N_changes_of : List Str := ["tree", "number", "apart", "places", "ties", "near", "far", "reaches", "inside", "told", "one", "other", "over"]
theorem sc_changes_of : FnScope N_changes_of ["tree", "number", "apart"] (defScope s_changes_of) := ⟨rfl, rfl, rfl, by decide +kernel, rfl, by decide +kernel, by decide +kernel⟩
section
variable {P : Program} {w : World} {K : PySem.W.Frag} {mg : Str → Option Value} {base : Heap}
def spChanges : Sp := fun vs H Q _ => ∃ (v : V) (D : Addr) (ad : Nm → Addr) (pl : List Nm) (ts : List Tie) (i : Nat) (e : Tie), vs = [v, .int i, .ref D] ∧ Dt H v (treeD pl ts) ∧ Fine pl ts ∧ ts[i]? = some e ∧ ApAt H D ad pl ts pl ∧
  ∀ (H' : Hp) (q : Addr) (ws : List V), Same H H' → H' q = some (.lst ws) → DtAll H' ws ((chs pl ts i e).map quaD) → Q (.ref q) H'
theorem ok_changes {f : Addr} {fd : FuncData} (F : Fun K "_changes_of" "_changes_of" s_changes_of f fd) (T : TxtE mg) (C_parts_without : Cal P w K mg base 3 "_parts_without" spParts) (C_pairs_between : Cal P w K mg base 1 "_pairs_between" spBetween) : FnOk P w K mg base CX0 4 f fd ["tree", "number", "apart"] spChanges := by
  refine F.ok sc_changes_of (fun vs H Q E h => ?_) (fun cdv A outer s H vs Q E hr h => ?_)
  · obtain ⟨v, D, ad, pl, ts, i, e, rfl, _⟩ := h
    rfl
  · obtain ⟨v, D, ad, pl, ts, i, e, rfl, hd, fine, he, ap, q⟩ := h
    obtain ⟨t, a, b, vs, rfl, ht, ha, hb, hA⟩ := dt_tree hd
    refine ⟨_, (pss_cons (ps_asg (pv 0) (pg_tup rfl (pgs_cons (pg_name (i := 3) sc_changes_of.nd rfl (.inl rfl)) (pgs_cons (pg_name (i := 4) sc_changes_of.nd rfl (.inl rfl)) pgs_nil))))
      (pss_cons (ps_asg (pe_c C_parts_without hr (by decide) rfl (pa_cons (pv 0) (pa_cons (pv 1) (pa_cons (pv 2) pa_nil)))) (pg_tup rfl (pgs_cons (pg_name (i := 5) sc_changes_of.nd rfl (.inl rfl)) (pgs_cons (pg_name (i := 6) sc_changes_of.nd rfl (.inl rfl)) pgs_nil))))
      (pss_cons (ps_set (i := 7) sc_changes_of.nd rfl (.inl rfl) (pe_dmerge (pv 5) (pv 6)))
      (pss_cons (ps_set (i := 8) sc_changes_of.nd rfl (.inl rfl) (pe_maxVals rfl (pv 7) (by rfl) T.max bt_max))
      (pss_cons (ps_set (i := 9) sc_changes_of.nd rfl (.inl rfl) (pe_lst pa_nil))
      (pss_cut (ps_for PassesOwn.never rfl (pi_list (pe_c C_pairs_between hr (by decide) rfl (pa_cons (pv 3) (pa_cons (pv 5) pa_nil)))) (pg_tup rfl (pgs_cons (pg_name (i := 10) sc_changes_of.nd rfl (.inl rfl)) (pgs_cons (pg_name (i := 11) sc_changes_of.nd rfl (.inl rfl)) pgs_nil)))
        (pss_cons (ps_set (i := 12) sc_changes_of.nd rfl (.inl rfl) (pe_op op_add (pe_op op_add (pe_dget (hu_of hr) (pv 7) (pv 10) (fun _ _ => rfl)) (pe_ix ix_tup (pe_ix ix_tup (pv 4) (pv 1) (fun _ _ => rfl)) pe_int (fun _ _ => rfl))) (pe_dget (hu_of hr) (pv 7) (pv 11) (fun _ _ => rfl))))
        (pss_one (ps_expr (pe_bm PySem.F.plainAttrs_list PySem.F.slot_list_append PySem.F.type_list_append mt_append (pv 9) (pa_cons (pe_tup (pa_cons (pe_callB (call_max2 rfl) (by rfl) T.max bt_max (pa_cons (pv 8) (pa_cons (pv 12) pa_nil))) (pa_cons (pv 1) (pa_cons (pv 10) (pa_cons (pv 11) pa_nil))))) pa_nil))))))
      (pss_one (ps_ret (pv 9))))))))), ?_⟩
    have nd := fine.tree.nodup
    have p1000 := fine.len
    have c := fine.tree.cutF he
    have il : i < ts.length := (List.getElem?_eq_some_iff.mp he).1
    have vl : vs.length = ts.length := by
      have := DtAll.len hA
      rwa [List.length_map] at this
    obtain ⟨w, hw⟩ : ∃ w, vs[i]? = some w := ⟨vs[i]'(by omega), List.getElem?_eq_getElem (by omega)⟩
    obtain ⟨e', p3, he', rfl, hp3⟩ := tie_at hA hw
    have ee : e' = e := Option.some.inj (he'.symm.trans he)
    subst ee
    refine ⟨_, rfl, t, _, rfl, SqT.of ht, rfl, _, _, rfl, _, _, rfl, rfl, ?_⟩
    refine ⟨_, rfl, _, rfl, _, rfl, .ref t, D, ad, pl, ts, i, e', rfl, hd, fine, he, ap, fun H1 g r1 r2 S1 hg h1 h2 => ?_⟩
    refine ⟨g, _, rfl, SqT.of hg, rfl, _, _, rfl, _, _, rfl, rfl, ?_⟩
    -- both dicts in one
    have c1 : (dkm (nearP pl ts e') fun x => V.int (rP ts (nearP pl ts e') x)) = dkm (nearP pl ts e') fun x => .int (rE pl ts e' x) := dkm_cong fun x hx => by rw [c.rE1 hx, c.rch1 hx]
    have c2 : (dkm (offP pl ts e') fun x => V.int (rP ts (offP pl ts e') x)) = dkm (offP pl ts e') fun x => .int (rE pl ts e' x) := dkm_cong fun x hx => by rw [c.rE2 hx, c.rch2 hx]
    rw [c1] at h1
    rw [c2] at h2
    have ndA : (nearP pl ts e' ++ offP pl ts e').Nodup := c.ps.nodup_iff.mpr nd
    have lA : (nearP pl ts e' ++ offP pl ts e').length = pl.length := c.ps.length_eq
    rw [List.length_append] at lA
    refine fun p np => ⟨_, rfl, r1, _, rfl, upd_same, by rw [upd_ne (ne_of_none h1 np)]; exact h1, (ne_of_none h1 np).symm, by rw [dkm_len]; omega, ?_⟩
    rw [upd_upd, merge_nil c.near.nodup]
    refine ⟨_, rfl, r2, _, rfl, upd_same, by rw [upd_ne (ne_of_none h2 np)]; exact h2, (ne_of_none h2 np).symm, by rw [dkm_len]; omega, ?_⟩
    rw [upd_upd, merge_dkm ndA]
    have S2 := same_new (o := .dK (dkm (nearP pl ts e' ++ offP pl ts e') fun x => .int (rE pl ts e' x))) (Same.refl H1) np
    have hp := show (upd H1 p (.dK (dkm (nearP pl ts e' ++ offP pl ts e') fun x => .int (rE pl ts e' x)))) p = some (.dK (dkm (nearP pl ts e' ++ offP pl ts e') fun x => .int (rE pl ts e' x))) from upd_same
    generalize upd H1 p (.dK (dkm (nearP pl ts e' ++ offP pl ts e') fun x => .int (rE pl ts e' x))) = H2 at S2 hp
    have S12 := S1.trans S2
    refine ⟨_, rfl, p, _, _, rfl, hp, dkm_vals _ _, by rw [List.length_map]; exact List.length_pos_of_mem (List.mem_append_left _ c.ma), fun m hm hle => ?_⟩
    rw [mxG_is hm hle]
    clear hm hle m
    have em : mxG (List.map (rE pl ts e') (nearP pl ts e' ++ offP pl ts e')) = insE pl ts e' := rfl
    rw [em]
    refine ⟨Nat.zero_le _, fun L nL => ?_⟩
    have S3 := same_new (o := .lst []) S12 nL
    have nL0 := S12.free nL
    have hL0 : (upd H2 L (.lst [])) L = some (.lst []) := upd_same
    have hp3' := same_new (o := .lst []) (Same.refl H2) nL _ _ hp
    have h13 := (S2.trans (same_new (o := .lst []) (Same.refl H2) nL)) _ _ h1
    generalize upd H2 L (.lst []) = H3 at S3 hL0 hp3' h13
    refine ⟨fun σ' H' => ∃ (x10 x11 x12 : Option V) (ws : List V), σ' = [some (.ref t), some (.int i), some (.ref D), some (.ref a), some (.ref b), some (.ref r1), some (.ref r2), some (.ref p), some (.int (insE pl ts e')), some (.ref L), x10, x11, x12] ∧ Same H H' ∧ H' L = some (.lst ws) ∧ DtAll H' ws ((chs pl ts i e').map quaD), ?_, fun σ' H' hM => ?_⟩
    rotate_left
    · obtain ⟨x10, x11, x12, ws, rfl, SM, hL, hW⟩ := hM
      exact ⟨_, rfl, q H' L ws SM hL hW⟩
    · refine ⟨_, rfl, _, rfl, a, r1, pl, nearP pl ts e', _, rfl, ha.same S3, h13, p1000, fun H4 k wk S4 nk hk hK => ?_⟩
      have S34 := S3.trans S4
      have kl := DtAll.len hK
      rw [List.length_map] at kl
      refine ⟨k, rfl, ⟨_, SqL.of hk⟩, for_list (K := K) (a := k) (xs := wk) (fun j σ' H' => ∃ (x10 x11 x12 : Option V) (ws : List V), σ' = [some (.ref t), some (.int i), some (.ref D), some (.ref a), some (.ref b), some (.ref r1), some (.ref r2), some (.ref p), some (.int (insE pl ts e')), some (.ref L), x10, x11, x12] ∧ Same H H' ∧ H' k = some (.lst wk) ∧ TK H4 H' ∧ H' p = some (.dK (dkm (nearP pl ts e' ++ offP pl ts e') fun x => .int (rE pl ts e' x))) ∧ H' L = some (.lst ws) ∧ DtAll H' ws (((chs pl ts i e').take j).map quaD))
        ⟨none, none, none, [], rfl, S34, hk, TK.refl _, S4 _ _ hp3', S4 _ _ hL0, .nil⟩ (fun j σ' H' _ hP => ?_) (fun j v σ' H' hj hP => ?_) (fun σ' H' hP => ?_)⟩
      · obtain ⟨_, _, _, _, _, _, h, _⟩ := hP
        exact SqL.of h
      · obtain ⟨x10, x11, x12, ws, rfl, S5, hk5, tk5, hp5, hL5, hW5⟩ := hP
        obtain ⟨d, hd', hv⟩ := DtAll.get hK hj
        rw [List.getElem?_map] at hd'
        cases ez : (btw pl (nearP pl ts e') pl.length)[j]? with
        | none => rw [ez] at hd'; cases hd'
        | some z =>
          obtain ⟨x, y⟩ := z
          rw [ez] at hd'
          have ed : d = pdN (x, y) := (Option.some.inj hd').symm
          subst ed
          obtain ⟨o, xs, rfl, ho, hxs⟩ := dt_any hv
          have exs : xs = [.str (S x), .str (S y)] := by
            cases hxs with
            | cons a1 b1 =>
              cases b1 with
              | cons a2 b2 =>
                cases b2
                cases a1
                cases a2
                rfl
          subst exs
          obtain ⟨mx, my⟩ := btw_mem (Nat.le_refl _) (List.mem_of_getElem? ez)
          have mx' := c.ps.mem_iff.mpr mx
          have my' := c.ps.mem_iff.mpr my
          have jl := (List.getElem?_eq_some_iff.mp ez).1
          have ech : (chs pl ts i e')[j]? = some (overE pl ts e' x y, (i : Int), x, y) := by
            unfold chs
            rw [List.getElem?_map, ez]
            rfl
          have et : (chs pl ts i e').take (j + 1) = (chs pl ts i e').take j ++ [(overE pl ts e' x y, (i : Int), x, y)] := by rw [List.take_add_one, ech]; rfl
          have g1 : DGet H' p (.str (S x)) (some (.int (rE pl ts e' x))) := by
            rw [← dkm_get (f := fun l => V.int (rE pl ts e' l)) mx']
            exact DGet.k (k := Sum.inr (S x)) hp5
          have g2 : DGet H' p (.str (S y)) (some (.int (rE pl ts e' y))) := by
            rw [← dkm_get (f := fun l => V.int (rE pl ts e' l)) my']
            exact DGet.k (k := Sum.inr (S y)) hp5
          refine ⟨o, _, rfl, (ho.tk tk5).sq, rfl, _, _, rfl, _, _, rfl, rfl, ?_⟩
          refine ⟨_, rfl, _, rfl, p, _, rfl, g1, _, rfl, _, rfl, b, _, (i : Nat), .ref p3, rfl, rfl, SqT.of (S5 _ _ hb), atI_nat hw, p3, _, 2, _, rfl, rfl, SqT.of (S5 _ _ hp3), atI_nat (j := 2) rfl, _, _, rfl, rfl, _, rfl, _, rfl, p, _, rfl, g2, _, _, rfl, rfl, ?_⟩
          refine ⟨_, rfl, .inl ⟨rfl, _, SqL.of hL5⟩, _, rfl, _, rfl, _, _, rfl, _, rfl, _, rfl, _, rfl, (by show 4 ≤ sizeLine; decide), fun u nu => ?_⟩
          have U1 : Same H' (upd H' u (.tup [.int (overE pl ts e' x y), .int (i : Int), .str (S x), .str (S y)])) := same_new (Same.refl H') nu
          have U2 : (upd H' u (.tup [.int (overE pl ts e' x y), .int (i : Int), .str (S x), .str (S y)])) u = some (.tup [.int (overE pl ts e' x y), .int (i : Int), .str (S x), .str (S y)]) := upd_same
          have wl := DtAll.len hW5
          rw [List.length_map, List.length_take] at wl
          have b1 := btw_len pl (nearP pl ts e') pl.length
          have b2 : pl.length * pl.length ≤ 1000 * 1000 := Nat.mul_le_mul p1000 p1000
          have tkL := TK.mut (o := .lst (ws ++ [.ref u])) (U1 _ _ hL5)
          refine ⟨L, ws, _, rfl, rfl, U1 _ _ hL5, szM (by omega), ?_⟩
          have pL : p ≠ L := ne_of (U1 _ _ hp5) (U1 _ _ hL5) (by intro z; cases z)
          have kL : k ≠ L := (ne_of_none hL0 nk).symm
          refine ⟨_, _, _, ws ++ [.ref u], rfl, same_put (S5.trans U1) nL0, by rw [upd_ne kL]; exact U1 _ _ hk5, tk5.trans ((TK.of U1).trans tkL), by rw [upd_ne pL]; exact U1 _ _ hp5, upd_same, ?_⟩
          rw [et, List.map_append]
          exact DtAll.app (DtAll.keep ((TK.of U1).trans tkL) hW5) (.cons (.tup (tkL.tup _ _ U2) (.cons (.int _) (.cons (.int _) (.cons (.str _) (.cons (.str _) .nil))))) .nil)
      · obtain ⟨x10, x11, x12, ws, rfl, S5, _, _, _, hL5, hW5⟩ := hP
        have cl : (chs pl ts i e').length = (btw pl (nearP pl ts e') pl.length).length := List.length_map ..
        rw [kl, ← cl, List.take_length] at hW5
        exact ⟨x10, x11, x12, ws, rfl, S5, hL5, hW5⟩
end
end Far

namespace Far
open PySem PySem.Spec PyProof.Rows L2
open SX (S)
/-! ### the changes in order -/
theorem idx_get {pl : List Nm} (nd : pl.Nodup) {i : Nat} {x : Nm} (h : pl[i]? = some x) : pl.idxOf x = i := by
  obtain ⟨il, e⟩ := List.getElem?_eq_some_iff.mp h
  have m : x ∈ pl := List.mem_of_getElem? h
  have l := List.idxOf_lt_length_of_mem m
  have e2 : pl[pl.idxOf x] = x := List.getElem_idxOf l
  exact (List.getElem_inj nd).mp (e2.trans e.symm)
theorem idx_up {pl : List Nm} (nd : pl.Nodup) : pl.Pairwise fun a b => pl.idxOf a < pl.idxOf b := by
  refine List.pairwise_iff_getElem.mpr fun i j hi hj ij => ?_
  rw [idx_get nd (List.getElem?_eq_getElem hi), idx_get nd (List.getElem?_eq_getElem hj)]
  exact ij
def lexP (pl : List Nm) (a b : Nm × Nm) : Prop := pl.idxOf a.1 < pl.idxOf b.1 ∨ (pl.idxOf a.1 = pl.idxOf b.1 ∧ pl.idxOf a.2 < pl.idxOf b.2)
def lexQ (pl : List Nm) (a b : Qua) : Prop := a.2.1 < b.2.1 ∨ (a.2.1 = b.2.1 ∧ lexP pl a.2.2 b.2.2)
theorem rowB_fst {ps : List Nm} {x : Nm} {ys : List Nm} {z : Nm × Nm} (h : z ∈ rowB ps x ys) : z.1 = x ∧ z.2 ∈ ys ∧ (decide (x ∈ ps) != decide (z.2 ∈ ps)) = true := by
  unfold rowB at h
  obtain ⟨y, hy, rfl⟩ := List.mem_map.mp h
  exact ⟨rfl, (List.mem_filter.mp hy).1, (List.mem_filter.mp hy).2⟩
theorem btw_up {pl : List Nm} (nd : pl.Nodup) (ps : List Nm) : (btw pl ps pl.length).Pairwise (lexP pl) := by
  unfold btw
  refine List.pairwise_flatMap.mpr ⟨fun i hi => ?_, ?_⟩
  · unfold rowB
    refine List.pairwise_map.mpr ?_
    have up : (pl.drop (i + 1)).Pairwise fun a b => pl.idxOf a < pl.idxOf b := (idx_up nd).sublist (List.drop_sublist _ _)
    exact (up.sublist List.filter_sublist).imp fun h => .inr ⟨rfl, h⟩
  · refine (List.pairwise_lt_range (n := pl.length)).imp_of_mem fun {i j} hi hj ij x hx y hy => ?_
    have il := List.mem_range.mp hi
    have jl := List.mem_range.mp hj
    refine .inl ?_
    rw [(rowB_fst hx).1, (rowB_fst hy).1, List.getD_eq_getElem?_getD, List.getD_eq_getElem?_getD, List.getElem?_eq_getElem il, List.getElem?_eq_getElem jl]
    show pl.idxOf pl[i] < pl.idxOf pl[j]
    rw [idx_get nd (List.getElem?_eq_getElem il), idx_get nd (List.getElem?_eq_getElem jl)]
    exact ij
theorem allC_up {pl : List Nm} {ts : List Tie} (nd : pl.Nodup) (n : Nat) : (allC pl ts n).Pairwise (lexQ pl) := by
  unfold allC
  refine List.pairwise_flatMap.mpr ⟨fun i hi => ?_, ?_⟩
  · unfold chs
    refine List.pairwise_map.mpr ?_
    exact (btw_up nd _).imp fun h => .inr ⟨rfl, h⟩
  · refine (List.pairwise_lt_range (n := n)).imp fun {i j} ij x hx y hy => ?_
    unfold chs at hx hy
    obtain ⟨_, _, rfl⟩ := List.mem_map.mp hx
    obtain ⟨_, _, rfl⟩ := List.mem_map.mp hy
    exact .inl (Int.ofNat_lt.mpr ij)
/-- the first of those with the least -/
def FLq (l : List Qua) (x : Qua) : Prop := ∃ i : Nat, l[i]? = some x ∧ (∀ (j : Nat) (z : Qua), l[j]? = some z → x.1 ≤ z.1) ∧ ∀ (j : Nat) (z : Qua), j < i → l[j]? = some z → x.1 < z.1
theorem FLq.mem {l : List Qua} {x : Qua} (h : FLq l x) : x ∈ l := by
  obtain ⟨i, e, _⟩ := h
  exact List.mem_of_getElem? e
theorem FLq.le {l : List Qua} {x z : Qua} (h : FLq l x) (hz : z ∈ l) : x.1 ≤ z.1 := by
  obtain ⟨j, e⟩ := List.getElem?_of_mem hz
  obtain ⟨_, _, a, _⟩ := h
  exact a j z e
theorem FLq.lex {l : List Qua} {R : Qua → Qua → Prop} {x z : Qua} (h : FLq l x) (p : l.Pairwise R) (hz : z ∈ l) (e1 : z.1 = x.1) : z = x ∨ R x z := by
  obtain ⟨j, e⟩ := List.getElem?_of_mem hz
  obtain ⟨i, e0, _, b⟩ := h
  rcases Nat.lt_trichotomy i j with c | c | c
  · obtain ⟨il, ei⟩ := List.getElem?_eq_some_iff.mp e0
    obtain ⟨jl, ej⟩ := List.getElem?_eq_some_iff.mp e
    have := List.pairwise_iff_getElem.mp p i j il jl c
    rw [ei, ej] at this
    exact .inr this
  · rw [c, e] at e0
    exact .inl (Option.some.inj e0)
  · have := b j z c e
    omega
theorem btw_has {pl ps : List Nm} {i j : Nat} {x y : Nm} (hx : pl[i]? = some x) (hy : pl[j]? = some y) (ij : i < j) (c : (decide (x ∈ ps) != decide (y ∈ ps)) = true) : (x, y) ∈ btw pl ps pl.length := by
  have il := (List.getElem?_eq_some_iff.mp hx).1
  unfold btw
  refine List.mem_flatMap.mpr ⟨i, List.mem_range.mpr il, ?_⟩
  rw [List.getD_eq_getElem?_getD, hx]
  unfold rowB
  refine List.mem_map.mpr ⟨y, List.mem_filter.mpr ⟨?_, c⟩, rfl⟩
  have : (pl.drop (i + 1))[j - (i + 1)]? = some y := by
    rw [List.getElem?_drop, show i + 1 + (j - (i + 1)) = j by omega]
    exact hy
  exact List.mem_of_getElem? this
theorem btw_facts {pl ps : List Nm} (nd : pl.Nodup) {z : Nm × Nm} (h : z ∈ btw pl ps pl.length) : z.1 ∈ pl ∧ z.2 ∈ pl ∧ pl.idxOf z.1 < pl.idxOf z.2 ∧ (decide (z.1 ∈ ps) != decide (z.2 ∈ ps)) = true := by
  unfold btw at h
  obtain ⟨i, hi, hz⟩ := List.mem_flatMap.mp h
  have il := List.mem_range.mp hi
  obtain ⟨a, b, c⟩ := rowB_fst hz
  rw [List.getD_eq_getElem?_getD, List.getElem?_eq_getElem il] at a c
  have a : z.1 = pl[i] := a
  have c : (decide (pl[i] ∈ ps) != decide (z.2 ∈ ps)) = true := c
  obtain ⟨k, hk⟩ := List.getElem?_of_mem b
  rw [List.getElem?_drop] at hk
  refine ⟨by rw [a]; exact List.getElem_mem _, List.mem_of_mem_drop b, ?_, by rw [a]; exact c⟩
  rw [a, idx_get nd (List.getElem?_eq_getElem il), idx_get nd hk]
  omega
section
variable {pl : List Nm} {ts : List Tie}
theorem acr_of {e : Tie} {x y : Nm} (hx : x ∈ pl) (hy : y ∈ pl) (c : (decide (x ∈ nearP pl ts e) != decide (y ∈ nearP pl ts e)) = true) : acrE pl ts e x y := by
  have off : ∀ z ∈ pl, z ∉ nearP pl ts e → z ∈ offP pl ts e := fun z hz n => by
    refine List.mem_filter.mpr ⟨hz, ?_⟩
    by_cases d : dist ts e.1 z < dist ts e.2.1 z
    · exact absurd (List.mem_filter.mpr ⟨hz, decide_eq_true d⟩) n
    · rw [decide_eq_false d]
      rfl
  by_cases a : x ∈ nearP pl ts e
  · by_cases b : y ∈ nearP pl ts e
    · rw [decide_eq_true a, decide_eq_true b] at c
      cases c
    · exact .inl ⟨a, off y hy b⟩
  · by_cases b : y ∈ nearP pl ts e
    · exact .inr ⟨off x hx a, b⟩
    · rw [decide_eq_false a, decide_eq_false b] at c
      cases c
theorem acr_ne {e : Tie} {i : Nat} (c : CutF pl ts i e) {x y : Nm} (h : acrE pl ts e x y) : (decide (x ∈ nearP pl ts e) != decide (y ∈ nearP pl ts e)) = true := by
  rcases h with ⟨a, b⟩ | ⟨a, b⟩
  · rw [decide_eq_true a, decide_eq_false fun z => c.dis y z b]
    rfl
  · rw [decide_eq_false fun z => c.dis x z a, decide_eq_true b]
    rfl
theorem acr_symm {e : Tie} {x y : Nm} (h : acrE pl ts e x y) : acrE pl ts e y x := by
  rcases h with ⟨p, q⟩ | ⟨p, q⟩
  · exact .inr ⟨q, p⟩
  · exact .inl ⟨q, p⟩
theorem over_comm (e : Tie) (x y : Nm) : overE pl ts e x y = overE pl ts e y x := by
  unfold overE
  rw [show rE pl ts e x + e.2.2 + rE pl ts e y = rE pl ts e y + e.2.2 + rE pl ts e x by omega]
/-- of two places in unlike parts the pair in order is among the changes -/
theorem allC_has (T : IsTree pl ts) {i : Nat} {e : Tie} (he : ts[i]? = some e) {x y : Nm} (hx : x ∈ pl) (hy : y ∈ pl) (a : acrE pl ts e x y) (o : pl.idxOf x < pl.idxOf y) : (overE pl ts e x y, (i : Int), x, y) ∈ allC pl ts ts.length := by
  have il := (List.getElem?_eq_some_iff.mp he).1
  have gx : pl[pl.idxOf x]? = some x := by rw [List.getElem?_eq_getElem (List.idxOf_lt_length_of_mem hx), List.getElem_idxOf]
  have gy : pl[pl.idxOf y]? = some y := by rw [List.getElem?_eq_getElem (List.idxOf_lt_length_of_mem hy), List.getElem_idxOf]
  unfold allC
  refine List.mem_flatMap.mpr ⟨i, List.mem_range.mpr il, ?_⟩
  rw [List.getD_eq_getElem?_getD, he]
  exact List.mem_map.mpr ⟨(x, y), btw_has gx gy o (acr_ne (T.cutF he) a), rfl⟩
theorem allC_is (T : IsTree pl ts) {z : Qua} (h : z ∈ allC pl ts ts.length) : ∃ (i : Nat) (e : Tie) (x y : Nm), ts[i]? = some e ∧ z = (overE pl ts e x y, (i : Int), x, y) ∧ x ∈ pl ∧ y ∈ pl ∧ pl.idxOf x < pl.idxOf y ∧ acrE pl ts e x y := by
  unfold allC at h
  obtain ⟨i, hi, hz⟩ := List.mem_flatMap.mp h
  have il := List.mem_range.mp hi
  obtain ⟨⟨x, y⟩, hp, rfl⟩ := List.mem_map.mp hz
  have he : ts[i]? = some ts[i] := List.getElem?_eq_getElem il
  rw [List.getD_eq_getElem?_getD, he] at hp ⊢
  obtain ⟨a, b, c, d⟩ := btw_facts T.nodup hp
  exact ⟨i, ts[i], x, y, he, rfl, a, b, c, acr_of a b d⟩
theorem allC_ne (T : IsTree pl ts) (ne : ts ≠ []) : allC pl ts ts.length ≠ [] := by
  obtain ⟨e, r, et⟩ : ∃ e r, ts = e :: r := by
    cases ts with
    | nil => exact absurd rfl ne
    | cons e r => exact ⟨e, r, rfl⟩
  have he : ts[0]? = some e := by rw [et]; rfl
  have c := T.cutF he
  have m1 : e.1 ∈ pl := c.ps.mem_iff.mp (List.mem_append_left _ c.ma)
  have m2 : e.2.1 ∈ pl := c.ps.mem_iff.mp (List.mem_append_right _ c.mb)
  rcases Nat.lt_trichotomy (pl.idxOf e.1) (pl.idxOf e.2.1) with o | o | o
  · exact List.ne_nil_of_mem (allC_has T he m1 m2 (.inl ⟨c.ma, c.mb⟩) o)
  · have l1 := List.idxOf_lt_length_of_mem m1
    have e1 : pl[pl.idxOf e.1] = e.1 := List.getElem_idxOf l1
    have l2 := List.idxOf_lt_length_of_mem m2
    have e2 : pl[pl.idxOf e.2.1] = e.2.1 := List.getElem_idxOf l2
    have : e.1 = e.2.1 := by rw [← e1, ← e2]; simp only [o]
    exact absurd (this ▸ c.ma) fun z => c.dis _ z c.mb
  · exact List.ne_nil_of_mem (allC_has T he m2 m1 (.inr ⟨c.mb, c.ma⟩) o)
/-- some pair in order, whichever way about the two are told -/
theorem idx_ne {x y : Nm} (hx : x ∈ pl) (hy : y ∈ pl) (n : x ≠ y) : pl.idxOf x ≠ pl.idxOf y := fun o => by
  have l1 := List.idxOf_lt_length_of_mem hx
  have e1 : pl[pl.idxOf x] = x := List.getElem_idxOf l1
  have l2 := List.idxOf_lt_length_of_mem hy
  have e2 : pl[pl.idxOf y] = y := List.getElem_idxOf l2
  refine n ?_
  rw [← e1, ← e2]
  simp only [o]
theorem FLq.best (T : IsTree pl ts) {z : Qua} (h : FLq (allC pl ts ts.length) z) {i : Nat} {e : Tie} (he : ts[i]? = some e) {x y : Nm} (hx : x ∈ pl) (hy : y ∈ pl) (a : acrE pl ts e x y) : z.1 ≤ overE pl ts e x y := by
  have c := T.cutF he
  have n : x ≠ y := fun q => by
    subst q
    rcases a with ⟨a, b⟩ | ⟨a, b⟩
    · exact c.dis _ a b
    · exact c.dis _ b a
  rcases Nat.lt_or_gt_of_ne (idx_ne hx hy n) with o | o
  · exact h.le (allC_has T he hx hy a o)
  · rw [over_comm]
    exact h.le (allC_has T he hy hx (acr_symm a) o)
end
end Far

namespace Far
open PySem PySem.Spec PyProof.Rows L2 LamX
open C8 (pss_cut tCut)
open SX (S)
theorem dt_qua {H : Hp} {v : V} {x : Qua} (h : Dt H v (quaD x)) : ∃ t : Addr, v = .ref t ∧ H t = some (.tup [.int x.1, .int x.2.1, .str (S x.2.2.1), .str (S x.2.2.2)]) := by
  obtain ⟨t, xs, rfl, ht, hs⟩ := dt_tup h fun _ => ⟨.int x.1, by simp [quaD], fun l z => nomatch z⟩
  cases hs with
  | cons h1 hr =>
    cases hr with
    | cons h2 hr =>
      cases hr with
      | cons h3 hr =>
        cases hr with
        | cons h4 hr =>
          cases hr
          cases h1
          cases h2
          cases h3
          cases h4
          exact ⟨t, rfl, ht⟩
theorem flq_of {H : Hp} {ws : List V} {ps : List Qua} (h : DtAll H ws (ps.map quaD)) {y : V} (fl : FirstLeast ws (fun z => fstK H z) y) : ∃ x, FLq ps x ∧ Dt H y (quaD x) := by
  have at_ : ∀ (j : Nat) (x : Qua), ps[j]? = some x → ∃ v, ws[j]? = some v ∧ Dt H v (quaD x) := fun j x hx => by
    have hl := DtAll.len h
    rw [List.length_map] at hl
    have jl := (List.getElem?_eq_some_iff.mp hx).1
    have hv : ws[j]? = some (ws[j]'(by omega)) := List.getElem?_eq_getElem (by omega)
    obtain ⟨d, hd, hv'⟩ := DtAll.get h hv
    rw [List.getElem?_map, hx] at hd
    cases hd
    exact ⟨_, hv, hv'⟩
  have key : ∀ (v : V) (x : Qua), Dt H v (quaD x) → fstK H v = x.1 := fun v x hx => by
    obtain ⟨u, rfl, hu⟩ := dt_qua hx
    exact fstK_is hu
  obtain ⟨i, hi, all, bef⟩ := fl
  obtain ⟨d, hd, hy⟩ := DtAll.get h hi
  rw [List.getElem?_map] at hd
  cases ex : ps[i]? with
  | none => rw [ex] at hd; cases hd
  | some x =>
    rw [ex] at hd
    cases hd
    refine ⟨x, ⟨i, ex, fun j z hz => ?_, fun j z hj hz => ?_⟩, hy⟩
    · obtain ⟨v, hv, hvd⟩ := at_ j z hz
      have q := all j v hv
      dsimp only at q ⊢
      rw [key _ _ hy, key _ _ hvd] at q
      exact q
    · obtain ⟨v, hv, hvd⟩ := at_ j z hz
      have q := bef j v hj hv
      dsimp only at q ⊢
      rw [key _ _ hy, key _ _ hvd] at q
      exact q
theorem fst_keysQ {H : Hp} {ws : List V} {ps : List Qua} (h : DtAll H ws (ps.map quaD)) : ∀ y ∈ ws, ∃ t zs, y = V.ref t ∧ H t = some (.tup (.int (fstK H y) :: zs)) := fun y hy => by
  obtain ⟨i, hi⟩ := List.getElem?_of_mem hy
  obtain ⟨d, hd, hv⟩ := DtAll.get h hi
  rw [List.getElem?_map] at hd
  cases ex : ps[i]? with
  | none => rw [ex] at hd; cases hd
  | some x =>
    rw [ex] at hd
    cases hd
    obtain ⟨u, rfl, hu⟩ := dt_qua hv
    exact ⟨u, _, rfl, by rw [fstK_is hu]; exact hu⟩
abbrev s_best_change : Stmt := topS 11
abbrev N_best_change : List Str := ["tree", "apart", "changes", "number"]
theorem sc_best_change : FnScope N_best_change ["tree"] (defScope s_best_change) := ⟨rfl, rfl, rfl, by decide +kernel, rfl, by decide +kernel, by decide +kernel⟩
section
variable {P : Program} {w : World} {K : PySem.W.Frag} {mg : Str → Option Value} {base : Heap} {Pb Pw : Addr}
def spBC (Pb Pw : Addr) : Sp := fun vs H Q _ => ∃ (v : V) (pl : List Nm) (ts : List Tie), vs = [v] ∧ Dt H v (treeD pl ts) ∧ Fine pl ts ∧ pl.length ≤ 40 ∧ ts ≠ [] ∧ Tabs [(Pb, qB), (Pw, qW)] H ∧
  ∀ (H' : Hp) (r : V) (z : Qua), ExtN H H' → Tabs [(Pb, qB), (Pw, qW)] H' → FLq (allC pl ts ts.length) z → Dt H' r (quaD z) → Q r H'
theorem ok_best_change {f c : Addr} {fd : FuncData} (F : FunC K "best_change" "best_change" s_best_change f fd c) (T : TxtE mg) (ne : Pb ≠ Pw) (TB : TabB base mg c Pw) (C_lengths_apart : Cal P w K mg base 4 "_lengths_apart" spApart) (C_changes_of : Cal P w K mg base 4 "_changes_of" spChanges) : FnOk P w K mg base CX0 5 f fd ["tree"] (spBC Pb Pw) := by
  refine F.ok sc_best_change (fun vs H Q E h => ?_) (fun A outer s H vs Q E hr h => ?_)
  · obtain ⟨v, pl, ts, rfl, _⟩ := h
    rfl
  · obtain ⟨v, pl, ts, rfl, hd, fine, l40, tne, hT, q⟩ := h
    have hmC : (Pw, qW) ∈ [(Pb, qB), (Pw, qW)] := List.mem_cons_of_mem _ List.mem_cons_self
    have huC : ∀ p ∈ [(Pb, qB), (Pw, qW)], p.1 = Pw → p.2 = qW := fun p hp e => by
      rcases List.mem_cons.mp hp with z | z
      · rw [z] at e
        exact absurd e ne
      · rw [List.mem_singleton.mp z]
    obtain ⟨t, a, b, vs, rfl, ht, ha, hb, hA⟩ := dt_tree hd
    refine ⟨_, (pss_cons (ps_set (i := 1) sc_best_change.nd rfl (.inl rfl) (pe_c C_lengths_apart hr (by decide) rfl (pa_cons (pv 0) pa_nil)))
      (pss_cons (ps_set (i := 2) sc_best_change.nd rfl (.inl rfl) (pe_lst pa_nil))
      (pss_cut (ps_for PassesOwn.never rfl (pi_range1 (by rfl) T.range (pa_cons (pe_callB call_len_seq (by rfl) T.len bt_len (pa_cons (pe_ix ix_tup (pv 0) pe_int (fun _ _ => rfl)) pa_nil)) pa_nil)) (pg_name (i := 3) sc_best_change.nd rfl (.inl rfl))
        (pss_one (ps_expr (pe_bm PySem.F.plainAttrs_list PySem.F.slot_list_extend PySem.F.type_list_extend mt_extend (pv 2) (pa_cons (pe_c C_changes_of hr (by decide) rfl (pa_cons (pv 0) (pa_cons (pv 3) (pa_cons (pv 1) pa_nil)))) pa_nil)))))
      (pss_one (ps_ret (pe_callLD TB (by rfl) hmC huC (cr_minLamD (y := "change") (g := id) (hr.mono (by decide)) (by exact ⟨rfl, rfl, rfl, by decide, by decide, rfl⟩) body_fst (fun _ _ _ _ _ => rfl)) (by rfl) T.min bt_min (pa_cons (pv 2) pa_nil) (by rfl) (by decide))))))), ?_⟩
    have tl := fine.tree.len
    have vl : vs.length = ts.length := by
      have := DtAll.len hA
      rwa [List.length_map] at this
    refine ⟨_, rfl, .ref t, pl, ts, rfl, hd, fine, fun H1 D ad S1 nD ap => ?_⟩
    refine ⟨Nat.zero_le _, fun L nL => ?_⟩
    have S2 := same_new (o := .lst []) S1 nL
    have nL0 := S1.free nL
    refine ⟨fun σ' H' => ∃ (x3 : Option V) (ws : List V), σ' = [some (.ref t), some (.ref D), some (.ref L), x3] ∧ Same H H' ∧ H' L = some (.lst ws) ∧ DtAll H' ws ((allC pl ts ts.length).map quaD), ?_, fun σ' H' hM => ?_⟩
    rotate_left
    · obtain ⟨x3, ws, rfl, SM, hL, hW⟩ := hM
      refine ⟨_, rfl, hT.ext SM, fun H2 e2 T2 => ?_⟩
      have hW2 := DtAll.keep (TK.ofN e2) hW
      refine ⟨L, ws, fstK H2, rfl, SqL.of (e2 _ _ hL (fun ps z => by cases z)), fst_keysQ hW2, fun z => ?_, fun y fl => ?_⟩
      · subst z
        have := DtAll.len hW
        rw [List.length_map] at this
        exact absurd (List.length_eq_zero_iff.mp this.symm) (allC_ne fine.tree tne)
      · obtain ⟨x, hx, hy⟩ := flq_of hW2 fl
        exact q H2 y x (fun b o h n => e2 b o (SM b o h) n) T2 hx hy
    · have hL0 : (upd H1 L (.lst [])) L = some (.lst []) := upd_same
      have ap2 := ap.same (same_new (o := .lst []) (Same.refl H1) nL)
      generalize upd H1 L (.lst []) = H2 at S2 hL0 ap2
      refine ⟨_, rfl, t, _, 1, .ref b, rfl, rfl, SqT.of (S2 _ _ ht), atI_nat (j := 1) rfl, b, _, rfl, .inr (SqT.of (S2 _ _ hb)), _, rfl, by omega, by omega, ?_⟩
      refine for_range (lo := 0) (n := (((vs.length : Nat) : Int)).toNat) (fun i σ' H' => ∃ (x3 : Option V) (ws : List V), σ' = [some (.ref t), some (.ref D), some (.ref L), x3] ∧ Same H H' ∧ ApAt H' D ad pl ts pl ∧ H' L = some (.lst ws) ∧ DtAll H' ws ((allC pl ts i).map quaD)) ⟨none, [], rfl, S2, ap2, hL0, .nil⟩ (fun i σ' H' hi hP => ?_) (fun σ' H' hP => ?_)
      · obtain ⟨x3, ws, rfl, SM, ap3, hL, hW⟩ := hP
        have hi : i < vs.length := by simpa using hi
        obtain ⟨e, he⟩ : ∃ e, ts[i]? = some e := ⟨ts[i]'(by omega), List.getElem?_eq_getElem (by omega)⟩
        have ei : (0 : Int) + (i : Int) = ((i : Nat) : Int) := by omega
        refine ⟨_, rfl, .inl ⟨rfl, _, SqL.of hL⟩, _, rfl, _, rfl, _, rfl, .ref t, D, ad, pl, ts, i, e, by rw [ei]; rfl, Dt.keep (TK.of SM) hd, fine, he, ap3, fun H4 g zs S4 hg hZ => ?_⟩
        have S5 := SM.trans S4
        have hL4 := S4 _ _ hL
        have ap4 := ap3.same S4
        have hW4 := DtAll.keep (TK.of S4) hW
        have wl := DtAll.len hW
        have zl := DtAll.len hZ
        have b1 := allC_len pl ts i
        have b2 := chs_len pl ts i e
        have b3 : pl.length * pl.length ≤ 40 * 40 := Nat.mul_le_mul l40 l40
        have b4 : i * (pl.length * pl.length) ≤ 40 * (40 * 40) := Nat.mul_le_mul (by omega) b3
        rw [List.length_map] at wl zl
        refine ⟨L, g, ws, zs, rfl, rfl, hL4, hg, sz_le (by omega), ?_⟩
        have tk := TK.mut (o := .lst (ws ++ zs)) hL4
        have LD : D ≠ L := ne_of ap4.out hL4 (by intro z; cases z)
        refine ⟨_, ws ++ zs, rfl, same_put S5 nL0, ⟨by rw [upd_ne LD]; exact ap4.out, fun x hx => by rw [upd_ne (ne_of (ap4.inn x hx) hL4 (by intro z; cases z))]; exact ap4.inn x hx, ap4.ne⟩, upd_same, ?_⟩
        rw [allC_succ, List.getD_eq_getElem?_getD, he, List.map_append]
        exact DtAll.app (DtAll.keep tk hW4) (DtAll.keep tk hZ)
      · obtain ⟨x3, ws, rfl, SM, _, hL, hW⟩ := hP
        have en : (((vs.length : Nat) : Int)).toNat = ts.length := by omega
        rw [en] at hW
        exact ⟨x3, ws, rfl, SM, hL, hW⟩
end
end Far

namespace Far
open PySem PySem.Spec PyProof.Rows L2
section
variable {X : Cx} {a o e : Expr} {ta to te : TE}
/-- tuple(xs) of a list, the new tuple known through and through -/
def tTupZ (K : PySem.W.Frag) (ta : TE) : TE := fun σ H Q => ta σ H fun x H1 => ∃ (l : Addr) (xs : List V), x = .ref l ∧ SqL K H1 l xs ∧ ∀ (p : Addr) (o : Obj), H1 p = none → o.dict = none → Q (.ref p) (upd H1 p (.frz o (.tup xs)))
theorem pe_tupleZ {p pos : Pos} (hg : Gl X "tuple") (hm : X.mg "tuple" = none) (ha : PE X a ta) (na : starEach [a] X.env = (false, eval a X.env) :: starEach [] X.env := by rfl) : PE X (.Call (.Name "tuple" p) [a] [] pos) (tTupZ X.K ta) := by
  refine ⟨fun pins s σ H Q I h => ?_⟩
  refine Call_ (ld_blt I hg hm bt_tuple (PyProof.Rows.callWith_type1 (one_arg ha I h (fun v s2 x H2 I2 r q => ?_) na) na))
  obtain ⟨l, xs, rfl, hq, q⟩ := q
  cases r
  obtain ⟨its, rv, pl, hz⟩ := I2.list hq
  refine call_tuple_list pl.isList (fun h' k => ?_) (by rw [List.size_toArray, ← rv.length]; exact hz)
  have I3 : Inv X pins σ H2 { s2 with heap := h' } := I2.kept (t' := s2.toks) k
  have new : (h'.push { cls := .type "tuple", data := .seq its.toArray }).get? h'.objs.size = some ({ cls := .type "tuple", data := .seq its.toArray } : Obj) := Heap.get?_push_size _ rfl
  exact ⟨.ref h'.objs.size, _, I3.laid (t' := s2.toks) (o := .frz { cls := .type "tuple", data := .seq its.toArray } (.tup xs)) (fun b o e => Heap.get?_push_of_some _ e) (Nat.le_refl _)
    (show ObjOk X.prog X.w _ _ _ (.frz _ (.tup xs)) from ⟨new, hz, its, rv, IsTup.new _ _⟩), rfl, q _ _ (I3.hok.fresh (Nat.le_refl _)) rfl⟩
/-- t.index(x), the first place, of a tuple of texts known through and through -/
def tIxZ (to te : TE) : TE := fun σ H Q => to σ H fun x H1 => ∃ (p : Addr) (ys : List Str) (u : Obj), x = .ref p ∧ u.dict = none ∧ H1 p = some (.frz u (.tup (ys.map V.str))) ∧ te σ H1 fun y H2 => H2 p = H1 p ∧ ∃ (z : Str) (j : Nat), y = .str z ∧ ys[j]? = some z ∧ (∀ m, m < j → ys[m]? ≠ some z) ∧ Q (.int (j : Nat)) H2
theorem pe_ixZ {apos cpos : Pos} (ho : PE X o to) (he : PE X e te) (hbase : attributeBase o "index" X.env (eval o X.env) = eval o X.env := by rfl)
    (hfew : ((backTo cpos (starEach [e] X.env)).all (fun x => !x.1) && (backToKw cpos (keywordEach [] X.env)).all (fun x => x.1.isSome)
      && decide ([e].length + ([] : List Keyword).length + (if ([] : List Keyword).isEmpty then 0 else 1) < 30)) = true := by rfl)
    (hline : (apos.endLine == cpos.line) = true := by rfl) (na : starEach [e] X.env = (false, eval e X.env) :: starEach [] X.env := by rfl) :
    PE X (.Call (.Attribute o "index" apos) [e] [] cpos) (tIxZ to te) := by
  refine ⟨fun pins s σ H Q I h => ?_⟩
  refine wpAny_Call_method_late hbase hfew hline rfl (thn (ho.run pins s σ H _ I h) fun v s1 ⟨x, H1, I1, r1, q1⟩ => ?_)
  obtain ⟨p, ys, u, rfl, hd, hp, q1⟩ := q1
  cases r1
  have fz : ObjOk X.prog X.w H1 s1.heap p (.frz u (.tup (ys.map V.str))) := I1.hok p _ hp
  obtain ⟨hu, hz, its, rv, it⟩ := fz
  refine ⟨"tuple", "tuple.index", PySem.F.plainAttrs_tuple, PySem.F.slot_tuple_index, PySem.F.type_tuple_index, it.typeIs, fun c e => by cases e; exact ⟨u, hu, hd⟩, ?_⟩
  have hA : wpAny (model X.prog X.w) X.A (spliced (backTo cpos (starEach [e] X.env))) (fun us s2 => wpAny (model X.prog X.w) X.A (call (.builtin "tuple.index") (.ref p :: us)) (EP X pins σ Q) X.xe s2) X.xe s1 :=
    one_arg he I1 q1 (fun y s2 x H2 I2 r2 q2 => by
      obtain ⟨same, z, j, rfl, hj, hno, q⟩ := q2
      exact mt_tup_index pins s2 σ H2 (.ref p) [.str z] (.ref p) [y] Q I2 rfl (.cons r2 .nil) ⟨p, ys, z, j, rfl, rfl, .inl (.inr ⟨u, same.trans hp⟩), hj, hno, q⟩) na
  rw [na] at hA ⊢
  exact Calls.callWith_builtin (by rfl) (Calls.evalArgs_plain hA)
/-- (a, b, ..), the new tuple known through and through -/
def tTupD (ta : TA) : TE := fun σ H Q => ta σ H fun xs H1 => xs.length ≤ sizeLine ∧ ∀ (p : Addr) (o : Obj), H1 p = none → o.dict = none → Q (.ref p) (upd H1 p (.frz o (.tup xs)))
theorem pe_tupD {es : List Expr} {x1 : Nat} {pos : Pos} {t : TA} (h : PA X es t) : PE X (.Tuple es x1 pos) (tTupD t) := by
  refine ⟨fun pins s σ H Q I hq => ?_⟩
  refine wpAny_Tuple_spliced (thn (h.run pos pins s σ H _ I hq) fun us s1 ⟨xs, H1, I1, r, z, q⟩ => ⟨by rw [← r.length]; exact z, ?_⟩)
  have hf : H1 s1.heap.objs.size = none := I1.hok.fresh (Nat.le_refl _)
  have new : (s1.heap.push { cls := .type "tuple", data := .seq us.toArray }).get? s1.heap.objs.size = some ({ cls := .type "tuple", data := .seq us.toArray } : Obj) := Heap.get?_push_size _ rfl
  refine ⟨.ref s1.heap.objs.size, upd H1 s1.heap.objs.size (.frz { cls := .type "tuple", data := .seq us.toArray } (.tup xs)), I1.laid (t' := s1.toks) (fun b u e => Heap.get?_push_of_some _ e) (Nat.le_refl _) ?_, rfl, q _ _ hf rfl⟩
  exact (show ObjOk X.prog X.w _ _ _ (.frz _ (.tup xs)) from ⟨new, z, us, r, IsTup.new _ _⟩)
end
end Far

namespace Far
open PySem PySem.Spec PyProof.Rows L2
open C8 (pss_cut tCut)
open SX (S)
def pre (j : Nat) : Nm := [97 + j % 26] ++ [97 + j / 26 % 26]
theorem pre_inj {i j : Nat} (hi : i < 676) (hj : j < 676) (h : pre i = pre j) : i = j := by
  unfold pre at h
  simp at h
  omega
/-- names taken already: a list of them or a tuple -/
def TakenAt (H : Hp) (p : Addr) (ls : List Nm) : Prop := NamesAt H p ls ∨ TupAt H p ((ls.map S).map V.str)
theorem TakenAt.mv {H H' : Hp} {p d : Addr} {ls : List Nm} (h : TakenAt H p ls) (s : SmX d H H') (n : p ≠ d) : TakenAt H' p ls :=
  h.elim (fun h => .inl (s p _ n h)) fun h => .inr (h.elim (fun h => .inl (s p _ n h)) fun ⟨o, e, h⟩ => .inr ⟨o, e, s p _ n h⟩)
theorem TakenAt.sq {K : PySem.W.Frag} {H : Hp} {p : Addr} {ls : List Nm} (h : TakenAt H p ls) : SqL K H p ((ls.map S).map V.str) ∨ SqT K H p ((ls.map S).map V.str) := h.elim (fun h => .inl (SqL.of h)) fun h => .inr h.sq
/-- the names found so far, the turns that found none -/
structure Fnd (fs tks : List Nm) (t : Nat) (js : List Nat) : Prop where
  nd : fs.Nodup
  ok : ∀ l ∈ fs, NameOk l
  un : ∀ l ∈ fs, l ∉ tks
  jn : js.Nodup
  jl : ∀ j ∈ js, j < t ∧ pre j ∈ (fs ++ tks).map (List.take 2)
  eq : t = fs.length + js.length
theorem Fnd.le {fs tks : List Nm} {t : Nat} {js : List Nat} (h : Fnd fs tks t js) (ht : t ≤ 676) : t ≤ 2 * fs.length + tks.length := by
  have nd : (js.map pre).Nodup := by
    rw [List.Nodup, List.pairwise_map]
    have := h.jn
    rw [List.Nodup] at this
    exact List.Pairwise.imp_of_mem (fun {a b} ha hb ne e => ne (pre_inj (by have := (h.jl a ha).1; omega) (by have := (h.jl b hb).1; omega) e)) this
  have := nodup_sub_len _ ((fs ++ tks).map (List.take 2)) nd fun x hx => by
    obtain ⟨j, hj, rfl⟩ := List.mem_map.mp hx
    exact (h.jl j hj).2
  rw [List.length_map, List.length_map, List.length_append] at this
  have := h.eq
  omega
theorem Fnd.hit {fs tks : List Nm} {t : Nat} {js : List Nat} {l : Nm} (h : Fnd fs tks t js) (ok : NameOk l) (n1 : l ∉ fs) (n2 : l ∉ tks) : Fnd (fs ++ [l]) tks (t + 1) js := by
  refine ⟨nd_snoc' h.nd n1, fun x hx => ?_, fun x hx => ?_, h.jn, fun j hj => ?_, by rw [List.length_append, List.length_singleton]; have := h.eq; omega⟩
  · rcases List.mem_append.mp hx with z | z
    · exact h.ok x z
    · rw [List.mem_singleton.mp z]
      exact ok
  · rcases List.mem_append.mp hx with z | z
    · exact h.un x z
    · rw [List.mem_singleton.mp z]
      exact n2
  · obtain ⟨h1, h2⟩ := h.jl j hj
    refine ⟨by omega, ?_⟩
    rw [List.map_append] at h2 ⊢
    rw [List.map_append]
    rcases List.mem_append.mp h2 with z | z
    · exact List.mem_append_left _ (List.mem_append_left _ z)
    · exact List.mem_append_right _ z
theorem Fnd.miss {fs tks : List Nm} {t : Nat} {js : List Nat} {l : Nm} (h : Fnd fs tks t js) (e : l.take 2 = pre t) (n : l ∈ fs ∨ l ∈ tks) : Fnd fs tks (t + 1) (js ++ [t]) := by
  refine ⟨h.nd, h.ok, h.un, nd_snoc' h.jn fun z => by have := (h.jl t z).1; omega, fun j hj => ?_, by rw [List.length_append, List.length_singleton]; have := h.eq; omega⟩
  rcases List.mem_append.mp hj with z | z
  · obtain ⟨h1, h2⟩ := h.jl j z
    exact ⟨by omega, h2⟩
  · rw [List.mem_singleton.mp z]
    exact ⟨by omega, List.mem_map.mpr ⟨l, List.mem_append.mpr n, e⟩⟩
abbrev s_law_names : Stmt := topS 41
abbrev N_law_names : List Str := ["deck", "many", "taken", "letters", "way", "stem", "at", "found", "turn", "name", "k"]
theorem sc_law_names : FnScope N_law_names ["deck", "many", "taken"] (defScope s_law_names) := ⟨rfl, rfl, rfl, by decide +kernel, rfl, by decide +kernel, by decide +kernel⟩
section
variable {P : Program} {w : World} {K : PySem.W.Frag} {mg : Str → Option Value} {base : Heap}
def spNames : Sp := fun vs H Q _ => ∃ (d tk : Addr) (n many : Nat) (tks : List Nm), vs = [.ref d, .int many, .ref tk] ∧ SeedAt H d n ∧ n < 90000 ∧ 1 ≤ many ∧ many ≤ 30 ∧ tk ≠ d ∧ TakenAt H tk tks ∧ tks.length ≤ 40 ∧
  ∀ (H' : Hp) (p : Addr) (fs : List Nm), fs.length = many → fs.Nodup → (∀ l ∈ fs, NameOk l) → (∀ l ∈ fs, l ∉ tks) → H p = none → p ≠ d → NamesAt H' p fs → SmX d H H' → SeedAt H' d (n + 1100) → Q (.ref p) H'
theorem ok_names {f : Addr} {fd : FuncData} (F : Fun K "_law_names" "_law_names" s_law_names f fd) (T : TxtG mg) (C_law_draw : Cal P w K mg base 1 "_law_draw" spDraw) : FnOk P w K mg base CX0 2 f fd ["deck", "many", "taken"] spNames := by
  refine F.ok sc_law_names (fun vs H Q E h => ?_) (fun cdv A outer s H vs Q E hr h => ?_)
  · obtain ⟨d, tk, n, many, tks, rfl, _⟩ := h
    rfl
  · obtain ⟨d, tk, n, many, tks, rfl, hD, hn, m1, m30, ntd, hT, ltk, q⟩ := h
    refine ⟨_, (pss_cons (ps_set (i := 3) sc_law_names.nd rfl (.inr rfl) pe_str)
      (pss_cons (ps_set (i := 4) sc_law_names.nd rfl (.inl rfl) (pe_c C_law_draw hr (by decide) rfl (pa_cons (pv 0) (pa_cons pe_int pa_nil))))
      (pss_cons (ps_set (i := 5) sc_law_names.nd rfl (.inl rfl) (pe_join pe_str (pe_lc (own := [("k", 10)]) (g := gName 10) (tt := tYes) rfl sc_law_names.nd (pi_range1 (by rfl) T.range (pa_cons pe_int pa_nil)) (blkOk_by (N := N_law_names) (sc := defScope s_law_names) (by decide +kernel)) (fun _ _ _ _ _ => pg_name (i := 10) sc_law_names.nd rfl (Or.inl rfl)) (fun _ _ _ _ _ => pts_nil) (fun _ _ _ _ _ => (pe_ix ix_str (pv 3) (pe_c C_law_draw hr (by decide) rfl (pa_cons (pv 0) (pa_cons pe_int pa_nil))) (fun _ _ => rfl))))))
      (pss_cons (ps_set (i := 6) sc_law_names.nd rfl (.inl rfl) (pe_c C_law_draw hr (by decide) rfl (pa_cons (pv 0) (pa_cons pe_int pa_nil))))
      (pss_cons (ps_set (i := 7) sc_law_names.nd rfl (.inl rfl) (pe_lst pa_nil))
      (pss_cons (ps_set (i := 8) sc_law_names.nd rfl (.inl rfl) pe_int)
      (pss_cut (ps_while PassesOwn.never (pt_cmpR op_lt (pe_callB call_len_seq (by rfl) T.len bt_len (pa_cons (pv 7) pa_nil)) (pv 1) (nomark _))
        (pss_cons (ps_set (i := 9) sc_law_names.nd rfl (.inl rfl) (pe_ix ix_str (pv 3) (pe_c C_law_draw hr (by decide) rfl (pa_cons (pv 0) (pa_cons pe_int pa_nil))) (fun _ _ => rfl)))
        (pss_cut (ps_if (pt_cmpR op_eq (pv 4) pe_int (nomark _))
          (pss_one (ps_set (i := 9) sc_law_names.nd rfl (.inl rfl) (pe_join pe_str (pe_lc (own := [("k", 10)]) (g := gName 10) (tt := tYes) rfl sc_law_names.nd (pi_range1 (by rfl) T.range (pa_cons (pe_op op_add pe_int (pe_c C_law_draw hr (by decide) rfl (pa_cons (pv 0) (pa_cons pe_int pa_nil)))) pa_nil)) (blkOk_by (N := N_law_names) (sc := defScope s_law_names) (by decide +kernel)) (fun _ _ _ _ _ => pg_name (i := 10) sc_law_names.nd rfl (Or.inl rfl)) (fun _ _ _ _ _ => pts_nil) (fun _ _ _ _ _ => (pe_ix ix_str (pv 3) (pe_c C_law_draw hr (by decide) rfl (pa_cons (pv 0) (pa_cons pe_int pa_nil))) (fun _ _ => rfl)))))))
          pss_nil)
        (pss_cut (ps_if (pt_cmpR op_eq (pv 4) pe_int (nomark _))
          (pss_one (ps_set (i := 9) sc_law_names.nd rfl (.inl rfl) (pe_op op_add_str (pe_op op_add_str (pe_slice C8.sl_txt (pv 5) po_none (po_some (pv 6))) (pv 9)) (pe_slice C8.sl_txt (pv 5) (po_some (pe_op op_add (pv 6) pe_int)) po_none))))
          pss_nil)
        (pss_cut (ps_if (PW.pt (pw_or (pt_cmpR op_in_seq (pv 9) (pv 7) rfl) (pw_or1 (pt_cmpR op_in_seq (pv 9) (pv 2) rfl))))
          (pss_one (ps_set (i := 9) sc_law_names.nd rfl (.inl rfl) (pe_op op_add_str (pe_op op_add_str (pe_ix ix_str (pv 3) (pe_op op_mod (pv 8) pe_int) (fun _ _ => rfl)) (pe_ix ix_str (pv 3) (pe_op op_mod (pe_op op_fdiv (pv 8) pe_int) pe_int) (fun _ _ => rfl))) (pe_slice C8.sl_txt (pv 9) po_none (po_some pe_int)))))
          pss_nil)
        (pss_cut (ps_if (PW.pt (pw_and (pt_cmpR op_notIn_seq (pv 9) (pv 7) rfl) (pw_and1 (pt_cmpR op_notIn_seq (pv 9) (pv 2) rfl))))
          (pss_one (ps_expr (pe_bm PySem.F.plainAttrs_list PySem.F.slot_list_append PySem.F.type_list_append mt_append (pv 7) (pa_cons (pv 9) pa_nil))))
          pss_nil)
        (pss_one (ps_set (i := 8) sc_law_names.nd rfl (.inl rfl) (pe_op op_add (pv 8) pe_int)))))))))
      (pss_one (ps_ret (pv 7)))))))))), ?_⟩
    -- way, stem, at
    refine ⟨_, rfl, d, _, 3, rfl, hD, by omega, by decide, by decide, fun H1 way w0 w1 S1 D1 => ?_⟩
    refine ⟨⟨_, rfl⟩, 8, rfl, by decide, by decide, fun D nD => ?_⟩
    have nDd : D ≠ d := D1.nd nD
    have D0 : H D = none := SmX.free S1 nD nDd
    refine lc_range (lo := 0) (n := (8 : Int).toNat) (fun i H' => ∃ cs : List Nat, cs.length = i ∧ (∀ c ∈ cs, 97 ≤ c ∧ c ≤ 122) ∧ H' D = some (.lst ((cs.map fun c => S [c]).map V.str)) ∧ SmX d H H' ∧ SeedAt H' d (n + 1 + i)) ⟨[], rfl, by simp, upd_same, S1.new nD, D1.new nD⟩ (fun i H' hi hP => ?_) (fun H' hP => ?_)
    · obtain ⟨cs, hlc, hc, hD', SM, DD⟩ := hP
      have hi : i < 8 := hi
      refine ⟨rfl, _, rfl, _, rfl, d, _, 26, rfl, DD, by omega, by decide, by decide, fun H4 r4 r40 r41 S4 D4 => ?_⟩
      obtain ⟨v, hv, mv⟩ := atI_in (xs := abc.cps.toList) r40 (by rw [abc_len]; exact r41)
      refine ⟨abc, r4, v, rfl, rfl, by decide, hv, ?_⟩
      refine ⟨_, S4 D _ nDd hD', by rw [List.length_map, List.length_map]; exact sz_lt (by omega), cs ++ [v], by simp [hlc], fun c hc' => ?_, ?_, (SM.trans S4).put D0, D4.put nDd⟩
      · rcases List.mem_append.mp hc' with z | z
        · exact hc c z
        · rw [List.mem_singleton.mp z]
          exact abc_ok v mv
      · rw [upd_same, List.map_append, List.map_append]
        rfl
    obtain ⟨cs, hlc, hc, hD', SM, DD⟩ := hP
    refine ⟨_, D, cs.map (fun c => S [c]), rfl, rfl, .inl (SqL.of hD'), ?_, ?_⟩
    · rw [one_sum']
      have : ((("" : Str)).length) = 0 := rfl
      rw [this, List.length_map]
      omega
    have e : Txt.join ("" : Str) (cs.map fun c => S [c]) = S cs := by
      have := SX.join_S [] (cs.map fun c => [c])
      rw [List.map_map] at this
      rw [join_none, flat_one] at this
      exact this
    rw [e]
    have lcs : cs.length = 8 := hlc
    clear hlc hD' e
    refine ⟨_, rfl, d, _, 8, rfl, DD, by omega, by decide, by decide, fun H2 at' a0 a1 S2 D2 => ?_⟩
    have SM2 := SM.trans S2
    refine ⟨Nat.zero_le _, fun p np => ?_⟩
    have npd : p ≠ d := D2.nd np
    have np0 : H p = none := SmX.free SM2 np npd
    have SM3 : SmX d H (upd H2 p (.lst [])) := SM2.new np
    have D3 : SeedAt (upd H2 p (.lst [])) d (n + 10 + 10 * 0) := (D2.new np).mono (by show n + 1 + 8 + 1 ≤ _; omega)
    have hN3 : NamesAt (upd H2 p (.lst [])) p [] := upd_same
    generalize upd H2 p (.lst []) = H3 at SM3 D3 hN3
    refine ⟨fun σ' H' => ∃ (fs : List Nm) (t : Nat) (x8 x9 : Option V), σ' = [some (.ref d), some (.int many), some (.ref tk), some (.str abc), some (.int way), some (.str (S cs)), some (.int at'), some (.ref p), x8, x9, none] ∧ (∃ js, Fnd fs tks t js) ∧ t ≤ 100 ∧ fs.length = many ∧ NamesAt H' p fs ∧ SmX d H H' ∧ SeedAt H' d (n + 10 + 10 * t), ?_, fun σ' H' hM => ?_⟩
    · refine ⟨fun m σ' H' => ∃ (fs : List Nm) (t : Nat) (js : List Nat) (x9 : Option V), σ' = [some (.ref d), some (.int many), some (.ref tk), some (.str abc), some (.int way), some (.str (S cs)), some (.int at'), some (.ref p), some (.int t), x9, none] ∧ Fnd fs tks t js ∧ t + m = 500 ∧ fs.length ≤ many ∧ NamesAt H' p fs ∧ SmX d H H' ∧ SeedAt H' d (n + 10 + 10 * t), ⟨500, [], 0, [], none, rfl, ⟨by simp, by simp, by simp, by simp, by simp, rfl⟩, rfl, Nat.zero_le _, hN3, SM3, D3⟩, ?_⟩
      rintro m' σ' H' ⟨fs, t, js, x9, rfl, hF, em, lf, hN, SM', D'⟩
      have tb := hF.le (by omega)
      refine ⟨_, rfl, p, _, rfl, .inl (SqL.of hN), _, rfl, _, _, rfl, rfl, _, rfl, ?_⟩
      rw [List.length_map, List.length_map]
      refine ite2 (fun e => ?_) (fun e => ⟨fs, t, _, _, rfl, ⟨js, hF⟩, by omega, by have e : ¬ ((fs.length : Int) < many) := fun z => e (decide_eq_true z); omega, hN, SM', D'⟩)
      have e := of_decide_eq_true e
      have lf2 : fs.length < many := by omega
      refine ⟨fun σ'' H'' => ∃ (fs' : List Nm) (js' : List Nat) (x9 : Option V), σ'' = [some (.ref d), some (.int many), some (.ref tk), some (.str abc), some (.int way), some (.str (S cs)), some (.int at'), some (.ref p), some (.int ((t : Int) + 1)), x9, none] ∧ Fnd fs' tks (t + 1) js' ∧ fs'.length ≤ many ∧ NamesAt H'' p fs' ∧ SmX d H H'' ∧ SeedAt H'' d (n + 10 + 10 * (t + 1)), ?_, ?_⟩
      · rintro σ'' H'' ⟨fs', js', x9, rfl, h1, h2, h3, h4, h5⟩
        exact ⟨m' - 1, by omega, fs', t + 1, js', x9, rfl, h1, by omega, h2, h3, h4, h5⟩
      -- name
      refine ⟨_, rfl, _, rfl, d, _, 26, rfl, D', by omega, by decide, by decide, fun H4 r4 r40 r41 S4 D4 => ?_⟩
      obtain ⟨v, hv, mv⟩ := atI_in (xs := abc.cps.toList) r40 (by rw [abc_len]; exact r41)
      refine ⟨abc, r4, v, rfl, rfl, by decide, hv, ?_⟩
      have okv := abc_ok v mv
      have SM4 := SM'.trans S4
      have hN4 : NamesAt H4 p fs := S4 p _ npd hN
      refine ⟨fun σ'' H'' => ∃ l : Nm, σ'' = [some (.ref d), some (.int many), some (.ref tk), some (.str abc), some (.int way), some (.str (S cs)), some (.int at'), some (.ref p), some (.int t), some (.str (S l)), none] ∧ NameOk l ∧ (way = 2 → l.length = 1) ∧ NamesAt H'' p fs ∧ SmX d H H'' ∧ SeedAt H'' d (n + 10 + 10 * t + 10), ?_, fun σ'' H'' hM => ?_⟩
      · refine ⟨_, rfl, rfl, _, rfl, ite2 (fun e1 => ?_) (fun e1 => ⟨[v], rfl, ⟨by simp, by simp, fun c hc => by rw [List.mem_singleton.mp hc]; exact okv⟩, fun _ => rfl, hN4, SM4, D4.mono (by omega)⟩)⟩
        have ew : way = 1 := by simpa using e1
        refine ⟨⟨_, rfl⟩, _, rfl, d, _, 8, rfl, D4, by omega, by decide, by decide, fun H5 r5 r50 r51 S5 D5 => ⟨_, _, rfl, rfl, 1 + r5, rfl, by omega, by omega, fun D nD => ?_⟩⟩
        have SM5 := SM4.trans S5
        have nDd : D ≠ d := D5.nd nD
        have D0 : H D = none := SmX.free SM5 nD nDd
        have hN5 : NamesAt H5 p fs := S5 p _ npd hN4
        have nDp : p ≠ D := ne_of_none hN5 nD
        refine lc_range (lo := 0) (n := (1 + r5).toNat) (fun i H' => ∃ cs : List Nat, cs.length = i ∧ (∀ c ∈ cs, 97 ≤ c ∧ c ≤ 122) ∧ H' D = some (.lst ((cs.map fun c => S [c]).map V.str)) ∧ NamesAt H' p fs ∧ SmX d H H' ∧ SeedAt H' d (n + 10 + 10 * t + 2 + i)) ⟨[], rfl, by simp, upd_same, by unfold NamesAt; rw [upd_ne nDp]; exact hN5, SM5.new nD, (D5.new nD).mono (by omega)⟩ (fun i H' hi hP => ?_) (fun H' hP => ?_)
        · obtain ⟨cs, hlc, hc, hD', hN', SM, DD⟩ := hP
          refine ⟨rfl, _, rfl, _, rfl, d, _, 26, rfl, DD, by omega, by decide, by decide, fun H4 r4 r40 r41 S4 D4 => ?_⟩
          obtain ⟨v, hv, mv⟩ := atI_in (xs := abc.cps.toList) r40 (by rw [abc_len]; exact r41)
          refine ⟨abc, r4, v, rfl, rfl, by decide, hv, ?_⟩
          refine ⟨_, S4 D _ nDd hD', by rw [List.length_map, List.length_map]; exact sz_lt (by omega), cs ++ [v], by simp [hlc], fun c hc' => ?_, ?_, ?_, (SM.trans S4).put D0, D4.put nDd⟩
          · rcases List.mem_append.mp hc' with z | z
            · exact hc c z
            · rw [List.mem_singleton.mp z]
              exact abc_ok v mv
          · rw [upd_same, List.map_append, List.map_append]
            rfl
          · unfold NamesAt
            rw [upd_ne nDp]
            exact S4 p _ npd hN'
        · obtain ⟨cs, hlc, hc, hD', hN', SM, DD⟩ := hP
          refine ⟨_, D, cs.map (fun c => S [c]), rfl, rfl, .inl (SqL.of hD'), ?_, ?_⟩
          · rw [one_sum']
            have : ((("" : Str)).length) = 0 := rfl
            rw [this, List.length_map]
            omega
          · have e : Txt.join ("" : Str) (cs.map fun c => S [c]) = S cs := by
              have := SX.join_S [] (cs.map fun c => [c])
              rw [List.map_map] at this
              rw [join_none, flat_one] at this
              exact this
            rw [e]
            exact ⟨cs, rfl, ⟨by omega, by omega, hc⟩, fun z => by omega, hN', SM, DD.mono (by omega)⟩
      obtain ⟨l, rfl, lok, l2, hN5, SM5, D5⟩ := hM
      -- amid the stem
      refine ⟨fun σ3 H3 => ∃ l : Nm, σ3 = [some (.ref d), some (.int many), some (.ref tk), some (.str abc), some (.int way), some (.str (S cs)), some (.int at'), some (.ref p), some (.int t), some (.str (S l)), none] ∧ NameOk l ∧ H3 = H'', ?_, fun σ3 H3 hM => ?_⟩
      · refine ⟨_, rfl, rfl, _, rfl, ite2 (fun e1 => ?_) (fun e1 => ⟨l, rfl, lok, rfl⟩)⟩
        have ew : way = 2 := by simpa using e1
        have l21 := l2 ew
        refine ⟨_, rfl, _, rfl, at', rfl, S cs, rfl, by rw [SX.S_len]; exact sz_le (by omega), ?_⟩
        refine ⟨_, rfl, S (cs.take at'.toNat), S l, congrArg V.str (SX.slice_to a0), rfl, by rw [SX.S_len, SX.S_len, List.length_take]; exact sz_le (by omega), ?_⟩
        refine ⟨_, rfl, _, rfl, at', 1, rfl, rfl, at' + 1, rfl, S cs, rfl, by rw [SX.S_len]; exact sz_le (by omega), S (cs.take at'.toNat ++ l), S (cs.drop (at' + 1).toNat), congrArg V.str (SX.S_cat _ _), congrArg V.str (SX.slice_from (by omega)), by rw [SX.S_len, SX.S_len, List.length_append, List.length_take, List.length_drop]; exact sz_le (by omega), ?_⟩
        refine ⟨cs.take at'.toNat ++ l ++ cs.drop (at' + 1).toNat, by rw [SX.S_cat]; rfl, ⟨?_, ?_, fun c hc' => ?_⟩, rfl⟩
        · simp
          omega
        · simp
          omega
        · rcases List.mem_append.mp hc' with z | z
          · rcases List.mem_append.mp z with z | z
            · exact hc c (List.mem_of_mem_take z)
            · exact lok.2.2 c z
          · exact hc c (List.mem_of_mem_drop z)
      obtain ⟨l, rfl, lok, rfl⟩ := hM
      have hT5 : TakenAt H3 tk tks := hT.mv SM5 ntd
      -- made otherwise
      refine ⟨fun σ4 H4 => ∃ l : Nm, σ4 = [some (.ref d), some (.int many), some (.ref tk), some (.str abc), some (.int way), some (.str (S cs)), some (.int at'), some (.ref p), some (.int t), some (.str (S l)), none] ∧ NameOk l ∧ ((l ∉ fs ∧ l ∉ tks) ∨ l.take 2 = pre t) ∧ H4 = H3, ?_, fun σ4 H4 hM => ?_⟩
      · have ok2 : NameOk (pre t ++ l.take 6) := by
          refine ⟨by simp [pre], ?_, fun c hc' => ?_⟩
          · rw [List.length_append, List.length_take]
            show 2 + _ ≤ 8
            omega
          · rcases List.mem_append.mp hc' with z | z
            · unfold pre at z
              simp at z
              omega
            · exact lok.2.2 c (List.mem_of_mem_take z)
        have et : (t : Int) / 26 % 26 = (((t / 26 % 26 : Nat)) : Int) := by omega
        have em' : (t : Int) % 26 = (((t % 26 : Nat)) : Int) := by omega
        have b1 : atI abc.cps.toList ((t : Int) / 26 % 26) = some (97 + t / 26 % 26) := by
          rw [et]
          exact abc_at ⟨t / 26 % 26, by omega⟩
        have b2 : atI abc.cps.toList ((t : Int) % 26) = some (97 + t % 26) := by
          rw [em']
          exact abc_at ⟨t % 26, by omega⟩
        refine ⟨_, rfl, _, rfl, p, _, rfl, .inl (SqL.of hN5), rfl, flat_strs fs, _, rfl, ?_⟩
        rw [inV_strs]
        by_cases c1 : l ∈ fs
        · rw [decide_eq_true c1]
          refine iteT (iteT ?_)
          refine ⟨_, rfl, _, rfl, _, _, rfl, rfl, (by show (0 : Int) < _; decide), abc, (t : Int) % 26, _, rfl, rfl, by decide, b2, ?_⟩
          refine ⟨_, rfl, _, rfl, _, _, rfl, rfl, ⟨by decide, by decide⟩, _, _, rfl, rfl, (by show (0 : Int) < _; decide), abc, (t : Int) / 26 % 26, _, rfl, rfl, by decide, b1, ?_⟩
          refine ⟨S [97 + t % 26], S [97 + t / 26 % 26], rfl, rfl, by rw [SX.S_len, SX.S_len]; exact sz_le (by simp), ?_⟩
          refine ⟨_, rfl, 6, rfl, S l, rfl, by rw [SX.S_len]; exact sz_le (by have := lok.2.1; omega), ?_⟩
          refine ⟨S (pre t), S (l.take 6), congrArg V.str (SX.S_cat _ _), congrArg V.str (SX.slice_to (by decide)), by rw [SX.S_len, SX.S_len, List.length_take]; exact sz_le (by simp [pre]; omega), ?_⟩
          exact ⟨pre t ++ l.take 6, by rw [SX.S_cat]; rfl, ok2, .inr (by simp [pre]), rfl⟩
        · rw [decide_eq_false c1]
          refine iteF ?_
          refine ⟨_, rfl, _, rfl, tk, _, rfl, hT5.sq, rfl, flat_strs tks, _, rfl, ?_⟩
          rw [inV_strs]
          by_cases c2 : l ∈ tks
          · rw [decide_eq_true c2]
            refine iteT ?_
            refine ⟨_, rfl, _, rfl, _, _, rfl, rfl, (by show (0 : Int) < _; decide), abc, (t : Int) % 26, _, rfl, rfl, by decide, b2, ?_⟩
            refine ⟨_, rfl, _, rfl, _, _, rfl, rfl, ⟨by decide, by decide⟩, _, _, rfl, rfl, (by show (0 : Int) < _; decide), abc, (t : Int) / 26 % 26, _, rfl, rfl, by decide, b1, ?_⟩
            refine ⟨S [97 + t % 26], S [97 + t / 26 % 26], rfl, rfl, by rw [SX.S_len, SX.S_len]; exact sz_le (by simp), ?_⟩
            refine ⟨_, rfl, 6, rfl, S l, rfl, by rw [SX.S_len]; exact sz_le (by have := lok.2.1; omega), ?_⟩
            refine ⟨S (pre t), S (l.take 6), congrArg V.str (SX.S_cat _ _), congrArg V.str (SX.slice_to (by decide)), by rw [SX.S_len, SX.S_len, List.length_take]; exact sz_le (by simp [pre]; omega), ?_⟩
            exact ⟨pre t ++ l.take 6, by rw [SX.S_cat]; rfl, ok2, .inr (by simp [pre]), rfl⟩
          · rw [decide_eq_false c2]
            exact iteF ⟨l, rfl, lok, .inl ⟨c1, c2⟩, rfl⟩
      obtain ⟨l, rfl, lok, lc, rfl⟩ := hM
      -- put behind
      refine ⟨fun σ5 H5 => ∃ (fs' : List Nm) (js' : List Nat), σ5 = [some (.ref d), some (.int many), some (.ref tk), some (.str abc), some (.int way), some (.str (S cs)), some (.int at'), some (.ref p), some (.int t), some (.str (S l)), none] ∧ Fnd fs' tks (t + 1) js' ∧ fs'.length ≤ many ∧ NamesAt H5 p fs' ∧ SmX d H H5 ∧ SeedAt H5 d (n + 10 + 10 * (t + 1)), ?_, fun σ5 H5 hM => ?_⟩
      · refine ⟨_, rfl, _, rfl, p, _, rfl, .inl (SqL.of hN5), rfl, flat_strs fs, _, rfl, ?_⟩
        rw [inV_strs]
        by_cases c1 : l ∈ fs
        · rw [decide_eq_true c1]
          refine iteF (iteF ?_)
          have lc : l.take 2 = pre t := lc.resolve_left fun z => z.1 c1
          exact ⟨fs, js ++ [t], rfl, hF.miss lc (.inl c1), lf, hN5, SM5, D5.mono (by omega)⟩
        · rw [decide_eq_false c1]
          refine iteT ?_
          refine ⟨_, rfl, _, rfl, tk, _, rfl, hT5.sq, rfl, flat_strs tks, _, rfl, ?_⟩
          rw [inV_strs]
          by_cases c2 : l ∈ tks
          · rw [decide_eq_true c2]
            refine iteF ?_
            have lc : l.take 2 = pre t := lc.resolve_left fun z => z.2 c2
            exact ⟨fs, js ++ [t], rfl, hF.miss lc (.inr c2), lf, hN5, SM5, D5.mono (by omega)⟩
          · rw [decide_eq_false c2]
            refine iteT ?_
            refine ⟨_, rfl, .inl ⟨rfl, _, SqL.of hN5⟩, _, rfl, p, _, _, rfl, rfl, hN5, by rw [List.length_map, List.length_map]; exact sz_lt (by omega), ?_⟩
            refine ⟨fs ++ [l], js, rfl, hF.hit lok c1 c2, by rw [List.length_append, List.length_singleton]; omega, ?_, SM5.put np0, (D5.put npd).mono (by omega)⟩
            unfold NamesAt
            rw [upd_same, List.map_append, List.map_append]
            rfl
      obtain ⟨fs', js', rfl, h1, h2, h3, h4, h5⟩ := hM
      exact ⟨_, rfl, _, _, rfl, rfl, fs', js', _, rfl, h1, h2, h3, h4, h5⟩
    · obtain ⟨fs, t, x8, x9, rfl, ⟨js, hF⟩, t1, lf, hN, SM', D'⟩ := hM
      exact ⟨_, rfl, q _ p fs lf hF.nd hF.ok hF.un np0 npd hN SM' (D'.mono (by omega))⟩
end
end Far

namespace Far
open PySem PySem.Spec PyProof.Rows L2
open C8 (pss_cut tCut)
open SX (S)
theorem SeedAt.tk {H H' : Hp} {d : Addr} {n : Nat} (h : SeedAt H d n) (s : SmX d H H') : TK H H' := by
  obtain ⟨xs, e⟩ := h.lst
  exact s.tk e
theorem seq_ix {r : Int} {n : Nat} (h0 : 0 ≤ r) (h1 : r < n) : seqIndex? r n = some r.toNat := by
  refine (ixN_seq (j := r.toNat) ?_).1
  unfold ixN
  rw [if_pos h0, if_pos h1]
/-- within the making of a tree: the names at p, the ties so far at t -/
structure Tr (H H' : Hp) (d p t : Addr) (n : Nat) (ls : List Nm) (tvs : List V) (ts : List Tie) : Prop where
  nm : NamesAt H' p ls
  tt : H' t = some (.lst tvs)
  al : DtAll H' tvs (ts.map tieD)
  sm : SmX d H H'
  dk : SeedAt H' d n
theorem Tr.new {H H' : Hp} {d p t q : Addr} {n : Nat} {ls : List Nm} {tvs : List V} {ts : List Tie} {o : HO} (x : Tr H H' d p t n ls tvs ts) (nq : H' q = none) : Tr H (upd H' q o) d p t n ls tvs ts :=
  ⟨by unfold NamesAt; rw [upd_ne (ne_of_none x.nm nq)]; exact x.nm, by rw [upd_ne (ne_of_none x.tt nq)]; exact x.tt, DtAll.keep (TK.new nq) x.al, x.sm.new nq, x.dk.new nq⟩
theorem Tr.step {H H' H'' : Hp} {d p t : Addr} {n m : Nat} {ls : List Nm} {tvs : List V} {ts : List Tie} (x : Tr H H' d p t n ls tvs ts) (npd : p ≠ d) (ntd : t ≠ d) (s : SmX d H' H'') (D : SeedAt H'' d m) : Tr H H'' d p t m ls tvs ts :=
  ⟨s p _ npd x.nm, s t _ ntd x.tt, DtAll.keep (x.dk.tk s) x.al, x.sm.trans s, D⟩
theorem Tr.put {H H' : Hp} {d p t q : Addr} {n : Nat} {ls : List Nm} {tvs xs : List V} {ts : List Tie} {o : HO} (x : Tr H H' d p t n ls tvs ts) (np : q ≠ p) (nt : q ≠ t) (nd : q ≠ d) (n0 : H q = none) (hq : H' q = some (.lst xs)) : Tr H (upd H' q o) d p t n ls tvs ts :=
  ⟨by unfold NamesAt; rw [upd_ne np.symm]; exact x.nm, by rw [upd_ne nt.symm]; exact x.tt, DtAll.keep (TK.mut hq) x.al, x.sm.put n0, x.dk.put nd⟩
theorem Tr.take {H H' : Hp} {d p t : Addr} {n k : Nat} {ls : List Nm} {tvs : List V} {ts : List Tie} (x : Tr H H' d p t n ls tvs ts) (np : p ≠ t) (nd : t ≠ d) (n0 : H t = none) : Tr H (upd H' t (.lst (tvs.eraseIdx k))) d p t n ls (tvs.eraseIdx k) (ts.eraseIdx k) :=
  ⟨by unfold NamesAt; rw [upd_ne np]; exact x.nm, upd_same, by rw [← map_erase]; exact DtAll.del k (DtAll.keep (TK.mut x.tt) x.al), x.sm.put n0, x.dk.put nd⟩
theorem Tr.mono {H H' : Hp} {d p t : Addr} {n m : Nat} {ls : List Nm} {tvs : List V} {ts : List Tie} (x : Tr H H' d p t n ls tvs ts) (h : n ≤ m) : Tr H H' d p t m ls tvs ts := ⟨x.nm, x.tt, x.al, x.sm, x.dk.mono h⟩
abbrev s_law_tree : Stmt := topS 42
abbrev N_law_tree : List Str := ["deck", "most", "taken", "many", "shape", "far", "names", "ties", "k", "to", "pair", "left", "places"]
theorem sc_law_tree : FnScope N_law_tree ["deck", "most", "taken"] (defScope s_law_tree) := ⟨rfl, rfl, rfl, by decide +kernel, rfl, by decide +kernel, by decide +kernel⟩
section
variable {P : Program} {w : World} {K : PySem.W.Frag} {mg : Str → Option Value} {base : Heap}
/-- the tree's places stand as a tuple that is known through and through -/
def PlZ (H : Hp) (v : V) (pl : List Nm) : Prop := ∃ (t a b : Addr) (o : Obj), v = .ref t ∧ H t = some (.tup [.ref a, .ref b]) ∧ o.dict = none ∧ H a = some (.frz o (.tup ((pl.map S).map V.str)))
theorem PlZ.same {H H' : Hp} {v : V} {pl : List Nm} (h : PlZ H v pl) (s : Same H H') : PlZ H' v pl := by
  obtain ⟨t, a, b, o, e, h1, h2, h3⟩ := h
  exact ⟨t, a, b, o, e, s _ _ h1, h2, s _ _ h3⟩
theorem PlZ.keep {H H' : Hp} {v : V} {pl : List Nm} (h : PlZ H v pl) (s : TK H H') : PlZ H' v pl := by
  obtain ⟨t, a, b, o, e, h1, h2, h3⟩ := h
  exact ⟨t, a, b, o, e, s.tup _ _ h1, h2, s.frz _ _ _ h3⟩
def spTree : Sp := fun vs H Q _ => ∃ (d tk : Addr) (n most : Nat) (tks : List Nm), vs = [.ref d, .int most, .ref tk] ∧ SeedAt H d n ∧ n < 80000 ∧ 1 ≤ most ∧ most ≤ 30 ∧ tk ≠ d ∧ TakenAt H tk tks ∧ tks.length ≤ 40 ∧
  ∀ (H' : Hp) (t : Addr) (pl : List Nm) (ts : List Tie), IsTree pl ts → (∀ l ∈ pl, NameOk l) → (∀ l ∈ pl, l ∉ tks) → pl.length ≤ most → Dt H' (.ref t) (treeD pl ts) → PlZ H' (.ref t) pl → SmX d H H' → SeedAt H' d (n + 1400) → Q (.ref t) H'
theorem ok_tree {f : Addr} {fd : FuncData} (F : Fun K "_law_tree" "_law_tree" s_law_tree f fd) (T : TxtG mg) (C_law_draw : Cal P w K mg base 1 "_law_draw" spDraw) (C_law_names : Cal P w K mg base 2 "_law_names" spNames) : FnOk P w K mg base CX0 3 f fd ["deck", "most", "taken"] spTree := by
  refine F.ok sc_law_tree (fun vs H Q E h => ?_) (fun cdv A outer s H vs Q E hr h => ?_)
  · obtain ⟨d, tk, n, most, tks, rfl, _⟩ := h
    rfl
  · obtain ⟨d, tk, n, most, tks, rfl, hD, hn, hm1, hm, ntd', hT, ltk, q⟩ := h
    have e6 : (10 : Int) ^ (6 : Int).toNat = 1000000 := by decide
    refine ⟨_, (pss_cons (ps_set (i := 3) sc_law_tree.nd rfl (.inl rfl) (pe_ix ix_list (pe_lst (pa_cons (pe_op op_add pe_int (pe_c C_law_draw hr (by decide) rfl (pa_cons (pv 0) (pa_cons (pv 1) pa_nil)))) (pa_cons (pv 1) (pa_cons (pe_op op_add pe_int (pe_c C_law_draw hr (by decide) rfl (pa_cons (pv 0) (pa_cons (pe_callB (call_min2 rfl) (by rfl) T.min bt_min (pa_cons (pv 1) (pa_cons pe_int pa_nil))) pa_nil)))) pa_nil)))) (pe_c C_law_draw hr (by decide) rfl (pa_cons (pv 0) (pa_cons pe_int pa_nil))) (fun _ _ => rfl)))
      (pss_cons (ps_set (i := 4) sc_law_tree.nd rfl (.inl rfl) (pe_c C_law_draw hr (by decide) rfl (pa_cons (pv 0) (pa_cons pe_int pa_nil))))
      (pss_cons (ps_set (i := 5) sc_law_tree.nd rfl (.inl rfl) (pe_ix ix_list (pe_lst (pa_cons pe_int (pa_cons pe_int (pa_cons pe_int (pa_cons (pe_op op_pow pe_int pe_int) pa_nil))))) (pe_c C_law_draw hr (by decide) rfl (pa_cons (pv 0) (pa_cons pe_int pa_nil))) (fun _ _ => rfl)))
      (pss_cons (ps_set (i := 6) sc_law_tree.nd rfl (.inl rfl) (pe_c C_law_names hr (by decide) rfl (pa_cons (pv 0) (pa_cons (pv 3) (pa_cons (pv 2) pa_nil)))))
      (pss_cons (ps_set (i := 7) sc_law_tree.nd rfl (.inr rfl) (pe_lst pa_nil))
      (pss_cut (ps_for PassesOwn.never rfl (pi_range2 (by rfl) T.range (pa_cons pe_int (pa_cons (pv 3) pa_nil))) (pg_name (i := 8) sc_law_tree.nd rfl (.inl rfl))
        (pss_cons (ps_set (i := 9) sc_law_tree.nd rfl (.inl rfl) (pe_ix ix_list (pe_lst (pa_cons (pe_c C_law_draw hr (by decide) rfl (pa_cons (pv 0) (pa_cons (pv 8) pa_nil))) (pa_cons (pe_op op_sub (pv 8) pe_int) (pa_cons pe_int (pa_cons (pe_callB (call_min2 rfl) (by rfl) T.min bt_min (pa_cons (pe_op op_sub (pv 8) pe_int) (pa_cons (pe_op op_fdiv (pv 8) pe_int) pa_nil))) (pa_cons (pe_callB (call_max2 rfl) (by rfl) T.max bt_max (pa_cons pe_int (pa_cons (pe_op op_sub (pv 8) pe_int) pa_nil))) pa_nil)))))) (pv 4) (fun _ _ => rfl)))
        (pss_cons (ps_set (i := 10) sc_law_tree.nd rfl (.inl rfl) (pe_lst (pa_cons (pe_ix ix_list (pv 6) (pv 9) (fun _ _ => rfl)) (pa_cons (pe_ix ix_list (pv 6) (pv 8) (fun _ _ => rfl)) pa_nil))))
        (pss_cut (ps_if (pt_cmpR op_eq (pe_c C_law_draw hr (by decide) rfl (pa_cons (pv 0) (pa_cons pe_int pa_nil))) pe_int (nomark _))
          (pss_one (ps_set (i := 10) sc_law_tree.nd rfl (.inl rfl) (pe_revL (pv 10))))
          pss_nil)
        (pss_one (ps_expr (pe_bm PySem.F.plainAttrs_list PySem.F.slot_list_append PySem.F.type_list_append mt_append (pv 7) (pa_cons (pe_tup (pa_cons (pe_ix ix_list (pv 10) pe_int (fun _ _ => rfl)) (pa_cons (pe_ix ix_list (pv 10) pe_int (fun _ _ => rfl)) (pa_cons (pe_op op_add pe_int (pe_c C_law_draw hr (by decide) rfl (pa_cons (pv 0) (pa_cons (pv 5) pa_nil)))) pa_nil)))) pa_nil))))))))
      (pss_cons (ps_set (i := 11) sc_law_tree.nd rfl (.inr rfl) (pe_callTy call_list_of (by rfl) T.list bt_list (pa_cons (pv 6) pa_nil)))
      (pss_cons (ps_set (i := 12) sc_law_tree.nd rfl (.inl rfl) (pe_tupleZ (by rfl) T.tuple (pe_lc (own := [("k", 8)]) (g := gName 8) (tt := tYes) rfl sc_law_tree.nd (pi_range1 (by rfl) T.range (pa_cons (pv 3) pa_nil)) (blkOk_by (N := N_law_tree) (sc := defScope s_law_tree) (by decide +kernel)) (fun _ _ _ _ _ => pg_name (i := 8) sc_law_tree.nd rfl (Or.inl rfl)) (fun _ _ _ _ _ => pts_nil) (fun _ _ _ _ _ => (show PE _ _ (tBM K "list" rPopAt _ _) from pe_bm PySem.F.plainAttrs_list PySem.F.slot_list_pop PySem.F.type_list_pop mt_popAt (pv 11) (pa_cons (pe_c C_law_draw hr (by decide) rfl (pa_cons (pv 0) (pa_cons (pe_callB (lenK (K := K)) (by rfl) T.len bt_len (pa_cons (pv 11) pa_nil)) pa_nil))) pa_nil))))))
      (pss_one (ps_ret (pe_tup (pa_cons (pv 12) (pa_cons (pe_tupleOf (by rfl) T.tuple (pe_lc (own := [("k", 8)]) (g := gName 8) (tt := tYes) rfl sc_law_tree.nd (pi_range1 (by rfl) T.range (pa_cons (pe_op op_sub (pv 3) pe_int) pa_nil)) (blkOk_by (N := N_law_tree) (sc := defScope s_law_tree) (by decide +kernel)) (fun _ _ _ _ _ => pg_name (i := 8) sc_law_tree.nd rfl (Or.inl rfl)) (fun _ _ _ _ _ => pts_nil) (fun _ _ _ _ _ => (show PE _ _ (tBM K "list" rPopAt _ _) from pe_bm PySem.F.plainAttrs_list PySem.F.slot_list_pop PySem.F.type_list_pop mt_popAt (pv 7) (pa_cons (pe_c C_law_draw hr (by decide) rfl (pa_cons (pv 0) (pa_cons (pe_callB (lenK (K := K)) (by rfl) T.len bt_len (pa_cons (pv 7) pa_nil)) pa_nil))) pa_nil))))) pa_nil))))))))))))), ?_⟩
    -- many
    refine ⟨_, rfl, _, rfl, d, _, most, rfl, hD, by omega, by omega, by omega, fun H1 r1 r10 r11 S1 D1 => ⟨_, _, rfl, rfl, ?_⟩⟩
    refine ⟨_, rfl, _, rfl, _, rfl, _, _, rfl, d, _, _, rfl, D1, by omega, by split <;> omega, by split <;> omega, fun H2 r2 r20 r21 S2 D2 => ⟨_, _, rfl, rfl, ?_⟩⟩
    have r22 : r2 < most := by split at r21 <;> omega
    refine ⟨(by show 3 ≤ sizeLine; decide), fun p1 np1 => ?_⟩
    refine ⟨_, rfl, d, _, 3, rfl, D2.new np1, by omega, by decide, by decide, fun H3 r3 r30 r31 S3 D3 => ?_⟩
    have hp1 := S3 p1 _ (D2.nd np1) upd_same
    have SM3 : SmX d H H3 := ((S1.trans S2).new np1).trans S3
    obtain ⟨v, hv, mv⟩ := atI_in (xs := [V.int (1 + r1), .int most, .int (1 + r2)]) r30 (by simpa using r31)
    have hs : ∃ m : Nat, v = .int m ∧ 1 ≤ m ∧ m ≤ most := by
      simp only [List.mem_cons, List.not_mem_nil, or_false] at mv
      rcases mv with e | e | e
      · exact ⟨(1 + r1).toNat, by rw [e]; congr 1 <;> omega, by omega, by omega⟩
      · exact ⟨most, e, by omega, by omega⟩
      · exact ⟨(1 + r2).toNat, by rw [e]; congr 1 <;> omega, by omega, by omega⟩
    obtain ⟨many, rfl, m1, mm⟩ := hs
    refine ⟨p1, _, r3, _, rfl, rfl, SqL.of hp1, hv, ?_⟩
    -- shape, far
    refine ⟨_, rfl, d, _, 5, rfl, D3, by omega, by decide, by decide, fun H4 shape w0 w1 S4 D4 => ?_⟩
    refine ⟨_, _, rfl, rfl, ⟨by decide, by decide, by decide⟩, (by show 4 ≤ sizeLine; decide), fun p2 np2 => ?_⟩
    refine ⟨_, rfl, d, _, 4, rfl, D4.new np2, by omega, by decide, by decide, fun H5 r5 r50 r51 S5 D5 => ?_⟩
    have hp2 := S5 p2 _ (D4.nd np2) upd_same
    have SM5 : SmX d H H5 := ((SM3.trans S4).new np2).trans S5
    obtain ⟨v, hv, mv⟩ := atI_in (xs := [V.int 1, .int 2, .int 9, .int (10 ^ (6 : Int).toNat)]) r50 (by simpa using r51)
    have hs : ∃ m : Int, v = .int m ∧ 1 ≤ m ∧ m ≤ 1000000 := by
      rw [e6] at mv
      simp only [List.mem_cons, List.not_mem_nil, or_false] at mv
      rcases mv with e | e | e | e
      · exact ⟨1, e, by omega, by omega⟩
      · exact ⟨2, e, by omega, by omega⟩
      · exact ⟨9, e, by omega, by omega⟩
      · exact ⟨1000000, e, by omega, by omega⟩
    obtain ⟨far, rfl, f1, f2⟩ := hs
    refine ⟨p2, _, r5, _, rfl, rfl, SqL.of hp2, hv, ?_⟩
    have hT5 := hT.mv SM5 ntd'
    -- names
    refine ⟨_, rfl, _, rfl, _, rfl, d, tk, _, many, tks, rfl, D5, by omega, m1, by omega, ntd', hT5, ltk, fun H6 p ls hl nd ok un np5 npd hN6 S6 D6 => ?_⟩
    have SM6 : SmX d H H6 := SM5.trans S6
    have np0 : H p = none := SM5.free np5 npd
    -- ties
    refine ⟨Nat.zero_le _, fun t nt => ?_⟩
    have ntd : t ≠ d := D6.nd nt
    have ntp : p ≠ t := ne_of_none hN6 nt
    have nt0 : H t = none := SM6.free nt ntd
    refine ⟨fun σ' H' => ∃ (x8 x9 x10 : Option V) (tvs : List V) (ts : List Tie), σ' = [some (.ref d), some (.int most), some (.ref tk), some (.int many), some (.int shape), some (.int far), some (.ref p), some (.ref t), x8, x9, x10, none, none] ∧ Grown ls ts ∧ Tr H H' d p t (n + 1250) ls tvs ts, ?_, fun σ' H' hM => ?_⟩
    · refine ⟨_, rfl, 1, many, rfl, ⟨by decide, by decide, by omega, by omega⟩, ?_⟩
      refine for_range (lo := 1) (n := ((many : Int) - 1).toNat) (fun i σ' H' => ∃ (x8 x9 x10 : Option V) (tvs : List V) (ts : List Tie), σ' = [some (.ref d), some (.int most), some (.ref tk), some (.int many), some (.int shape), some (.int far), some (.ref p), some (.ref t), x8, x9, x10, none, none] ∧ Grown (ls.take (i + 1)) ts ∧ Tr H H' d p t (n + 1110 + 3 * i) ls tvs ts) ⟨none, none, none, [], [], rfl, ?_, ?_, upd_same, .nil, SM6.new nt, (D6.new nt).mono (by omega)⟩ (fun i σ' H' hi hP => ?_) (fun σ' H' hP => ?_)
      · cases ls with
        | nil => simp at hl; omega
        | cons a r => exact Grown.one a
      · unfold NamesAt
        rw [upd_ne ntp]
        exact hN6
      · obtain ⟨x8, x9, x10, tvs, ts, rfl, hG, X0⟩ := hP
        have hi' : i + 1 < many := by omega
        -- to
        refine ⟨_, rfl, _, rfl, d, _, _, rfl, X0.dk, by omega, by omega, by omega, fun H7 a a0 a1 S7 D7 => ?_⟩
        have X7 := X0.step npd ntd S7 D7
        refine ⟨_, rfl, _, _, rfl, rfl, _, rfl, _, _, rfl, rfl, _, rfl, _, _, rfl, rfl, ⟨by decide, by decide⟩, _, _, rfl, _, rfl, _, _, rfl, rfl, _, _, rfl, (by show 5 ≤ sizeLine; decide), fun p8 np8 => ?_⟩
        have X8 := X7.new (o := .lst [V.int a, .int (1 + (i : Int) - 1), .int 0, .int (if (1 + (i : Int)) / 2 < 1 + (i : Int) - 1 then (1 + (i : Int)) / 2 else 1 + (i : Int) - 1), .int (if 1 + (i : Int) - 3 > 0 then 1 + (i : Int) - 3 else 0)]) np8
        obtain ⟨v, hv, mv⟩ := atI_in (xs := [V.int a, .int (1 + (i : Int) - 1), .int 0, .int (if (1 + (i : Int)) / 2 < 1 + (i : Int) - 1 then (1 + (i : Int)) / 2 else 1 + (i : Int) - 1), .int (if 1 + (i : Int) - 3 > 0 then 1 + (i : Int) - 3 else 0)]) w0 (by simpa using w1)
        have hs : ∃ m : Nat, v = .int m ∧ m < i + 1 := by
          simp only [List.mem_cons, List.not_mem_nil, or_false] at mv
          rcases mv with e | e | e | e | e
          · exact ⟨a.toNat, by rw [e]; congr 1 <;> omega, by omega⟩
          · exact ⟨i, by rw [e]; congr 1 <;> omega, by omega⟩
          · exact ⟨0, e, by omega⟩
          · by_cases z : (1 + (i : Int)) / 2 < 1 + (i : Int) - 1
            · rw [if_pos z] at e
              exact ⟨(1 + i) / 2, by rw [e]; congr 1 <;> omega, by omega⟩
            · rw [if_neg z] at e
              exact ⟨i, by rw [e]; congr 1 <;> omega, by omega⟩
          · by_cases z : 1 + (i : Int) - 3 > 0
            · rw [if_pos z] at e
              exact ⟨i - 2, by rw [e]; congr 1 <;> omega, by omega⟩
            · rw [if_neg z] at e
              exact ⟨0, e, by omega⟩
        obtain ⟨at', rfl, hat⟩ := hs
        refine ⟨_, rfl, p8, _, shape, _, rfl, rfl, SqL.of upd_same, hv, ?_⟩
        -- pair
        have la : at' < ls.length := by omega
        have lk : i + 1 < ls.length := by omega
        have ga : ((ls.map S).map V.str)[at']? = some (.str (S ls[at'])) := by
          rw [List.getElem?_map, List.getElem?_map, List.getElem?_eq_getElem la]
          rfl
        have gk : ((ls.map S).map V.str)[i + 1]? = some (.str (S ls[i + 1])) := by
          rw [List.getElem?_map, List.getElem?_map, List.getElem?_eq_getElem lk]
          rfl
        have ek : 1 + (i : Int) = ((i + 1 : Nat) : Int) := by omega
        refine ⟨_, rfl, _, rfl, p, _, at', _, rfl, rfl, SqL.of X8.nm, atI_nat ga, _, rfl, _, rfl, p, _, 1 + (i : Int), _, rfl, rfl, SqL.of X8.nm, by rw [ek]; exact atI_nat gk, (by show 2 ≤ sizeLine; decide), fun e1 ne1 => ?_⟩
        have X9 := X8.new (o := .lst [.str (S ls[at']), .str (S ls[i + 1])]) ne1
        have he1 : (upd (upd H7 p8 (.lst [V.int a, .int (1 + (i : Int) - 1), .int 0, .int (if (1 + (i : Int)) / 2 < 1 + (i : Int) - 1 then (1 + (i : Int)) / 2 else 1 + (i : Int) - 1), .int (if 1 + (i : Int) - 3 > 0 then 1 + (i : Int) - 3 else 0)])) e1 (.lst [.str (S ls[at']), .str (S ls[i + 1])])) e1 = some (.lst [.str (S ls[at']), .str (S ls[i + 1])]) := upd_same
        generalize upd (upd H7 p8 (.lst [V.int a, .int (1 + (i : Int) - 1), .int 0, .int (if (1 + (i : Int)) / 2 < 1 + (i : Int) - 1 then (1 + (i : Int)) / 2 else 1 + (i : Int) - 1), .int (if 1 + (i : Int) - 3 > 0 then 1 + (i : Int) - 3 else 0)])) e1 (.lst [.str (S ls[at']), .str (S ls[i + 1])]) = H9 at X9 he1
        have ed1 : e1 ≠ d := X8.dk.nd ne1
        refine ⟨fun σ'' H'' => ∃ (e : Addr) (xa xb : Nm), σ'' = [some (.ref d), some (.int most), some (.ref tk), some (.int many), some (.int shape), some (.int far), some (.ref p), some (.ref t), some (.int (1 + (i : Int))), some (.int at'), some (.ref e), none, none] ∧ H'' e = some (.lst [.str (S xa), .str (S xb)]) ∧ e ≠ d ∧ ((xa = ls[at'] ∧ xb = ls[i + 1]) ∨ (xa = ls[i + 1] ∧ xb = ls[at'])) ∧ Tr H H'' d p t (n + 1110 + 3 * i + 2) ls tvs ts, ?_, fun σ'' H'' hM => ?_⟩
        · refine ⟨_, rfl, d, _, 2, rfl, X9.dk, by omega, by decide, by decide, fun H10 b b0 b1 S10 D10 => ?_⟩
          have X10 := X9.step npd ntd S10 D10
          have he10 := S10 e1 _ ed1 he1
          refine ⟨rfl, _, rfl, ite2 (fun e => ?_) (fun e => ?_)⟩
          · refine ⟨_, rfl, e1, _, rfl, SqL.of he10, fun e2 ne2 => ?_⟩
            exact ⟨e2, ls[i + 1], ls[at'], rfl, upd_same, X10.dk.nd ne2, .inr ⟨rfl, rfl⟩, X10.new ne2⟩
          · exact ⟨e1, ls[at'], ls[i + 1], rfl, he10, ed1, .inl ⟨rfl, rfl⟩, X10⟩
        obtain ⟨e, xa, xb, rfl, he, ed, hab, X10⟩ := hM
        -- ties.append
        refine ⟨_, rfl, .inl ⟨rfl, _, SqL.of X10.tt⟩, _, rfl, e, _, 0, _, rfl, rfl, SqL.of he, rfl, _, rfl, e, _, 1, _, rfl, rfl, SqL.of he, rfl, ?_⟩
        refine ⟨_, rfl, _, rfl, d, _, far, rfl, X10.dk, by omega, by omega, by omega, fun H11 lg l0 l1 S11 D11 => ⟨_, _, rfl, rfl, ?_⟩⟩
        have X11 := X10.step npd ntd S11 D11
        refine ⟨(by show 3 ≤ sizeLine; decide), fun e4 ne4 => ?_⟩
        have X12 := X11.new (o := .tup [.str (S xa), .str (S xb), .int (1 + lg)]) ne4
        have tl : tvs.length = ts.length := by
          have := DtAll.len X12.al
          rwa [List.length_map] at this
        have gl := hG.len
        rw [List.length_take] at gl
        refine ⟨t, tvs, _, rfl, rfl, X12.tt, sz_lt (by omega), ?_⟩
        have tk' : TK (upd H11 e4 (.tup [.str (S xa), .str (S xb), .int (1 + lg)])) (upd (upd H11 e4 (.tup [.str (S xa), .str (S xb), .int (1 + lg)])) t (.lst (tvs ++ [.ref e4]))) := TK.mut X12.tt
        refine ⟨_, _, _, tvs ++ [.ref e4], ts ++ [(xa, xb, 1 + lg)], rfl, ?_, ?_, upd_same, ?_, X12.sm.put nt0, (X12.dk.put ntd).mono (by omega)⟩
        · have e5 : ls.take (i + 1 + 1) = ls.take (i + 1) ++ [ls[i + 1]] := by
            rw [List.take_add_one, List.getElem?_eq_getElem lk]
            rfl
          rw [e5]
          refine Grown.leaf (a := ls[at']) (k := 1 + lg) hG ?_ ?_ ?_ (by omega) (by omega)
          · exact List.mem_take_iff_getElem.mpr ⟨at', by omega, rfl⟩
          · intro hm
            obtain ⟨j, hj, ej⟩ := List.mem_take_iff_getElem.mp hm
            have := (List.getElem_inj nd).mp ej
            omega
          · rcases hab with ⟨z1, z2⟩ | ⟨z1, z2⟩ <;> rw [z1, z2]
            · exact .inl rfl
            · exact .inr rfl
        · unfold NamesAt
          rw [upd_ne ntp]
          exact X12.nm
        · rw [List.map_append]
          exact DtAll.app (DtAll.keep tk' X12.al) (.cons (.tup (tk'.tup _ _ upd_same) (.cons (.str _) (.cons (.str _) (.cons (.int _) .nil)))) .nil)
      · obtain ⟨x8, x9, x10, tvs, ts, rfl, hG, X0⟩ := hP
        refine ⟨_, _, _, tvs, ts, rfl, ?_, X0.mono (by omega)⟩
        rwa [List.take_of_length_le (by omega)] at hG
    · obtain ⟨x8, x9, x10, tvs, ts, rfl, hG, X0⟩ := hM
      -- left
      refine ⟨_, rfl, p, _, rfl, .inl (SqL.of X0.nm), fun lf nlf => ?_⟩
      have X1 := X0.new (o := .lst ((ls.map S).map V.str)) nlf
      have lfd := X0.dk.nd nlf
      have lf0 : H lf = none := X0.sm.free nlf lfd
      have lfp : lf ≠ p := (ne_of_none X0.nm nlf).symm
      have lft : lf ≠ t := (ne_of_none X0.tt nlf).symm
      -- places
      refine ⟨_, rfl, (many : Int), rfl, by omega, by omega, fun D nD => ?_⟩
      have Dd := X1.dk.nd nD
      have D0 : H D = none := X1.sm.free nD Dd
      have Dp' : D ≠ p := (ne_of_none X1.nm nD).symm
      have DNt : D ≠ t := (ne_of_none X1.tt nD).symm
      have Dlf : D ≠ lf := (ne_of_none upd_same nD).symm
      refine lc_range (lo := 0) (n := (many : Int).toNat) (fun i H'' => ∃ l1 l2 : List Nm, l1.length = i ∧ (l1 ++ l2).Perm ls ∧ H'' D = some (.lst ((l1.map S).map V.str)) ∧ H'' lf = some (.lst ((l2.map S).map V.str)) ∧ Tr H H'' d p t (n + 1250 + i) ls tvs ts)
        ⟨[], ls, rfl, List.Perm.refl _, upd_same, by rw [upd_ne Dlf.symm]; exact upd_same, X1.new nD⟩ (fun i H'' hi hP => ?_) (fun H'' hP => ?_)
      · obtain ⟨l1, l2, hl1, pm, hD, hlf, X2⟩ := hP
        have ll := pm.length_eq
        rw [List.length_append] at ll
        refine ⟨rfl, _, rfl, .inl ⟨rfl, _, SqL.of hlf⟩, _, rfl, _, rfl, .ref lf, _, rfl, .inl ⟨_, SqL.of hlf, rfl⟩, d, _, _, rfl, X2.dk, by omega, by rw [List.length_map, List.length_map]; omega, by rw [List.length_map, List.length_map]; omega, fun H3 r r0 r1 S3 D3 => ?_⟩
        have X3 := X2.step npd ntd S3 D3
        have hD3 := S3 D _ Dd hD
        have hlf3 := S3 lf _ lfd hlf
        rw [List.length_map, List.length_map] at r1
        have hx : l2[r.toNat]? = some (l2[r.toNat]'(by omega)) := List.getElem?_eq_getElem (by omega)
        generalize l2[r.toNat]'(by omega) = x at hx
        have hx' : ((l2.map S).map V.str)[r.toNat]? = some (.str (S x)) := by
          rw [List.getElem?_map, List.getElem?_map, hx]
          rfl
        refine ⟨lf, _, r, r.toNat, .str (S x), rfl, rfl, hlf3, by omega, by omega, seq_ix r0 (by rw [List.length_map, List.length_map]; exact r1), hx', ?_⟩
        have X4 := X3.put (o := .lst (((l2.map S).map V.str).eraseIdx r.toNat)) lfp lft lfd lf0 hlf3
        have hD4 : (upd H3 lf (.lst (((l2.map S).map V.str).eraseIdx r.toNat))) D = some (.lst ((l1.map S).map V.str)) := by
          rw [upd_ne Dlf]
          exact hD3
        refine ⟨_, hD4, by rw [List.length_map, List.length_map]; exact sz_lt (by omega), l1 ++ [x], l2.eraseIdx r.toNat, by rw [List.length_append, hl1]; rfl, perm_pick pm hx, ?_, ?_, X4.put Dp' DNt Dd D0 hD4⟩
        · rw [upd_same, List.map_append, List.map_append]
          rfl
        · rw [upd_ne Dlf.symm, upd_same, map_erase, map_erase]
      · obtain ⟨l1, l2, hl1, pm, hD, hlf, X2⟩ := hP
        have ll := pm.length_eq
        rw [List.length_append] at ll
        have e2 : l2 = [] := List.length_eq_zero_iff.mp (by omega)
        subst e2
        rw [List.append_nil] at pm
        have gl := hG.len
        refine ⟨D, _, rfl, SqL.of hD, fun q1 o1 nq1 od1 => ?_⟩
        have X2' := (X2.new (o := .frz o1 (.tup ((l1.map S).map V.str))) nq1).mono (m := n + 1280) (by omega)
        have hq1 : (upd H'' q1 (.frz o1 (.tup ((l1.map S).map V.str)))) q1 = some (.frz o1 (.tup ((l1.map S).map V.str))) := upd_same
        generalize upd H'' q1 (.frz o1 (.tup ((l1.map S).map V.str))) = H20 at X2' hq1
        have q1d : q1 ≠ d := X2.dk.nd nq1
        -- mixed
        refine ⟨_, rfl, _, rfl, _, _, rfl, rfl, (many : Int) - 1, rfl, by omega, by omega, fun G nG => ?_⟩
        have Gd := X2'.dk.nd nG
        have G0 : H G = none := X2'.sm.free nG Gd
        have Gp : G ≠ p := (ne_of_none X2'.nm nG).symm
        have Gt : G ≠ t := (ne_of_none X2'.tt nG).symm
        have Gq : G ≠ q1 := (ne_of_none hq1 nG).symm
        have tq : t ≠ q1 := ne_of X2'.tt hq1 (by intro z; cases z)
        refine lc_range (lo := 0) (n := ((many : Int) - 1).toNat) (fun i H'' => ∃ (ts1 ts2 : List Tie) (vs1 vs2 : List V), ts1.length = i ∧ (ts1 ++ ts2).Perm ts ∧ H'' q1 = some (.frz o1 (.tup ((l1.map S).map V.str))) ∧ H'' G = some (.lst vs1) ∧ DtAll H'' vs1 (ts1.map tieD) ∧ Tr H H'' d p t (n + 1280 + i) ls vs2 ts2)
          ⟨[], ts, [], tvs, rfl, List.Perm.refl _, by rw [upd_ne Gq.symm]; exact hq1, upd_same, .nil, X2'.new nG⟩ (fun i H3 hi hP => ?_) (fun H3 hP => ?_)
        · obtain ⟨ts1, ts2, vs1, vs2, hl1', pm', hD3, hG3, hA3, X3⟩ := hP
          have ll' := pm'.length_eq
          rw [List.length_append] at ll'
          have v2 : vs2.length = ts2.length := by
            have := DtAll.len X3.al
            rwa [List.length_map] at this
          have v1 : vs1.length = ts1.length := by
            have := DtAll.len hA3
            rwa [List.length_map] at this
          refine ⟨rfl, _, rfl, .inl ⟨rfl, _, SqL.of X3.tt⟩, _, rfl, _, rfl, .ref t, _, rfl, .inl ⟨_, SqL.of X3.tt, rfl⟩, d, _, _, rfl, X3.dk, by omega, by omega, by omega, fun H4 r r0 r1 S4 D4 => ?_⟩
          have X4 := X3.step npd ntd S4 D4
          have hD4 := S4 q1 _ q1d hD3
          have hG4 := S4 G _ Gd hG3
          have hA4 := DtAll.keep (X3.dk.tk S4) hA3
          have hy : vs2[r.toNat]? = some (vs2[r.toNat]'(by omega)) := List.getElem?_eq_getElem (by omega)
          generalize vs2[r.toNat]'(by omega) = y at hy
          obtain ⟨dy, hdy, hDy⟩ := DtAll.get X4.al hy
          have hx : ts2[r.toNat]? = some (ts2[r.toNat]'(by omega)) := List.getElem?_eq_getElem (by omega)
          generalize ts2[r.toNat]'(by omega) = x at hx
          have edy : dy = tieD x := by
            rw [List.getElem?_map, hx] at hdy
            exact (Option.some.inj hdy).symm
          subst edy
          refine ⟨t, _, r, r.toNat, y, rfl, rfl, X4.tt, by omega, by omega, seq_ix r0 r1, hy, ?_⟩
          have X5 := X4.take (k := r.toNat) ntp ntd nt0
          have hG5 : (upd H4 t (.lst (vs2.eraseIdx r.toNat))) G = some (.lst vs1) := by
            rw [upd_ne Gt]
            exact hG4
          have hD5 : (upd H4 t (.lst (vs2.eraseIdx r.toNat))) q1 = some (.frz o1 (.tup ((l1.map S).map V.str))) := by
            rw [upd_ne tq.symm]
            exact hD4
          have tk' : TK H4 (upd (upd H4 t (.lst (vs2.eraseIdx r.toNat))) G (.lst (vs1 ++ [y]))) := (TK.mut X4.tt).trans (TK.mut hG5)
          refine ⟨_, hG5, sz_lt (by omega), ts1 ++ [x], ts2.eraseIdx r.toNat, vs1 ++ [y], vs2.eraseIdx r.toNat, by rw [List.length_append, hl1']; rfl, perm_pick pm' hx, by rw [upd_ne Gq.symm]; exact hD5, upd_same, ?_, X5.put Gp Gt Gd G0 hG5⟩
          rw [List.map_append]
          exact DtAll.app (DtAll.keep tk' hA4) (.cons (Dt.keep tk' hDy) .nil)
        · obtain ⟨ts1, ts2, vs1, vs2, hl1', pm', hD3, hG3, hA3, X3⟩ := hP
          have ll' := pm'.length_eq
          rw [List.length_append] at ll'
          have e2 : ts2 = [] := List.length_eq_zero_iff.mp (by omega)
          subst e2
          rw [List.append_nil] at pm'
          refine .inl ⟨G, vs1, rfl, SqL.of hG3, fun q2 nq2 => ?_⟩
          have X7 := X3.new (o := .tup vs1) nq2
          refine ⟨(by show 2 ≤ sizeLine; decide), fun q3 nq3 => ?_⟩
          have X8 := X7.new (o := .tup [.ref q1, .ref q2]) nq3
          have tk1 : TK H3 (upd (upd H3 q2 (.tup vs1)) q3 (.tup [.ref q1, .ref q2])) := (TK.new nq2).trans (TK.new nq3)
          have tk2 : TK (upd H3 q2 (.tup vs1)) (upd (upd H3 q2 (.tup vs1)) q3 (.tup [.ref q1, .ref q2])) := TK.new nq3
          have it : IsTree l1 ts1 := ⟨ls, ts, hG, pm, pm'⟩
          have plne : l1 ≠ [] := fun z => by
            have := it.len
            rw [z] at this
            simp at this
          have hz := tk1.frz _ _ _ hD3
          exact q _ q3 l1 ts1 it (fun x hx => ok x (pm.mem_iff.mp hx)) (fun x hx => un x (pm.mem_iff.mp hx)) (by rw [pm.length_eq]; omega) (.tup upd_same (.cons (.tupZ rfl plne od1 hz) (.cons (.tup (tk2.tup _ _ upd_same) (DtAll.keep tk1 hA3)) .nil))) ⟨q3, q1, q2, o1, rfl, upd_same, od1, hz⟩ X8.sm (X8.dk.mono (by omega))
end
end Far

namespace Far
open PySem PySem.Spec PyProof.Rows L2
open C8 (pss_cut tCut)
open SX (S)
theorem inK {X : Cx} {K : PySem.W.Frag} (e : X.K = K := by rfl) : OpR X (compareOp .In) (rIn K false) := by
  subst e
  exact op_in_seq
theorem off_self2 (pl : List Nm) (ts : List Tie) (e : Tie) : pl.filter (fun x => decide (x ∈ offP pl ts e)) = offP pl ts e := by
  refine List.filter_congr fun x hx => ?_
  by_cases c : dist ts e.1 x < dist ts e.2.1 x
  · rw [decide_eq_true c]
    exact decide_eq_false fun z => by
      have := (List.mem_filter.mp z).2
      rw [decide_eq_true c] at this
      cases this
  · rw [decide_eq_false c]
    exact decide_eq_true (List.mem_filter.mpr ⟨hx, by rw [decide_eq_false c]; rfl⟩)
/-- the side of a tie's one, or of its other -/
noncomputable def sideP (pl : List Nm) (ts : List Tie) (e : Tie) (k : Nat) : List Nm := if k = 0 then nearP pl ts e else offP pl ts e
abbrev s_law_parts : Stmt := topS 44
abbrev N_law_parts : List Str := ["tree", "number", "found", "rest", "place", "near", "name"]
theorem sc_law_parts : FnScope N_law_parts ["tree", "number"] (defScope s_law_parts) := ⟨rfl, rfl, rfl, by decide +kernel, rfl, by decide +kernel, by decide +kernel⟩
abbrev s_law_changed : Stmt := topS 45
abbrev N_law_changed : List Str := ["tree", "number", "one", "other", "ties"]
theorem sc_law_changed : FnScope N_law_changed ["tree", "number", "one", "other"] (defScope s_law_changed) := ⟨rfl, rfl, rfl, by decide +kernel, rfl, by decide +kernel, by decide +kernel⟩
abbrev s_law_part : Stmt := topS 46
abbrev N_law_part : List Str := ["tree", "places", "number", "ties", "tie"]
theorem sc_law_part : FnScope N_law_part ["tree", "places", "number"] (defScope s_law_part) := ⟨rfl, rfl, rfl, by decide +kernel, rfl, by decide +kernel, by decide +kernel⟩
section
variable {P : Program} {w : World} {K : PySem.W.Frag} {mg : Str → Option Value} {base : Heap}
/-- the tree without a tie, as data -/
theorem rest_dt {H : Hp} {r a q3 : Addr} {pl : List Nm} {ts : List Tie} {vs : List V} {i : Nat} (hr : H r = some (.tup [.ref a, .ref q3])) (ha : TupAt H a ((pl.map S).map V.str)) (ne : pl ≠ []) (h3 : H q3 = some (.tup (vs.take i ++ vs.drop (i + 1)))) (hA : DtAll H vs (ts.map tieD)) : Dt H (.ref r) (treeD pl (restT ts i)) := by
  refine .tup hr (.cons (names_dt ha ne) (.cons (.tup h3 ?_) .nil))
  unfold restT
  rw [List.map_append, List.map_take, List.map_drop]
  exact DtAll.app (DtAll.cut i hA).1 (DtAll.cut (i + 1) hA).2
def spLParts : Sp := fun vs H Q _ => ∃ (v : V) (pl : List Nm) (ts : List Tie) (i : Nat) (e : Tie), vs = [v, .int i] ∧ Dt H v (treeD pl ts) ∧ Fine pl ts ∧ ts[i]? = some e ∧
  ∀ (H' : Hp) (q n1 n2 : Addr), Same H H' → H q = none → H n1 = none → H n2 = none → H' q = some (.lst [.ref n1, .ref n2]) → H' n1 = some (.lst (((nearP pl ts e).map S).map V.str)) → H' n2 = some (.lst (((offP pl ts e).map S).map V.str)) → Q (.ref q) H'
theorem ok_lparts {f : Addr} {fd : FuncData} (F : Fun K "_law_parts" "_law_parts" s_law_parts f fd) (C_law_lengths : Cal P w K mg base 2 "_law_lengths" spLayC) : FnOk P w K mg base CX0 3 f fd ["tree", "number"] spLParts := by
  refine F.ok sc_law_parts (fun vs H Q E h => ?_) (fun cdv A outer s H vs Q E hr h => ?_)
  · obtain ⟨v, pl, ts, i, e, rfl, _⟩ := h
    rfl
  · obtain ⟨v, pl, ts, i, e, rfl, hd, fine, he, q⟩ := h
    obtain ⟨t, a, b, vs, rfl, ht, ha, hb, hA⟩ := dt_tree hd
    refine ⟨_, (pss_cons (ps_set (i := 2) sc_law_parts.nd rfl (.inl rfl) (pe_lst pa_nil))
      (pss_cons (ps_set (i := 3) sc_law_parts.nd rfl (.inl rfl) (pe_tup (pa_cons (pe_ix ix_tup (pv 0) pe_int (fun _ _ => rfl)) (pa_cons (pe_op op_catA (pe_slice sl_tup (pe_ix ix_tup (pv 0) pe_int (fun _ _ => rfl)) po_none (po_some (pv 1))) (pe_slice sl_tup (pe_ix ix_tup (pv 0) pe_int (fun _ _ => rfl)) (po_some (pe_op op_add (pv 1) pe_int)) po_none)) pa_nil))))
      (pss_cut (ps_for PassesOwn.never rfl (pi_tup (pe_slice sl_tup (pe_ix ix_tup (pe_ix ix_tup (pv 0) pe_int (fun _ _ => rfl)) (pv 1) (fun _ _ => rfl)) po_none (po_some pe_int))) (pg_name (i := 4) sc_law_parts.nd rfl (.inl rfl))
        (pss_cons (ps_set (i := 5) sc_law_parts.nd rfl (.inr rfl) (pe_c C_law_lengths hr (by decide) rfl (pa_cons (pv 3) (pa_cons (pv 4) pa_nil))))
        (pss_one (ps_expr (pe_bm PySem.F.plainAttrs_list PySem.F.slot_list_append PySem.F.type_list_append mt_append (pv 2) (pa_cons (pe_lc (own := [("name", 6)]) (g := gName 6)  rfl sc_law_parts.nd (pi_tup (pe_ix ix_tup (pv 0) pe_int (fun _ _ => rfl))) (blkOk_by (N := N_law_parts) (sc := defScope s_law_parts) (by decide +kernel)) (fun _ _ _ _ _ => pg_name (i := 6) sc_law_parts.nd rfl (Or.inl rfl)) (fun _ _ _ _ _ => pts_one (pt_cmp (pc_din (hu_of hr) (pv 6) (pv 5)))) (fun _ _ _ _ _ => (pv 6))) pa_nil))))))
      (pss_one (ps_ret (pv 2)))))), ?_⟩
    have p1000 := fine.len
    have tl := fine.tree.len
    have c := fine.tree.cutF he
    have il : i < ts.length := (List.getElem?_eq_some_iff.mp he).1
    have vl : vs.length = ts.length := by
      have := DtAll.len hA
      rwa [List.length_map] at this
    obtain ⟨w, hw⟩ : ∃ w, vs[i]? = some w := ⟨vs[i]'(by omega), List.getElem?_eq_getElem (by omega)⟩
    obtain ⟨e', p3, he', rfl, hp3⟩ := tie_at hA hw
    have ee : e' = e := Option.some.inj (he'.symm.trans he)
    subst ee
    refine ⟨Nat.zero_le _, fun L nL => ?_⟩
    have S0 := same_new (o := .lst []) (Same.refl H) nL
    have hL0 : (upd H L (.lst [])) L = some (.lst []) := upd_same
    generalize upd H L (.lst []) = H0 at S0 hL0
    refine ⟨_, rfl, t, _, 0, .ref a, rfl, rfl, SqT.of (S0 _ _ ht), atI_nat (j := 0) rfl, ?_⟩
    refine ⟨_, rfl, t, _, 1, .ref b, rfl, rfl, SqT.of (S0 _ _ ht), atI_nat (j := 1) rfl, _, rfl, (i : Nat), rfl, b, vs, rfl, SqT.of (S0 _ _ hb), cut_toN (by omega), fun q1 nq1 => ?_⟩
    rw [cut_to (by omega)]
    have S1' := same_new (o := .tup (vs.take i)) (Same.refl H0) nq1
    have S1 := S0.trans S1'
    have hq1 : (upd H0 q1 (.tup (vs.take i))) q1 = some (.tup (vs.take i)) := upd_same
    generalize upd H0 q1 (.tup (vs.take i)) = H1 at S1 S1' hq1
    have ei : ((i : Nat) : Int) + 1 = ((i + 1 : Nat) : Int) := by omega
    refine ⟨_, rfl, t, _, 1, .ref b, rfl, rfl, SqT.of (S1 _ _ ht), atI_nat (j := 1) rfl, _, rfl, _, _, rfl, rfl, ((i + 1 : Nat) : Int), congrArg V.int ei, b, vs, rfl, SqT.of (S1 _ _ hb), cut_fromN (by omega) (by omega), fun q2 nq2 => ?_⟩
    rw [cut_from (by omega)]
    have S2 := same_new (o := .tup (vs.drop (i + 1))) (Same.refl H1) nq2
    refine cat_any0 (xs := vs.take i) (ys := vs.drop (i + 1)) (S2 _ _ hq1) upd_same (by rw [List.length_take, List.length_drop]; exact sz_le (by omega)) fun q3 H3 S3 hq3 => ?_
    refine ⟨(by show 2 ≤ sizeLine; decide), fun r nr => ?_⟩
    have S4' := same_new (o := .tup [.ref a, .ref q3]) (S1'.trans (S2.trans S3)) nr
    have S4 := S0.trans S4'
    have due : Dt (upd H3 r (.tup [.ref a, .ref q3])) (.ref r) (treeD pl (restT ts i)) := rest_dt upd_same (ha.same S4) fine.ne ((TK.new nr).tup _ _ hq3) (DtAll.keep (TK.of S4) hA)
    have hL4 := S4' _ _ hL0
    generalize upd H3 r (.tup [.ref a, .ref q3]) = H4 at S4 due hL4
    refine ⟨fun σ' H' => ∃ (x4 x5 : Option V) (n1 n2 : Addr), σ' = [some (.ref t), some (.int i), some (.ref L), some (.ref r), x4, x5, none] ∧ Same H H' ∧ H n1 = none ∧ H n2 = none ∧ H' L = some (.lst [.ref n1, .ref n2]) ∧ H' n1 = some (.lst (((nearP pl ts e').map S).map V.str)) ∧ H' n2 = some (.lst (((offP pl ts e').map S).map V.str)), ?_, fun σ' H' hM => ?_⟩
    rotate_left
    · obtain ⟨x4, x5, n1, n2, rfl, SM, f1, f2, hL, h1, h2⟩ := hM
      exact ⟨_, rfl, q H' L n1 n2 SM nL f1 f2 hL h1 h2⟩
    · refine ⟨_, rfl, t, _, 1, .ref b, rfl, rfl, SqT.of (S4 _ _ ht), atI_nat (j := 1) rfl, _, rfl, b, _, (i : Nat), .ref p3, rfl, rfl, SqT.of (S4 _ _ hb), atI_nat hw, 2, rfl, p3, _, rfl, SqT.of (S4 _ _ hp3), (fun z => nomatch z.2), fun g ng => ?_⟩
      have ecut : cutV [V.str (S e'.1), .str (S e'.2.1), .int e'.2.2] none (some 2) = [.str (S e'.1), .str (S e'.2.1)] := rfl
      rw [ecut]
      have S5' := same_new (o := .tup [.str (S e'.1), .str (S e'.2.1)]) (Same.refl H4) ng
      have S5 := S4.trans S5'
      have hg : (upd H4 g (.tup [.str (S e'.1), .str (S e'.2.1)])) g = some (.tup [.str (S e'.1), .str (S e'.2.1)]) := upd_same
      have hL5 := S5' _ _ hL4
      have due5 := Dt.keep (TK.of S5') due
      generalize upd H4 g (.tup [.str (S e'.1), .str (S e'.2.1)]) = H5 at S5 hg hL5 due5
      refine ⟨g, rfl, ⟨_, SqT.of hg⟩, for_tup (K := K) (a := g) (xs := [.str (S e'.1), .str (S e'.2.1)]) (fun j σ' H' => ∃ (x4 x5 : Option V) (ns : List Addr), σ' = [some (.ref t), some (.int i), some (.ref L), some (.ref r), x4, x5, none] ∧ Same H H' ∧ TK H5 H' ∧ H' L = some (.lst (ns.map V.ref)) ∧ ns.length = j ∧ ∀ k n, ns[k]? = some n → H n = none ∧ n ≠ L ∧ H' n = some (.lst (((sideP pl ts e' k).map S).map V.str)))
        ⟨none, none, [], rfl, S5, TK.refl _, hL5, rfl, fun k n h => by rw [List.getElem?_nil] at h; cases h⟩ (fun j σ' H' _ hP => ?_) (fun j v σ' H' hj hP => ?_) (fun σ' H' hP => ?_)⟩
      · obtain ⟨_, _, _, _, _, tk, _⟩ := hP
        exact SqT.of (tk.tup _ _ hg)
      · obtain ⟨x4, x5, ns, rfl, S6, tk6, hL6, nl, hns⟩ := hP
        have due6 := Dt.keep tk6 due5
        obtain ⟨u, ev, ju, FC⟩ : ∃ u, v = .str (S u) ∧ j < 2 ∧ (FineC pl (restT ts i) (sideP pl ts e' j) (amT (sideP pl ts e' j) (restT ts i)) ∧ u ∈ sideP pl ts e' j ∧ pl.filter (fun x => decide (x ∈ sideP pl ts e' j)) = sideP pl ts e' j) := by
          match j, hj with
          | 0, hj => exact ⟨e'.1, (Option.some.inj hj).symm, by omega, c.comp1 fine, c.ma, near_self pl ts e'⟩
          | 1, hj => exact ⟨e'.2.1, (Option.some.inj hj).symm, by omega, c.comp2 fine, c.mb, off_self2 pl ts e'⟩
        obtain ⟨FC, mu, slf⟩ := FC
        subst ev
        refine ⟨_, rfl, _, rfl, .ref r, pl, restT ts i, sideP pl ts e' j, amT (sideP pl ts e' j) (restT ts i), u, rfl, due6, FC, mu, fun H7 D fs S7 nD hD nd all => ?_⟩
        have S67 := S6.trans S7
        have hL7 := S7 _ _ hL6
        have k7 := tk6.trans (TK.of S7)
        have hns7 : ∀ k n, ns[k]? = some n → H n = none ∧ n ≠ L ∧ H7 n = some (.lst (((sideP pl ts e' k).map S).map V.str)) := fun k n h => ⟨(hns k n h).1, (hns k n h).2.1, S7 _ _ (hns k n h).2.2⟩
        refine ⟨_, rfl, .inl ⟨rfl, _, SqL.of hL7⟩, _, rfl, t, _, 0, .ref a, rfl, rfl, SqT.of (S67 _ _ ht), atI_nat (j := 0) rfl, a, rfl, ⟨_, (ha.same S67).sq⟩, fun G nG => ?_⟩
        have GL : L ≠ G := ne_of_none hL7 nG
        have G0 : H G = none := S67.free nG
        refine lc_tup (K := K) (a := a) (xs := (pl.map S).map V.str) (fun m H' => Same H7 H' ∧ H' G = some (.lst ((((pl.take m).filter fun x => decide (x ∈ sideP pl ts e' j)).map S).map V.str))) ⟨same_new (Same.refl _) nG, upd_same⟩ (fun m H' _ hP => (ha.same (S67.trans hP.1)).sq) (fun m x H' hm hP => ?_) (fun H8 hP => ?_)
        · obtain ⟨sm, hG⟩ := hP
          obtain ⟨l, el, lm, rfl, et⟩ := at_name hm
          refine ⟨rfl, _, rfl, _, rfl, D, _, rfl, DGet.k (k := Sum.inr (S l)) (sm _ _ hD), _, rfl, ?_⟩
          rw [dkm_some, et, List.filter_append]
          have fl := List.length_filter_le (fun x => decide (x ∈ sideP pl ts e' j)) (pl.take m)
          rw [List.length_take] at fl
          by_cases cc : l ∈ sideP pl ts e' j
          · rw [decide_eq_true ((all l).mpr cc)]
            refine iteT ⟨_, rfl, _, hG, by rw [List.length_map, List.length_map]; exact sz_lt (by omega), same_put sm nG, ?_⟩
            rw [upd_same, List.filter_cons_of_pos (by rw [decide_eq_true cc]), List.map_append, List.map_append]
            rfl
          · rw [decide_eq_false fun z => cc ((all l).mp z)]
            refine iteF ⟨sm, ?_⟩
            rw [List.filter_cons_of_neg (by rw [decide_eq_false cc]; simp)]
            simpa using hG
        · obtain ⟨S8, hG⟩ := hP
          rw [List.length_map, List.length_map, List.take_length, slf] at hG
          have hL8 := S8 _ _ hL7
          refine ⟨L, ns.map V.ref, _, rfl, rfl, hL8, by rw [List.length_map]; exact sz_lt (by omega), ?_⟩
          have tk := TK.mut (o := .lst (ns.map V.ref ++ [.ref G])) hL8
          refine ⟨_, _, ns ++ [G], rfl, same_put (S67.trans S8) nL, k7.trans ((TK.of S8).trans tk), by rw [upd_same, List.map_append]; rfl, by rw [List.length_append, nl]; rfl, fun k n h => ?_⟩
          by_cases kn : k < ns.length
          · rw [List.getElem?_append_left kn] at h
            obtain ⟨z1, z2, z3⟩ := hns7 k n h
            exact ⟨z1, z2, by rw [upd_ne z2]; exact S8 _ _ z3⟩
          · rw [List.getElem?_append_right (by omega)] at h
            have k0 : k - ns.length = 0 := by
              have := (List.getElem?_eq_some_iff.mp h).1
              simp at this
              omega
            rw [k0] at h
            cases Option.some.inj h
            have kj : k = j := by omega
            rw [kj, upd_ne GL.symm]
            exact ⟨G0, GL.symm, hG⟩
      · obtain ⟨x4, x5, ns, rfl, S6, _, hL6, nl, hns⟩ := hP
        obtain ⟨n1, n2, rfl⟩ : ∃ n1 n2, ns = [n1, n2] := by
          match ns, nl with
          | [n1, n2], _ => exact ⟨n1, n2, rfl⟩
        exact ⟨_, _, n1, n2, rfl, S6, (hns 0 n1 rfl).1, (hns 1 n2 rfl).1, hL6, (hns 0 n1 rfl).2.2, (hns 1 n2 rfl).2.2⟩
def spChanged : Sp := fun vs H Q _ => ∃ (v : V) (pl : List Nm) (ts : List Tie) (i : Nat) (e : Tie) (x y : Nm), vs = [v, .int i, .str (S x), .str (S y)] ∧ Dt H v (treeD pl ts) ∧ Fine pl ts ∧ ts[i]? = some e ∧
  ∀ (H' : Hp) (r : V), Same H H' → Dt H' r (treeD pl (chgT ts i e.2.2 x y)) → Q r H'
theorem ok_changed {f : Addr} {fd : FuncData} (F : Fun K "_law_changed" "_law_changed" s_law_changed f fd) : FnOk P w K mg base CX0 1 f fd ["tree", "number", "one", "other"] spChanged := by
  refine F.ok sc_law_changed (fun vs H Q E h => ?_) (fun cdv A outer s H vs Q E hr h => ?_)
  · obtain ⟨v, pl, ts, i, e, x, y, rfl, _⟩ := h
    rfl
  · obtain ⟨v, pl, ts, i, e, x, y, rfl, hd, fine, he, q⟩ := h
    obtain ⟨t, a, b, vs, rfl, ht, ha, hb, hA⟩ := dt_tree hd
    refine ⟨_, (pss_cons (ps_set (i := 4) sc_law_changed.nd rfl (.inl rfl) (pe_op op_catA (pe_op op_catA (pe_slice sl_tup (pe_ix ix_tup (pv 0) pe_int (fun _ _ => rfl)) po_none (po_some (pv 1))) (pe_tup (pa_cons (pe_tup (pa_cons (pv 2) (pa_cons (pv 3) (pa_cons (pe_ix ix_tup (pe_ix ix_tup (pe_ix ix_tup (pv 0) pe_int (fun _ _ => rfl)) (pv 1) (fun _ _ => rfl)) pe_int (fun _ _ => rfl)) pa_nil)))) pa_nil))) (pe_slice sl_tup (pe_ix ix_tup (pv 0) pe_int (fun _ _ => rfl)) (po_some (pe_op op_add (pv 1) pe_int)) po_none)))
      (pss_one (ps_ret (pe_tup (pa_cons (pe_ix ix_tup (pv 0) pe_int (fun _ _ => rfl)) (pa_cons (pv 4) pa_nil)))))), ?_⟩
    have p1000 := fine.len
    have tl := fine.tree.len
    have il : i < ts.length := (List.getElem?_eq_some_iff.mp he).1
    have vl : vs.length = ts.length := by
      have := DtAll.len hA
      rwa [List.length_map] at this
    obtain ⟨w, hw⟩ : ∃ w, vs[i]? = some w := ⟨vs[i]'(by omega), List.getElem?_eq_getElem (by omega)⟩
    obtain ⟨e', p3, he', rfl, hp3⟩ := tie_at hA hw
    have ee : e' = e := Option.some.inj (he'.symm.trans he)
    subst ee
    refine ⟨_, rfl, t, _, 1, .ref b, rfl, rfl, SqT.of ht, atI_nat (j := 1) rfl, _, rfl, (i : Nat), rfl, b, vs, rfl, SqT.of hb, cut_toN (by omega), fun q1 nq1 => ?_⟩
    rw [cut_to (by omega)]
    have S1 := same_new (o := .tup (vs.take i)) (Same.refl H) nq1
    have hq1 : (upd H q1 (.tup (vs.take i))) q1 = some (.tup (vs.take i)) := upd_same
    generalize upd H q1 (.tup (vs.take i)) = H1 at S1 hq1
    refine ⟨_, rfl, _, rfl, _, rfl, t, _, 1, .ref b, rfl, rfl, SqT.of (S1 _ _ ht), atI_nat (j := 1) rfl, _, rfl, b, _, (i : Nat), .ref p3, rfl, rfl, SqT.of (S1 _ _ hb), atI_nat hw, p3, _, 2, _, rfl, rfl, SqT.of (S1 _ _ hp3), atI_nat (j := 2) rfl, (by show 3 ≤ sizeLine; decide), fun e2 ne2 => ⟨(by show 1 ≤ sizeLine; decide), fun e3 ne3 => ?_⟩⟩
    have S4 := same_new (o := .tup [.ref e2]) (same_new (o := .tup [.str (S x), .str (S y), .int e'.2.2]) (Same.refl H1) ne2) ne3
    have he2 : (upd (upd H1 e2 (.tup [.str (S x), .str (S y), .int e'.2.2])) e3 (.tup [.ref e2])) e2 = some (.tup [.str (S x), .str (S y), .int e'.2.2]) := by
      rw [upd_ne (ne_of_none upd_same ne3)]
      exact upd_same
    refine cat_any0 (xs := vs.take i) (ys := [.ref e2]) (S4 _ _ hq1) upd_same (by rw [List.length_take]; exact sz_le (by simp; omega)) fun q2 H5 S5 hq2 => ?_
    have S15 := S1.trans (S4.trans S5)
    have ei : ((i : Nat) : Int) + 1 = ((i + 1 : Nat) : Int) := by omega
    refine ⟨_, rfl, t, _, 1, .ref b, rfl, rfl, SqT.of (S15 _ _ ht), atI_nat (j := 1) rfl, _, rfl, _, _, rfl, rfl, ((i + 1 : Nat) : Int), congrArg V.int ei, b, vs, rfl, SqT.of (S15 _ _ hb), cut_fromN (by omega) (by omega), fun q3 nq3 => ?_⟩
    rw [cut_from (by omega)]
    have S6 := same_new (o := .tup (vs.drop (i + 1))) (Same.refl H5) nq3
    refine cat_any0 (xs := vs.take i ++ [.ref e2]) (ys := vs.drop (i + 1)) (S6 _ _ hq2) upd_same (by rw [List.length_append, List.length_take, List.length_drop]; exact sz_le (by simp; omega)) fun q4 H7 S7 hq4 => ?_
    have S17 := S15.trans (S6.trans S7)
    refine ⟨_, rfl, t, _, 0, .ref a, rfl, rfl, SqT.of (S17 _ _ ht), atI_nat (j := 0) rfl, _, rfl, (by show 2 ≤ sizeLine; decide), fun r nr => ?_⟩
    have S8 := same_new (o := .tup [.ref a, .ref q4]) S17 nr
    have tk7 : TK H7 (upd H7 r (.tup [.ref a, .ref q4])) := TK.new nr
    refine q _ (.ref r) S8 ?_
    refine .tup upd_same (.cons (names_dt ((ha.same S17).upd nr) fine.ne) (.cons (.tup (tk7.tup _ _ hq4) ?_) .nil))
    have hA8 := DtAll.keep (TK.of S8) hA
    unfold chgT
    rw [List.map_append, List.map_append, List.map_take, List.map_drop]
    refine DtAll.app (DtAll.app (DtAll.cut i hA8).1 (.cons (.tup (tk7.tup _ _ ((S5.trans (S6.trans S7)) _ _ he2)) (.cons (.str _) (.cons (.str _) (.cons (.int _) .nil)))) .nil)) (DtAll.cut (i + 1) hA8).2
def spLPart : Sp := fun vs H Q _ => ∃ (v : V) (p : Addr) (pl ps : List Nm) (ts : List Tie) (i : Nat), vs = [v, .ref p, .int i] ∧ Dt H v (treeD pl ts) ∧ Fine pl ts ∧ i < ts.length ∧ H p = some (.lst ((ps.map S).map V.str)) ∧ ps.length ≤ 1000 ∧
  ∀ (H' : Hp) (r : V), Same H H' → Dt H' r (treeD ps (amT ps (restT ts i))) → Q r H'
theorem ok_lpart {f : Addr} {fd : FuncData} (F : Fun K "_law_part" "_law_part" s_law_part f fd) (T : TxtE mg) : FnOk P w K mg base CX0 1 f fd ["tree", "places", "number"] spLPart := by
  refine F.ok sc_law_part (fun vs H Q E h => ?_) (fun cdv A outer s H vs Q E hr h => ?_)
  · obtain ⟨v, p, pl, ps, ts, i, rfl, _⟩ := h
    rfl
  · obtain ⟨v, p, pl, ps, ts, i, rfl, hd, fine, il, hp, pl1, q⟩ := h
    obtain ⟨t, a, b, vs, rfl, ht, ha, hb, hA⟩ := dt_tree hd
    refine ⟨_, (pss_cons (ps_set (i := 3) sc_law_part.nd rfl (.inl rfl) (pe_op op_catA (pe_slice sl_tup (pe_ix ix_tup (pv 0) pe_int (fun _ _ => rfl)) po_none (po_some (pv 2))) (pe_slice sl_tup (pe_ix ix_tup (pv 0) pe_int (fun _ _ => rfl)) (po_some (pe_op op_add (pv 2) pe_int)) po_none)))
      (pss_one (ps_ret (pe_tup (pa_cons (pe_tupleOf (by rfl) T.tuple (pv 1)) (pa_cons (pe_tupleOf (by rfl) T.tuple (pe_lc (own := [("tie", 4)]) (g := gName 4)  rfl sc_law_part.nd (pi_tup (pv 3)) (blkOk_by (N := N_law_part) (sc := defScope s_law_part) (by decide +kernel)) (fun _ _ _ _ _ => pg_name (i := 4) sc_law_part.nd rfl (Or.inl rfl)) (fun _ _ _ _ _ => pts_one (PW.pt (pw_and (pt_cmpR (inK (K := K)) (pe_ix (ixt (K := K)) (pv 4) pe_int (fun _ _ => rfl)) (pv 1) rfl) (pw_and1 (pt_cmpR (inK (K := K)) (pe_ix (ixt (K := K)) (pv 4) pe_int (fun _ _ => rfl)) (pv 1) rfl))))) (fun _ _ _ _ _ => (pv 4)))) pa_nil)))))), ?_⟩
    have p1000 := fine.len
    have tl := fine.tree.len
    have vl : vs.length = ts.length := by
      have := DtAll.len hA
      rwa [List.length_map] at this
    refine ⟨_, rfl, t, _, 1, .ref b, rfl, rfl, SqT.of ht, atI_nat (j := 1) rfl, _, rfl, (i : Nat), rfl, b, vs, rfl, SqT.of hb, cut_toN (by omega), fun q1 nq1 => ?_⟩
    rw [cut_to (by omega)]
    have S1 := same_new (o := .tup (vs.take i)) (Same.refl H) nq1
    have hq1 : (upd H q1 (.tup (vs.take i))) q1 = some (.tup (vs.take i)) := upd_same
    generalize upd H q1 (.tup (vs.take i)) = H1 at S1 hq1
    have ei : ((i : Nat) : Int) + 1 = ((i + 1 : Nat) : Int) := by omega
    refine ⟨_, rfl, t, _, 1, .ref b, rfl, rfl, SqT.of (S1 _ _ ht), atI_nat (j := 1) rfl, _, rfl, _, _, rfl, rfl, ((i + 1 : Nat) : Int), congrArg V.int ei, b, vs, rfl, SqT.of (S1 _ _ hb), cut_fromN (by omega) (by omega), fun q2 nq2 => ?_⟩
    rw [cut_from (by omega)]
    have S2 := same_new (o := .tup (vs.drop (i + 1))) (Same.refl H1) nq2
    refine cat_any0 (xs := vs.take i) (ys := vs.drop (i + 1)) (S2 _ _ hq1) upd_same (by rw [List.length_take, List.length_drop]; exact sz_le (by omega)) fun q3 H3 S3 hq3 => ?_
    have S13 := S1.trans (S2.trans S3)
    have hA3 := DtAll.keep (TK.of S13) hA
    have hR : DtAll H3 (vs.take i ++ vs.drop (i + 1)) ((restT ts i).map tieD) := by
      unfold restT
      rw [List.map_append, List.map_take, List.map_drop]
      exact DtAll.app (DtAll.cut i hA3).1 (DtAll.cut (i + 1) hA3).2
    generalize vs.take i ++ vs.drop (i + 1) = us at hq3 hR
    have ul := DtAll.len hR
    have rl : (restT ts i).length ≤ 1000 := by
      unfold restT
      rw [List.length_append, List.length_take, List.length_drop]
      omega
    rw [List.length_map] at ul
    refine ⟨_, rfl, .inl ⟨p, _, rfl, SqL.of (S13 _ _ hp), fun o no => ?_⟩⟩
    have S4' := same_new (o := .tup ((ps.map S).map V.str)) (Same.refl H3) no
    have ho : (upd H3 o (.tup ((ps.map S).map V.str))) o = some (.tup ((ps.map S).map V.str)) := upd_same
    generalize upd H3 o (.tup ((ps.map S).map V.str)) = H4 at S4' ho
    have S14 := S13.trans S4'
    have hR4 := DtAll.keep (TK.of S4') hR
    refine ⟨_, rfl, q3, rfl, ⟨_, SqT.of (S4' _ _ hq3)⟩, fun G nG => ?_⟩
    refine lc_tup (K := K) (a := q3) (xs := us) (fun m H' => Same H4 H' ∧ ∃ ws, H' G = some (.lst ws) ∧ ws.length ≤ m ∧ DtAll H' ws ((amT ps ((restT ts i).take m)).map tieD)) ⟨same_new (Same.refl _) nG, [], upd_same, Nat.le_refl _, .nil⟩ (fun m H' _ hP => SqT.of ((S4'.trans hP.1) _ _ hq3)) (fun m x H' hm hP => ?_) (fun H5 hP => ?_)
    · obtain ⟨sm, ws, hG, wl, hW⟩ := hP
      obtain ⟨t3, g3, et3, rfl, hg3⟩ := tie_at (DtAll.keep (TK.of sm) hR4) hm
      have ml := (List.getElem?_eq_some_iff.mp et3).1
      have et : (restT ts i).take (m + 1) = (restT ts i).take m ++ [t3] := by rw [List.take_add_one, et3]; rfl
      have ea : amT ps ((restT ts i).take (m + 1)) = amT ps ((restT ts i).take m) ++ amT ps [t3] := by unfold amT; rw [et, List.filter_append]
      have hp' := (S14.trans sm) _ _ hp
      have add : t3.1 ∈ ps → t3.2.1 ∈ ps → ∃ acc, H' G = some (.lst acc) ∧ acc.length < sizeLine ∧ (Same H4 (upd H' G (.lst (acc ++ [.ref g3]))) ∧ ∃ ws, (upd H' G (.lst (acc ++ [.ref g3]))) G = some (.lst ws) ∧ ws.length ≤ m + 1 ∧ DtAll (upd H' G (.lst (acc ++ [.ref g3]))) ws ((amT ps ((restT ts i).take (m + 1))).map tieD)) := fun c1 c2 => by
        have tk := TK.mut (o := .lst (ws ++ [.ref g3])) hG
        refine ⟨ws, hG, sz_lt (by omega), same_put sm nG, ws ++ [.ref g3], upd_same, by rw [List.length_append, List.length_singleton]; omega, ?_⟩
        have e1 : amT ps [t3] = [t3] := List.filter_cons_of_pos (by rw [decide_eq_true c1, decide_eq_true c2]; rfl)
        rw [ea, e1, List.map_append]
        exact DtAll.app (DtAll.keep tk hW) (.cons (.tup (tk.tup _ _ hg3) (.cons (.str _) (.cons (.str _) (.cons (.int _) .nil)))) .nil)
      have skip : ¬ (t3.1 ∈ ps ∧ t3.2.1 ∈ ps) → (Same H4 H' ∧ ∃ ws, H' G = some (.lst ws) ∧ ws.length ≤ m + 1 ∧ DtAll H' ws ((amT ps ((restT ts i).take (m + 1))).map tieD)) := fun n => by
        refine ⟨sm, ws, hG, by omega, ?_⟩
        have e1 : amT ps [t3] = [] := List.filter_cons_of_neg fun z => by
          rw [Bool.and_eq_true] at z
          exact n ⟨of_decide_eq_true z.1, of_decide_eq_true z.2⟩
        rw [ea, e1, List.append_nil]
        exact hW
      refine ⟨rfl, _, rfl, g3, _, 0, _, rfl, rfl, SqT.of hg3, atI_nat (j := 0) rfl, _, rfl, p, _, rfl, .inl (SqL.of hp'), rfl, flat_strs ps, _, rfl, ?_⟩
      rw [inV_strs]
      by_cases c1 : t3.1 ∈ ps
      · rw [decide_eq_true c1]
        refine iteT ⟨_, rfl, g3, _, 1, _, rfl, rfl, SqT.of hg3, atI_nat (j := 1) rfl, _, rfl, p, _, rfl, .inl (SqL.of hp'), rfl, flat_strs ps, _, rfl, ?_⟩
        rw [inV_strs]
        by_cases c2 : t3.2.1 ∈ ps
        · rw [decide_eq_true c2]
          obtain ⟨acc, b1, b2, b3⟩ := add c1 c2
          exact iteT ⟨_, rfl, acc, b1, b2, b3⟩
        · rw [decide_eq_false c2]
          exact iteF (skip fun z => c2 z.2)
      · rw [decide_eq_false c1]
        exact iteF (skip fun z => c1 z.1)
    · obtain ⟨S5, ws, hG, wl, hW⟩ := hP
      rw [ul, List.take_length] at hW
      refine .inl ⟨G, _, rfl, SqL.of hG, fun o2 no2 => ?_⟩
      refine ⟨(by show 2 ≤ sizeLine; decide), fun r nr => ?_⟩
      have tkA := (TK.new (o := .tup ws) no2).trans (TK.new (o := .tup [.ref o, .ref o2]) nr)
      have tkB := TK.new (o := .tup [.ref o, .ref o2]) nr
      refine q _ (.ref r) (same_new (same_new (S14.trans S5) no2) nr) ?_
      exact .tup upd_same (.cons (.tup (tkA.tup _ _ (S5 _ _ ho)) (dt_strs _ ps)) (.cons (.tup (tkB.tup _ _ upd_same) (DtAll.keep tkA hW)) .nil))
end
end Far

namespace Far
open PySem PySem.Spec PyProof.Rows L2 LamX
open C8 (pss_cut tCut)
open SX (S)
theorem eqv_same {d : PyData} (h : SeqAt.shaped d = true) : PyData.eqv d d = true := SeqAt.eqv_refl d (by
  unfold SeqAt.shaped at h
  simp at h
  exact h.1)
theorem ties_lay : ∀ {ts : List Tie}, (∀ e ∈ ts, NameOk e.1 ∧ NameOk e.2.1) → PyData.canLayAll0 (ts.map tieD) = true ∧ PyData.depthAll (ts.map tieD) ≤ 1
  | [], _ => ⟨rfl, Nat.zero_le _⟩
  | e :: r, h => by
    obtain ⟨h1, h2⟩ := ties_lay fun x hx => h x (List.mem_cons.mpr (.inr hx))
    obtain ⟨a, b⟩ := h e (List.mem_cons.mpr (.inl rfl))
    refine ⟨?_, ?_⟩
    · show ((PyData.strOk (S e.1) && (PyData.strOk (S e.2.1) && (true && true))) && PyData.canLayAll0 (r.map tieD)) = true
      rw [strOk_S a, strOk_S b, h1]
      rfl
    · show max (max 0 (max 0 (max 0 0)) + 1) (PyData.depthAll (r.map tieD)) ≤ 1
      omega
theorem shaped_tree {pl : List Nm} {ts : List Tie} (h1 : ∀ l ∈ pl, NameOk l) (h2 : ∀ e ∈ ts, NameOk e.1 ∧ NameOk e.2.1) : SeqAt.shaped (treeD pl ts) = true := by
  have a : PyData.canLayAll0 (pl.map strD) = true := lay_strs h1
  have b : PyData.depthAll (pl.map strD) = 0 := dep_strs pl
  obtain ⟨c, e⟩ := ties_lay h2
  show ((PyData.canLayAll0 (pl.map strD) && (PyData.canLayAll0 (ts.map tieD) && true)) && decide (max (PyData.depthAll (pl.map strD) + 1) (max (PyData.depthAll (ts.map tieD) + 1) 0) + 1 ≤ 64)) = true
  rw [a, b, c, decide_eq_true (by omega)]
  rfl
theorem iteF' {A B : Prop} {b : Bool} (e : b = false) (h : B) : if b = true then A else B := by
  rw [e]
  exact iteF h
theorem idx_at {pl : List Nm} (nd : pl.Nodup) {y : Nm} (hy : y ∈ pl) : (pl.map S)[pl.idxOf y]? = some (S y) ∧ ∀ i, i < pl.idxOf y → (pl.map S)[i]? ≠ some (S y) := by
  have h1 : pl.idxOf y < pl.length := List.idxOf_lt_length_of_mem hy
  have h2 : pl[pl.idxOf y] = y := List.getElem_idxOf h1
  refine ⟨by rw [List.getElem?_map, List.getElem?_eq_getElem h1, h2]; rfl, fun i hi h => ?_⟩
  rw [List.getElem?_map, List.getElem?_eq_getElem (by omega)] at h
  have h3 : pl[i] = y := SX.S_inj (Option.some.inj h)
  have := (List.getElem_inj nd).mp (h3.trans h2.symm)
  omega
theorem bt_sorted : bootBuiltins ("sorted" : Str) = some (.builtin "sorted") := by decide +kernel
theorem hu0 {A : Around} {k : Nat} (hr : Room (k + 1) A) : A.units < cLine := by
  have := hd_of hr (by omega)
  omega
theorem SeedAt.same {H H' : Hp} {d : Addr} {n : Nat} (h : SeedAt H d n) (s : Same H H') : SeedAt H' d n := by
  obtain ⟨a, f, k, h1, h2⟩ := h
  exact ⟨a, f, k, s _ _ h1, h2⟩
theorem SeedAt.ofN {H H' : Hp} {d : Addr} {n : Nat} (h : SeedAt H d n) (e : ExtN H H') : SeedAt H' d n := by
  obtain ⟨a, f, k, h1, h2⟩ := h
  exact ⟨a, f, k, e _ _ h1 (fun ps z => by cases z), h2⟩
theorem Tabs.smx {T : List (Addr × Str)} {H H' : Hp} {d : Addr} {n : Nat} (t : Tabs T H) (D : SeedAt H d n) (s : SmX d H H') : Tabs T H' := fun p hp => by
  obtain ⟨ps, h1, h2, h3⟩ := t p hp
  obtain ⟨xs, e⟩ := D.lst
  refine ⟨ps, s _ _ (ne_of h1 e (by intro z; cases z)) h1, h2, fun pos cv hc => ?_⟩
  obtain ⟨c, e1, e2⟩ := h3 pos cv hc
  exact ⟨c, e1, s _ _ (ne_of e2 e (by intro z; cases z)) e2⟩
theorem chg_self {ts : List Tie} {i : Nat} {e : Tie} (he : ts[i]? = some e) : chgT ts i e.2.2 e.1 e.2.1 = ts := by
  unfold chgT
  have := split_at he
  rw [List.append_assoc]
  exact this.symm
theorem FLq.top {pl : List Nm} {ts : List Tie} (F : Fine pl ts) (ne : ts ≠ []) {z : Qua} (h : FLq (allC pl ts ts.length) z) : z.1 ≤ (topOf pl ts).1 := by
  obtain ⟨e, r, et⟩ : ∃ e r, ts = e :: r := by
    cases ts with
    | nil => exact absurd rfl ne
    | cons e r => exact ⟨e, r, rfl⟩
  have he : ts[0]? = some e := by rw [et]; rfl
  have c := F.tree.cutF he
  have m1 : e.1 ∈ pl := c.ps.mem_iff.mp (List.mem_append_left _ c.ma)
  have m2 : e.2.1 ∈ pl := c.ps.mem_iff.mp (List.mem_append_right _ c.mb)
  have a : acrE pl ts e e.1 e.2.1 := .inl ⟨c.ma, c.mb⟩
  have := h.best F.tree he m1 m2 a
  rw [← (c.changed F a).2, chg_self he] at this
  exact this
/-- the second of two triples of whole numbers is not behind the first -/
theorem lt3 {a b c a' b' c' : Int} (h : a' < a ∨ (a' = a ∧ (b' < b ∨ (b' = b ∧ c' ≤ c)))) : Ob.lexAt (fun j => decide ([a, b, c].getD j 0 = [a', b', c'].getD j 0)) (fun j => decide ([a, b, c].getD j 0 < [a', b', c'].getD j 0)) (decide ([a, b, c].length < [a', b', c'].length)) 0 (min [a, b, c].length [a', b', c'].length) = false := by
  show (if decide (a = a') = true then (if decide (b = b') = true then (if decide (c = c') = true then decide (3 < 3) else decide (c < c')) else decide (b < b')) else decide (a < a')) = false
  by_cases h1 : a = a'
  · rw [if_pos (decide_eq_true h1)]
    by_cases h2 : b = b'
    · rw [if_pos (decide_eq_true h2)]
      by_cases h3 : c = c'
      · rw [if_pos (decide_eq_true h3)]
        rfl
      · rw [if_neg (fun z => h3 (of_decide_eq_true z))]
        exact decide_eq_false (by omega)
    · rw [if_neg (fun z => h2 (of_decide_eq_true z))]
      exact decide_eq_false (by omega)
  · rw [if_neg (fun z => h1 (of_decide_eq_true z))]
    exact decide_eq_false (by omega)
theorem sort2 {ns : List Int} {a b : Int} (p : ns.Perm [a, b]) (s : ns.Pairwise (· ≤ ·)) (h : a < b) : ns = [a, b] := by
  have l := p.length_eq
  match ns, l with
  | [c, d], _ =>
    have hc : c = a ∨ c = b := by
      have := p.mem_iff.mp (List.mem_cons_self (a := c) (l := [d]))
      simpa using this
    have cd : c ≤ d := by
      have := List.pairwise_cons.mp s
      exact this.1 d (by simp)
    rcases hc with e | e
    · subst e
      have q := p.cons_inv
      have := q.mem_iff.mp (List.mem_singleton.mpr rfl)
      rw [List.mem_singleton.mp this]
    · subst e
      have q := (p.trans (List.Perm.swap c a [])).cons_inv
      have := q.mem_iff.mp (List.mem_singleton.mpr rfl)
      have := List.mem_singleton.mp this
      omega
theorem top_rch {pl : List Nm} {ts : List Tie} (F : Fine pl ts) : (topOf pl ts).1 = mxG (pl.map (rch pl ts)) := by
  obtain ⟨⟨u, hu, v, hv, e⟩, le⟩ := mx_in F.tree F.ne
  obtain ⟨a1, a2, a3⟩ := top_in F
  have h1 := top_max F hu hv
  have h2 := le _ a1 _ a2
  have a3 : (topOf pl ts).1 = dist ts (topOf pl ts).2.1 (topOf pl ts).2.2 := a3
  have h2 : dist ts (topOf pl ts).2.1 (topOf pl ts).2.2 ≤ mxG (pl.map (rch pl ts)) := h2
  omega
structure TxtLL (mg : Str → Option Value) : Prop where
  len : mg "len" = none
  range : mg "range" = none
  sorted : mg "sorted" = none
  max : mg "max" = none
abbrev s_law_change_right : Stmt := topS 47
abbrev N_law_change_right : List Str := ["deck", "tree", "told", "number", "one", "other", "changed", "own", "k", "some", "first", "second", "pair", "places", "far", "name"]
theorem sc_law_change_right : FnScope N_law_change_right ["deck", "tree"] (defScope s_law_change_right) := ⟨rfl, rfl, rfl, by decide +kernel, rfl, by decide +kernel, by decide +kernel⟩
section
variable {P : Program} {w : World} {K : PySem.W.Frag} {mg : Str → Option Value} {base : Heap} {Pb Pw : Addr}
def spYes (Pb Pw : Addr) : Sp := fun vs H Q _ => ∃ (d : Addr) (v : V) (n : Nat) (pl : List Nm) (ts : List Tie), vs = [.ref d, v] ∧ SeedAt H d n ∧ n < 60000 ∧ Dt H v (treeD pl ts) ∧ PlZ H v pl ∧ Fine pl ts ∧ pl.length ≤ 30 ∧ ts ≠ [] ∧ Tabs [(Pb, qB), (Pw, qW)] H ∧
  ∀ H' : Hp, TK H H' → SeedAt H' d (n + 30) → Tabs [(Pb, qB), (Pw, qW)] H' → Q (.bl true) H'
theorem ok_change_right {f : Addr} {fd : FuncData} (F : Fun K "_law_change_right" "_law_change_right" s_law_change_right f fd) (T : TxtLL mg) (Cbest_change : Cal P w K mg base 5 "best_change" (spBC Pb Pw)) (C_law_changed : Cal P w K mg base 1 "_law_changed" spChanged) (Cfarthest : Cal P w K mg base 5 "farthest" spFarthest) (Ctree_shown : Cal P w K mg base 1 "tree_shown" spShown) (Cread_tree : Cal P w K mg base 3 "read_tree" spRead)
    (C_law_draw : Cal P w K mg base 1 "_law_draw" spDraw) (C_law_parts : Cal P w K mg base 3 "_law_parts" spLParts) : FnOk P w K mg base CX0 7 f fd ["deck", "tree"] (spYes Pb Pw) := by
  refine F.ok sc_law_change_right (fun vs H Q E h => ?_) (fun cdv A outer s H vs Q E hr h => ?_)
  · obtain ⟨d, v, n, pl, ts, rfl, _⟩ := h
    rfl
  · obtain ⟨d, v, n, pl, ts, rfl, hD, hn, hd, hz, fine, l30, tne, hT, q⟩ := h
    obtain ⟨t, a, b, vs, rfl, ht, ha, hb, hA⟩ := dt_tree hd
    obtain ⟨t', a', b', oz, et', ht', od, hfz⟩ := hz
    cases et'
    rw [ht] at ht'
    cases ht'
    refine ⟨_, (pss_cons (ps_asg (pe_c Cbest_change hr (by decide) rfl (pa_cons (pv 1) pa_nil)) (pg_tup rfl (pgs_cons (pg_name (i := 2) sc_law_change_right.nd rfl (.inl rfl)) (pgs_cons (pg_name (i := 3) sc_law_change_right.nd rfl (.inl rfl)) (pgs_cons (pg_name (i := 4) sc_law_change_right.nd rfl (.inl rfl)) (pgs_cons (pg_name (i := 5) sc_law_change_right.nd rfl (.inl rfl)) pgs_nil))))))
      (pss_cons (ps_set (i := 6) sc_law_change_right.nd rfl (.inl rfl) (pe_c C_law_changed hr (by decide) rfl (pa_cons (pv 1) (pa_cons (pv 3) (pa_cons (pv 4) (pa_cons (pv 5) pa_nil))))))
      (pss_cut (ps_if (PW.pt (pw_or (pt_cmpR op_ne (pe_ix ix_tup (pe_c Cfarthest hr (by decide) rfl (pa_cons (pv 6) pa_nil)) pe_int (fun _ _ => rfl)) (pv 2) (nomark _)) (pw_or (pt_cmpR op_gt (pv 2) (pe_ix ix_tup (pe_c Cfarthest hr (by decide) rfl (pa_cons (pv 1) pa_nil)) pe_int (fun _ _ => rfl)) (nomark _)) (pw_or1 (pt_cmpR op_ge (pe_ixZ (pe_ix ix_tup (pv 1) pe_int (fun _ _ => rfl)) (pv 4)) (pe_ixZ (pe_ix ix_tup (pv 1) pe_int (fun _ _ => rfl)) (pv 5)) (nomark _))))))
        (pss_one (ps_ret pe_bl))
        pss_nil)
      (pss_cut (ps_if (PW.pt (pw_and (pt_cmpR op_le (pe_callB call_len (by rfl) T.len bt_len (pa_cons (pe_c Ctree_shown hr (by decide) rfl (pa_cons (pv 6) pa_nil)) pa_nil)) pe_int (nomark _)) (pw_and1 (pt_cmpR (op_neD (hd_of hr (by decide))) (pe_c Cread_tree hr (by decide) rfl (pa_cons (pe_c Ctree_shown hr (by decide) rfl (pa_cons (pv 6) pa_nil)) pa_nil)) (pv 6) (nomark _)))))
        (pss_one (ps_ret pe_bl))
        pss_nil)
      (pss_cons (ps_set (i := 7) sc_law_change_right.nd rfl (.inl rfl) (pe_tup (pa_cons (pv 3) (pa_cons (pe_ixZ (pe_ix ix_tup (pv 1) pe_int (fun _ _ => rfl)) (pv 4)) (pa_cons (pe_ixZ (pe_ix ix_tup (pv 1) pe_int (fun _ _ => rfl)) (pv 5)) pa_nil)))))
      (pss_cut (ps_for PassesOwn.never rfl (pi_range1 (by rfl) T.range (pa_cons pe_int pa_nil)) (pg_name (i := 8) sc_law_change_right.nd rfl (.inl rfl))
        (pss_cons (ps_set (i := 9) sc_law_change_right.nd rfl (.inl rfl) (pe_c C_law_draw hr (by decide) rfl (pa_cons (pv 0) (pa_cons (pe_callB call_len_seq (by rfl) T.len bt_len (pa_cons (pe_ix ix_tup (pv 1) pe_int (fun _ _ => rfl)) pa_nil)) pa_nil))))
        (pss_cons (ps_asg (pe_c C_law_parts hr (by decide) rfl (pa_cons (pv 1) (pa_cons (pv 9) pa_nil))) (pg_unl rfl (pgs_cons (pg_name (i := 10) sc_law_change_right.nd rfl (.inl rfl)) (pgs_cons (pg_name (i := 11) sc_law_change_right.nd rfl (.inl rfl)) pgs_nil))))
        (pss_cons (ps_set (i := 12) sc_law_change_right.nd rfl (.inl rfl) (pe_lst (pa_cons (pe_ix ix_list (pv 10) (pe_c C_law_draw hr (by decide) rfl (pa_cons (pv 0) (pa_cons (pe_callB call_len_seq (by rfl) T.len bt_len (pa_cons (pv 10) pa_nil)) pa_nil))) (fun _ _ => rfl)) (pa_cons (pe_ix ix_list (pv 11) (pe_c C_law_draw hr (by decide) rfl (pa_cons (pv 0) (pa_cons (pe_callB call_len_seq (by rfl) T.len bt_len (pa_cons (pv 11) pa_nil)) pa_nil))) (fun _ _ => rfl)) pa_nil))))
        (pss_cons (ps_set (i := 13) sc_law_change_right.nd rfl (.inl rfl) (pe_callB cr_sortedI (by rfl) T.sorted bt_sorted (pa_cons (pe_lc (own := [("name", 15)]) (g := gName 15) (tt := tYes) rfl sc_law_change_right.nd (pi_list (pv 12)) (blkOk_by (N := N_law_change_right) (sc := defScope s_law_change_right) (by decide +kernel)) (fun _ _ _ _ _ => pg_name (i := 15) sc_law_change_right.nd rfl (Or.inl rfl)) (fun _ _ _ _ _ => pts_nil) (fun _ _ _ _ _ => (pe_ixZ (pe_ix (ixt (K := K)) (pv 1) pe_int (fun _ _ => rfl)) (pv 15)))) pa_nil)))
        (pss_cons (ps_set (i := 14) sc_law_change_right.nd rfl (.inl rfl) (pe_ix ix_tup (pe_c Cfarthest hr (by decide) rfl (pa_cons (pe_c C_law_changed hr (by decide) rfl (pa_cons (pv 1) (pa_cons (pv 9) (pa_cons (pe_ix ix_tup (pe_ix ix_tup (pv 1) pe_int (fun _ _ => rfl)) (pe_ix ix_list (pv 13) pe_int (fun _ _ => rfl)) (fun _ _ => rfl)) (pa_cons (pe_ix ix_tup (pe_ix ix_tup (pv 1) pe_int (fun _ _ => rfl)) (pe_ix ix_list (pv 13) pe_int (fun _ _ => rfl)) (fun _ _ => rfl)) pa_nil))))) pa_nil)) pe_int (fun _ _ => rfl)))
        (pss_one (ps_if (PW.pt (pw_or (pt_cmpR op_lt (pv 14) (pv 2) (nomark _)) (pw_or1 (PW.pt (pw_and (pt_cmpR op_eq (pv 14) (pv 2) (nomark _)) (pw_and1 (pt_cmpR (op_ltT (hu0 hr)) (pe_tup (pa_cons (pv 9) (pa_cons (pe_ix ix_list (pv 13) pe_int (fun _ _ => rfl)) (pa_cons (pe_ix ix_list (pv 13) pe_int (fun _ _ => rfl)) pa_nil)))) (pv 7) (nomark _))))))))
          (pss_one (ps_ret pe_bl))
          pss_nil))))))))
      (pss_one (ps_ret pe_bl)))))))), ?_⟩
    have nd := fine.tree.nodup
    have tl := fine.tree.len
    have vl : vs.length = ts.length := by
      have := DtAll.len hA
      rwa [List.length_map] at this
    have tpos : 0 < ts.length := List.length_pos_iff.mpr tne
    refine ⟨_, rfl, .ref t, pl, ts, rfl, hd, fine, by omega, tne, hT, fun H1 rz z e1 T1 fl hz => ?_⟩
    obtain ⟨t0, rfl, ht0⟩ := dt_qua hz
    obtain ⟨i, e, x, y, he, rfl, hx, hy, oxy, acr⟩ := allC_is fine.tree fl.mem
    have c := fine.tree.cutF he
    obtain ⟨FC, ftop⟩ := c.changed fine acr
    have k1 : TK H H1 := TK.ofN e1
    have D1 := hD.ofN e1
    have okT : ∀ {ts' : List Tie}, Fine pl ts' → SeqAt.shaped (treeD pl ts') = true := fun F => shaped_tree F.ok fun e he => F.okT he
    refine ⟨t0, _, rfl, SqT.of ht0, rfl, _, _, rfl, _, _, rfl, _, _, rfl, _, _, rfl, rfl, ?_⟩
    refine ⟨_, rfl, _, rfl, _, rfl, _, rfl, .ref t, pl, ts, i, e, x, y, rfl, Dt.keep k1 hd, fine, he, fun H2 r2 S2 h2 => ?_⟩
    have k2 := k1.trans (TK.of S2)
    have D2 := D1.same S2
    have T2 := T1.ext S2
    -- the first test
    refine ⟨fun σ' H' => σ' = [some (.ref d), some (.ref t), some (.int (overE pl ts e x y)), some (.int i), some (.str (S x)), some (.str (S y)), some r2, none, none, none, none, none, none, none, none, none] ∧ Same H2 H', ?_, fun σ' H3 hM => ?_⟩
    · refine ⟨_, rfl, r2, pl, _, rfl, h2, FC, fun H3 f3 S3 h3 => ?_⟩
      rw [(farD_top FC).1] at h3
      obtain ⟨f3, rfl, hf3⟩ := dt_tri h3
      refine ⟨f3, _, 0, _, rfl, rfl, SqT.of hf3, atI_nat (j := 0) rfl, _, rfl, rfl, _, rfl, ?_⟩
      have c1 : (!decide (V.int (topOf pl (chgT ts i e.2.2 x y)).1 = V.int (overE pl ts e x y))) = false := by
        rw [ftop]
        simp
      refine iteF' c1 ?_
      have k3 := k2.trans (TK.of S3)
      refine ⟨_, rfl, _, rfl, .ref t, pl, ts, rfl, Dt.keep k3 hd, fine, fun H4 f4 S4 h4 => ?_⟩
      rw [(farD_top fine).1] at h4
      obtain ⟨f4, rfl, hf4⟩ := dt_tri h4
      have le := fl.top fine tne
      refine ⟨f4, _, 0, _, rfl, rfl, SqT.of hf4, atI_nat (j := 0) rfl, _, _, rfl, rfl, _, rfl, ?_⟩
      refine iteF' (decide_eq_false (by show ¬ (overE pl ts e x y > (topOf pl ts).1); have le : overE pl ts e x y ≤ (topOf pl ts).1 := le; omega)) ?_
      have k4 := k3.trans (TK.of S4)
      have ht4 := k4.tup _ _ ht
      have hf4' := k4.frz _ _ _ hfz
      refine ⟨_, rfl, t, _, 0, .ref a, rfl, rfl, SqT.of ht4, atI_nat (j := 0) rfl, a, pl.map S, oz, rfl, od, hf4', _, rfl, rfl, S x, pl.idxOf x, rfl, (idx_at nd hx).1, (idx_at nd hx).2, ?_⟩
      refine ⟨_, rfl, t, _, 0, .ref a, rfl, rfl, SqT.of ht4, atI_nat (j := 0) rfl, a, pl.map S, oz, rfl, od, hf4', _, rfl, rfl, S y, pl.idxOf y, rfl, (idx_at nd hy).1, (idx_at nd hy).2, _, _, rfl, rfl, _, rfl, ?_⟩
      exact iteF' (decide_eq_false (by omega)) ⟨rfl, S3.trans S4⟩
    · obtain ⟨rfl, S3⟩ := hM
      have h3 := Dt.keep (TK.of S3) h2
      -- shown and read
      refine ⟨fun σ' H' => σ' = [some (.ref d), some (.ref t), some (.int (overE pl ts e x y)), some (.int i), some (.str (S x)), some (.str (S y)), some r2, none, none, none, none, none, none, none, none, none] ∧ Same H3 H', ?_, fun σ' H4 hM => ?_⟩
      · refine ⟨_, rfl, r2, pl, _, rfl, h3, FC, fun H4 S4 => ?_⟩
        have tlen := FC.textLen
        refine ⟨_, _, rfl, ⟨by rw [SX.S_len]; exact sz_le (by omega), (SX.S_len _).symm⟩, _, _, rfl, rfl, _, rfl, ?_⟩
        refine ite2 (fun _ => ?_) (fun _ => ⟨rfl, S4⟩)
        refine ⟨_, rfl, r2, pl, _, rfl, Dt.keep (TK.of S4) h3, FC, fun H5 S5 => ?_⟩
        refine ⟨pl, _, rfl, FC, fun H6 t6 S6 n6 h6 => ?_⟩
        have S456 := S4.trans (S5.trans S6)
        refine ⟨_, rfl, treeD pl (chgT ts i e.2.2 x y), treeD pl (chgT ts i e.2.2 x y), Dt.dp h6, Dt.dp (Dt.keep (TK.of S456) h3), okT FC, okT FC, _, rfl, ?_⟩
        rw [eqv_same (okT FC)]
        exact iteF ⟨rfl, S456⟩
      · obtain ⟨rfl, S4⟩ := hM
        have S24 := S3.trans S4
        have k4 := k2.trans (TK.of S24)
        have D4 := D2.same S24
        have T4 := T2.ext S24
        have ht4 := k4.tup _ _ ht
        have hf4' := k4.frz _ _ _ hfz
        -- own
        refine ⟨_, rfl, _, rfl, t, _, 0, .ref a, rfl, rfl, SqT.of ht4, atI_nat (j := 0) rfl, a, pl.map S, oz, rfl, od, hf4', _, rfl, rfl, S x, pl.idxOf x, rfl, (idx_at nd hx).1, (idx_at nd hx).2, ?_⟩
        refine ⟨_, rfl, t, _, 0, .ref a, rfl, rfl, SqT.of ht4, atI_nat (j := 0) rfl, a, pl.map S, oz, rfl, od, hf4', _, rfl, rfl, S y, pl.idxOf y, rfl, (idx_at nd hy).1, (idx_at nd hy).2, (by show 3 ≤ sizeLine; decide), fun ow now => ?_⟩
        have S5 := same_new (o := .tup [.int (i : Int), .int (pl.idxOf x : Nat), .int (pl.idxOf y : Nat)]) (Same.refl H4) now
        have how : (upd H4 ow (.tup [.int (i : Int), .int (pl.idxOf x : Nat), .int (pl.idxOf y : Nat)])) ow = some (.tup [.int (i : Int), .int (pl.idxOf x : Nat), .int (pl.idxOf y : Nat)]) := upd_same
        have D5 := D4.same S5
        have T5 := T4.ext S5
        have k5 := k4.trans (TK.of S5)
        generalize upd H4 ow (.tup [.int (i : Int), .int (pl.idxOf x : Nat), .int (pl.idxOf y : Nat)]) = H5 at how D5 T5 k5
        refine ⟨fun σ' H' => TK H H' ∧ SeedAt H' d (n + 18) ∧ Tabs [(Pb, qB), (Pw, qW)] H', ?_, fun σ' H' hM => ?_⟩
        rotate_left
        · obtain ⟨k6, D6, T6⟩ := hM
          exact q H' k6 (D6.mono (by omega)) T6
        · refine ⟨6, rfl, by decide, by decide, ?_⟩
          refine for_range (lo := 0) (n := (6 : Int).toNat) (fun m σ' H' => (∃ x8 x9 x10 x11 x12 x13 x14, σ' = [some (.ref d), some (.ref t), some (.int (overE pl ts e x y)), some (.int i), some (.str (S x)), some (.str (S y)), some r2, some (.ref ow), x8, x9, x10, x11, x12, x13, x14, none]) ∧ TK H5 H' ∧ SeedAt H' d (n + 3 * m) ∧ Tabs [(Pb, qB), (Pw, qW)] H') ⟨⟨_, _, _, _, _, _, _, rfl⟩, TK.refl _, D5, T5⟩ (fun m σ' H' hm hP => ?_) (fun σ' H' hP => ?_)
          rotate_left
          · obtain ⟨_, k6, D6, T6⟩ := hP
            exact ⟨k5.trans k6, D6, T6⟩
          · have hm : m < 6 := hm
            obtain ⟨⟨x8, x9, x10, x11, x12, x13, x14, rfl⟩, k6, D6, T6⟩ := hP
            have kA := k5.trans k6
            refine ⟨_, rfl, _, rfl, t, _, 1, .ref b, rfl, rfl, SqT.of (kA.tup _ _ ht), atI_nat (j := 1) rfl, b, _, rfl, .inr (SqT.of (kA.tup _ _ hb)), d, _, ((vs.length : Nat) : Int), rfl, D6, by omega, by omega, by omega, fun H7 r r0 r1 S7 D7 => ?_⟩
            have jB := k6.trans (D6.tk S7)
            have kB := k5.trans jB
            have T7 := Far.Tabs.smx T6 D6 S7
            obtain ⟨j, rfl⟩ : ∃ j : Nat, r = (j : Int) := ⟨r.toNat, by omega⟩
            obtain ⟨e', he'⟩ : ∃ e', ts[j]? = some e' := ⟨ts[j]'(by omega), List.getElem?_eq_getElem (by omega)⟩
            have c' := fine.tree.cutF he'
            refine ⟨_, rfl, _, rfl, .ref t, pl, ts, j, e', rfl, Dt.keep kB hd, fine, he', fun H8 q8 n1 n2 S8 f8 f1 f2 hq8 h81 h82 => ?_⟩
            have j8 := jB.trans (TK.of S8)
            have k8 := k5.trans j8
            have D8 := D7.same S8
            have T8 := T7.ext S8
            have n1d : n1 ≠ d := D7.nd f1
            have n2d : n2 ≠ d := D7.nd f2
            have pr1 : 0 < (nearP pl ts e').length := List.length_pos_of_mem c'.ma
            have pr2 : 0 < (offP pl ts e').length := List.length_pos_of_mem c'.mb
            have lp := c'.ps.length_eq
            rw [List.length_append] at lp
            refine ⟨q8, _, rfl, SqL.of hq8, rfl, _, _, rfl, _, _, rfl, rfl, ?_⟩
            -- the pair
            refine ⟨_, rfl, _, rfl, _, rfl, n1, _, rfl, .inl (SqL.of h81), d, _, (((nearP pl ts e').length : Nat) : Int), by rw [List.length_map, List.length_map]; rfl, D8, by omega, by omega, by omega, fun H9 ru ru0 ru1 S9 D9 => ?_⟩
            have j9 := j8.trans (D8.tk S9)
            have k9 := k5.trans j9
            have T9 := Far.Tabs.smx T8 D8 S9
            have h91 := S9 _ _ n1d h81
            have h92 := S9 _ _ n2d h82
            obtain ⟨u, hu, hau⟩ : ∃ u, u ∈ nearP pl ts e' ∧ atI (((nearP pl ts e').map S).map V.str) ru = some (.str (S u)) := by
              obtain ⟨v, hv, mv⟩ := atI_in (xs := ((nearP pl ts e').map S).map V.str) ru0 (by rw [List.length_map, List.length_map]; exact ru1)
              obtain ⟨y, my, rfl⟩ := strs_at mv
              exact ⟨y, my, hv⟩
            refine ⟨n1, _, ru, _, rfl, rfl, SqL.of h91, hau, ?_⟩
            refine ⟨_, rfl, _, rfl, _, rfl, n2, _, rfl, .inl (SqL.of h92), d, _, (((offP pl ts e').length : Nat) : Int), by rw [List.length_map, List.length_map]; rfl, D9, by omega, by omega, by omega, fun H10 rw' rw0 rw1 S10 D10 => ?_⟩
            have j10 := j9.trans (D9.tk S10)
            have k10 := k5.trans j10
            have T10 := Far.Tabs.smx T9 D9 S10
            have h102 := S10 _ _ n2d h92
            obtain ⟨w', hw', haw⟩ : ∃ u, u ∈ offP pl ts e' ∧ atI (((offP pl ts e').map S).map V.str) rw' = some (.str (S u)) := by
              obtain ⟨v, hv, mv⟩ := atI_in (xs := ((offP pl ts e').map S).map V.str) rw0 (by rw [List.length_map, List.length_map]; exact rw1)
              obtain ⟨y, my, rfl⟩ := strs_at mv
              exact ⟨y, my, hv⟩
            refine ⟨n2, _, rw', _, rfl, rfl, SqL.of h102, haw, ?_⟩
            refine ⟨(by show 2 ≤ sizeLine; decide), fun pr npr => ?_⟩
            have S11 := same_new (o := .lst [.str (S u), .str (S w')]) (Same.refl H10) npr
            have hpr : (upd H10 pr (.lst [.str (S u), .str (S w')])) pr = some (.lst [.str (S u), .str (S w')]) := upd_same
            have j11 := j10.trans (TK.of S11)
            have k11 := k5.trans j11
            have D11 := D10.same S11
            have T11 := T10.ext S11
            generalize upd H10 pr (.lst [.str (S u), .str (S w')]) = H11 at hpr j11 k11 D11 T11
            have ht11 := k11.tup _ _ ht
            have hf11 := k11.frz _ _ _ hfz
            have mu : u ∈ pl := (List.mem_filter.mp hu).1
            have mw : w' ∈ pl := (List.mem_filter.mp hw').1
            have acr' : acrE pl ts e' u w' := .inl ⟨hu, hw'⟩
            have une : u ≠ w' := fun q => c'.dis u hu (q ▸ hw')
            -- the places
            refine ⟨_, rfl, pr, rfl, ⟨_, SqL.of hpr⟩, fun G nG => ?_⟩
            refine lc_list (K := K) (a := pr) (xs := [.str (S u), .str (S w')]) (fun m H' => Same H11 H' ∧ H' G = some (.lst ((([u, w'].take m).map fun x => ((pl.idxOf x : Nat) : Int)).map V.int))) ⟨same_new (Same.refl _) nG, upd_same⟩ (fun m H' _ hP => SqL.of (hP.1 _ _ hpr)) (fun m v H' hm' hP => ?_) (fun H12 hP => ?_)
            · obtain ⟨sm, hG⟩ := hP
              obtain ⟨l, rfl, ml, etl⟩ : ∃ l, v = .str (S l) ∧ l ∈ pl ∧ [u, w'].take (m + 1) = [u, w'].take m ++ [l] := by
                match m, hm' with
                | 0, hm' => exact ⟨u, (Option.some.inj hm').symm, mu, rfl⟩
                | 1, hm' => exact ⟨w', (Option.some.inj hm').symm, mw, rfl⟩
              refine ⟨rfl, _, rfl, t, _, 0, .ref a, rfl, rfl, SqT.of (sm _ _ ht11), atI_nat (j := 0) rfl, a, pl.map S, oz, rfl, od, sm _ _ hf11, _, rfl, rfl, S l, pl.idxOf l, rfl, (idx_at nd ml).1, (idx_at nd ml).2, _, hG, by rw [List.length_map, List.length_map, List.length_take]; exact sz_lt (by simp; omega), same_put sm nG, ?_⟩
              rw [upd_same, etl, List.map_append, List.map_append]
              rfl
            · obtain ⟨S12, hG⟩ := hP
              refine ⟨G, _, rfl, SqL.of hG, fun ns' pp perm srt npp => ?_⟩
              obtain ⟨p', q', rfl, mp, mq, opq, acq⟩ : ∃ p' q' : Nm, ns' = [((pl.idxOf p' : Nat) : Int), ((pl.idxOf q' : Nat) : Int)] ∧ p' ∈ pl ∧ q' ∈ pl ∧ pl.idxOf p' < pl.idxOf q' ∧ acrE pl ts e' p' q' := by
                have perm : ns'.Perm [((pl.idxOf u : Nat) : Int), ((pl.idxOf w' : Nat) : Int)] := perm
                rcases Nat.lt_or_gt_of_ne (idx_ne mu mw une) with o | o
                · exact ⟨u, w', sort2 perm srt (by omega), mu, mw, o, acr'⟩
                · exact ⟨w', u, sort2 (perm.trans (List.Perm.swap _ _ [])) srt (by omega), mw, mu, o, acr_symm acr'⟩
              have S13 := same_new (o := .lst ([((pl.idxOf p' : Nat) : Int), ((pl.idxOf q' : Nat) : Int)].map V.int)) S12 npp
              have hpp : (upd H12 pp (.lst ([((pl.idxOf p' : Nat) : Int), ((pl.idxOf q' : Nat) : Int)].map V.int))) pp = some (.lst [.int ((pl.idxOf p' : Nat) : Int), .int ((pl.idxOf q' : Nat) : Int)]) := upd_same
              have j13 := j11.trans (TK.of S13)
              have k13 := k5.trans j13
              have D13 := D11.same S13
              have T13 := T11.ext S13
              generalize upd H12 pp (.lst ([((pl.idxOf p' : Nat) : Int), ((pl.idxOf q' : Nat) : Int)].map V.int)) = H13 at hpp j13 k13 D13 T13
              have ht13 := k13.tup _ _ ht
              have ha13 := ha.tk k13
              have gp : atI ((pl.map S).map V.str) ((pl.idxOf p' : Nat) : Int) = some (.str (S p')) := atI_nat (by rw [List.getElem?_map, (idx_at nd mp).1]; rfl)
              have gq : atI ((pl.map S).map V.str) ((pl.idxOf q' : Nat) : Int) = some (.str (S q')) := atI_nat (by rw [List.getElem?_map, (idx_at nd mq).1]; rfl)
              obtain ⟨FC', ftop'⟩ := c'.changed fine acq
              refine ⟨_, rfl, _, rfl, _, rfl, t, _, 0, .ref a, rfl, rfl, SqT.of ht13, atI_nat (j := 0) rfl, _, rfl, pp, _, 0, _, rfl, rfl, SqL.of hpp, atI_nat (j := 0) rfl, a, _, _, .str (S p'), rfl, rfl, ha13.sq, gp, _, rfl, t, _, 0, .ref a, rfl, rfl, SqT.of ht13, atI_nat (j := 0) rfl, _, rfl, pp, _, 1, _, rfl, rfl, SqL.of hpp, atI_nat (j := 1) rfl, a, _, _, .str (S q'), rfl, rfl, ha13.sq, gq, ?_⟩
              refine ⟨.ref t, pl, ts, j, e', p', q', rfl, Dt.keep k13 hd, fine, he', fun H14 r14 S14 h14 => ?_⟩
              refine ⟨r14, pl, _, rfl, h14, FC', fun H15 f15 S15 h15 => ?_⟩
              rw [(farD_top FC').1] at h15
              obtain ⟨f15, rfl, hf15⟩ := dt_tri h15
              have S145 := S14.trans S15
              have k5' := j13.trans (TK.of S145)
              have k15 := k5.trans k5'
              have hpp15 := S145 _ _ hpp
              have D15 := D13.same S145
              have T15 := T13.ext S145
              refine ⟨f15, _, 0, _, rfl, rfl, SqT.of hf15, atI_nat (j := 0) rfl, ?_⟩
              have et15 : (topT (0, pl.headD [], pl.headD []) (pairsOf pl (chgT ts j e'.2.2 p' q'))).1 = overE pl ts e' p' q' := ftop'
              rw [et15]
              have mem := allC_has fine.tree he' mp mq acq opq
              have le := fl.le mem
              have le : overE pl ts e x y ≤ overE pl ts e' p' q' := le
              refine ⟨_, rfl, _, rfl, _, _, rfl, rfl, _, rfl, ?_⟩
              refine iteF' (decide_eq_false (by omega)) ?_
              refine ⟨_, rfl, _, rfl, rfl, _, rfl, ?_⟩
              refine ite2 (fun ze => ?_) (fun _ => ⟨⟨_, _, _, _, _, _, _, rfl⟩, k5', D15.mono (by omega), T15⟩)
              have ze : overE pl ts e' p' q' = overE pl ts e x y := by
                have := of_decide_eq_true ze
                exact V.int.inj this
              refine ⟨_, rfl, _, rfl, pp, _, 0, _, rfl, rfl, SqL.of hpp15, atI_nat (j := 0) rfl, _, rfl, pp, _, 1, _, rfl, rfl, SqL.of hpp15, atI_nat (j := 1) rfl, (by show 3 ≤ sizeLine; decide), fun o no => ?_⟩
              have S16 := same_new (o := .tup [.int (j : Int), .int (pl.idxOf p' : Nat), .int (pl.idxOf q' : Nat)]) (Same.refl H15) no
              have k16 := k5'.trans (TK.of S16)
              refine ⟨_, rfl, o, ow, [(j : Int), (pl.idxOf p' : Nat), (pl.idxOf q' : Nat)], [(i : Int), (pl.idxOf x : Nat), (pl.idxOf y : Nat)], rfl, rfl, SqT.of upd_same, SqT.of (k16.tup _ _ how), _, rfl, ?_⟩
              refine iteF' (lt3 ?_) ⟨⟨_, _, _, _, _, _, _, rfl⟩, k16, (D15.same S16).mono (by omega), T15.ext S16⟩
              rcases fl.lex (allC_up nd ts.length) mem ze with same | lx
              · have s1 : (j : Int) = (i : Int) := congrArg (fun z : Qua => z.2.1) same
                have s2 : p' = x := congrArg (fun z : Qua => z.2.2.1) same
                have s3 : q' = y := congrArg (fun z : Qua => z.2.2.2) same
                rw [s1, s2, s3]
                exact .inr ⟨rfl, .inr ⟨rfl, Int.le_refl _⟩⟩
              · rcases lx with lx | ⟨s1, lx⟩
                · exact .inl lx
                · rcases lx with lx | ⟨s2, lx⟩
                  · exact .inr ⟨s1, .inl (Int.ofNat_lt.mpr lx)⟩
                  · exact .inr ⟨s1, .inr ⟨congrArg Int.ofNat s2, Int.le_of_lt (Int.ofNat_lt.mpr lx)⟩⟩
end
end Far

namespace Far
open PySem PySem.Spec PyProof.Rows L2
/-! ### t[::-1], t a tuple -/
def tRevT (K : PySem.W.Frag) (te : TE) : TE := fun σ H Q => te σ H fun x H1 => ∃ a xs, x = .ref a ∧ SqT K H1 a xs ∧ ∀ p, H1 p = none → Q (.ref p) (upd H1 p (.tup xs.reverse))
section
variable {prog : Program} {w : World} {A : Around} {E : Value → Shared → Prop} {s : Shared}
theorem back_adjust (n : Nat) : Builtin.Slice.sliceAdjust none none (-1) (n : Int) = ((n : Int) - 1, -1) := by
  unfold Builtin.Slice.sliceAdjust
  simp
theorem back_places (n : Nat) : Builtin.Slice.slicePlaces ((n : Int) - 1) (-1) (-1) = n := by
  unfold Builtin.Slice.slicePlaces
  rw [if_neg (by decide)]
  cases n with
  | zero => rfl
  | succ n =>
    rw [if_pos (by omega)]
    have : (((n + 1 : Nat) : Int) - 1 - -1 - 1) / (- -1) + 1 = ((n + 1 : Nat) : Int) := by
      show _ / (1 : Int) + 1 = _
      rw [Int.ediv_one]
      omega
    rw [this]
    rfl
theorem back_all {α : Type} : ∀ (l : List α), (List.range l.length).filterMap (fun m => l[l.length - 1 - m]?) = l.reverse := by
  intro l
  have h := PySem.W.krv_range l.length
  have e : (List.range l.length).filterMap (fun m => l[l.length - 1 - m]?) = ((List.range l.length).map fun k => l.length - 1 - k).filterMap (fun j => l[j]?) := by
    rw [List.filterMap_map]
    rfl
  rw [e, h, List.filterMap_reverse]
  congr 1
  have := PySem.W.krv_all l.toArray
  simpa using this
theorem fm_congr {α β : Type} {f g : α → Option β} : ∀ {l : List α}, (∀ x ∈ l, f x = g x) → l.filterMap f = l.filterMap g
  | [], _ => rfl
  | x :: r, h => by
    rw [List.filterMap_cons, List.filterMap_cons, h x (List.mem_cons_self ..), fm_congr fun y hy => h y (List.mem_cons_of_mem _ hy)]
theorem back_pick (xs : Array Value) : ((List.range xs.size).filterMap fun (m : Nat) => xs[(((xs.size : Int) - 1) + (m : Int) * (-1)).toNat]?).toArray = xs.toList.reverse.toArray := by
  congr 1
  rw [← back_all xs.toList, Array.length_toList]
  refine fm_congr fun m hm => ?_
  have hm := List.mem_range.mp hm
  have e : (((xs.size : Int) - 1) + (m : Int) * (-1)).toNat = xs.size - 1 - m := by omega
  rw [e, Array.getElem?_toList]
theorem back_slice {sl : Addr} {vs : Value} {n : Nat} {Q : Int × Int × Nat → Shared → Prop} {vl vu : Value} (hs : s.heap.IsSliceOf sl vl vu vs) (pl : IsPart vl none) (pu : IsPart vu none) (ps : IsPart vs (some (-1))) (h : Q ((n : Int) - 1, -1, n) s) :
    wpAny (model prog w) A (Builtin.Slice.sliceApplied (.ref sl) (pure (n : Int))) Q E s := by
  obtain ⟨os, hos, hcs, hds⟩ := id hs
  unfold Builtin.Slice.sliceApplied Builtin.Slice.sliceFields
  refine wpAny_bind (wpAny_bind (wpAny_field hos hds (x := vl) rfl (wpAny_bind (wpAny_field hos hds (x := vu) rfl (wpAny_bind (wpAny_field hos hds (x := vs) rfl (wpAny_pure ?_)))))))
  refine wpAny_bind (HT.slicePart_ ps ?_)
  show wpAny _ _ (if ((-1 : Int) == 0) = true then _ else _) _ _ s
  rw [if_neg (by decide)]
  refine wpAny_bind (HT.slicePart_ pl (wpAny_bind (HT.slicePart_ pu (wpAny_bind (wpAny_pure ?_)))))
  show wpAny _ _ (match Builtin.Slice.sliceAdjust none none (-1) (n : Int) with | (lo, hi) => pure (lo, (-1 : Int), Builtin.Slice.slicePlaces lo hi (-1))) _ _ s
  rw [back_adjust n]
  show wpAny _ _ (pure ((n : Int) - 1, (-1 : Int), Builtin.Slice.slicePlaces ((n : Int) - 1) (-1) (-1))) _ _ s
  rw [back_places]
  exact wpAny_pure h
theorem back_tuple {t sl : Addr} {items : Array Value} {vl vu vs : Value} {Q : Value → Shared → Prop} (ht : IsTup s.heap t items) (hs : s.heap.IsSliceOf sl vl vu vs) (pl : IsPart vl none) (pu : IsPart vu none) (ps : IsPart vs (some (-1)))
    (h : Q (.ref s.heap.objs.size) { s with heap := s.heap.push { cls := .type "tuple", data := .seq items.toList.reverse.toArray } }) (hz : items.size ≤ sizeLine) : wpAny (model prog w) A (getItem (.ref t) (.ref sl)) Q E s := by
  have fits : sizeOk (.seq items.toList.reverse.toArray) := by
    show items.toList.reverse.toArray.size ≤ sizeLine
    simpa using hz
  obtain ⟨os, hos, hcs, hds⟩ := id hs
  have tys : s.TypeIs (.ref sl) "slice" := ⟨os, hos, hcs⟩
  unfold getItem
  try with_reducible refine wpAny_holding ?_
  first | refine wpAny_bind (wpAny_pure ?_) | skip
  refine wpAny_bind (wpAny_sequenceKey ht.typeIs (by decide) ?_)
  refine wpAny_bind (wpAny_callSpecial?_slot (name := Str.ofString "__getitem__") ht.typeIs PyProof.Rows.slot_tuple_getitem
    (wpAny_call_entry PyProof.Rows.slot_tuple_getitem ht.typeIs PyProof.Rows.entry_tuple_getitem ?_ (PyProof.Rows.args_tuple_getitem _ _)))
  show wpAny _ _ (Builtin.Tuple.tupleItemsOf (.ref t) >>= _) _ _ s
  refine wpAny_bind (PyProof.Rows.tupleItemsOf_ ht (wpAny_bind (wpAny_typeOf tys ?_)))
  rw [if_pos (by decide)]
  refine wpAny_bind (back_slice hs pl pu ps ?_)
  have no : ¬ (((items.size : Int) - 1 == 0 && (-1 : Int) == 1 && items.size == items.size) = true) := by simp
  show wpAny _ _ (if ((items.size : Int) - 1 == 0 && (-1 : Int) == 1 && items.size == items.size) = true then _ else _) _ _ s
  rw [if_neg no, back_pick]
  first
    | exact wpAny_bind (m := Builtin.Tuple.tupleExact _) (wpAny_newObj_type (wpAny_pure ⟨_, rfl, wpAny_pure h⟩) fits)
    | exact wpAny_bind (m := Builtin.Tuple.tupleExact _) (wpAny_newObj_type (wpAny_bind (wpAny_pure (wpAny_pure ⟨_, rfl, wpAny_pure h⟩))) fits)
    | exact wpAny_bind (wpAny_bind (m := Builtin.Tuple.tupleExact _) (wpAny_newObj_type (wpAny_pure (wpAny_pure ⟨_, rfl, wpAny_pure h⟩)) fits))
    | exact wpAny_bind (wpAny_bind (m := Builtin.Tuple.tupleExact _) (wpAny_newObj_type (wpAny_pure ⟨_, rfl, wpAny_pure h⟩) fits))
end
theorem pe_revT {X : Cx} {e : Expr} {te : TE} {k : Nat} {p1 p2 p3 pos : Pos} (he : PE X e te) : PE X (.Subscript e (.Slice none none (some (.UnaryOp .USub (.Constant (.int 1) k p1) p2)) p3) pos) (tRevT X.K te) := by
  refine ⟨fun pins s σ H Q I h => ?_⟩
  refine Subscript_ (thn (he.run pins s σ H _ I h) fun v s1 ⟨x, H1, I1, r1, q1⟩ => ?_)
  obtain ⟨a, xs, ex, hx, q⟩ := q1
  subst ex
  cases r1
  have hst : PO X (some (.UnaryOp .USub (.Constant (.int 1) k p1) p2)) (tPart (tUn (rU fun i => .int (-i)) (tC (.int 1)))) := po_some (pe_un un_neg pe_int)
  refine wpAny_Slice (thn (po_none.run pins s1 σ H1 (fun o H2 => o = none ∧ H2 = H1) I1 ⟨rfl, rfl⟩) fun vl s2 ⟨l, H2, I2, pl, el, e2⟩ => ?_)
  subst el e2
  refine thn (po_none.run pins s2 σ H2 (fun o H3 => o = none ∧ H3 = H2) I2 ⟨rfl, rfl⟩) fun vu s3 ⟨u, H3, I3, pu, eu, e3⟩ => ?_
  subst eu e3
  refine thn (hst.run pins s3 σ H3 (fun o H4 => o = some (-1) ∧ H4 = H3) I3 ⟨1, rfl, -1, rfl, rfl, rfl⟩) fun vs s4 ⟨o, H4, I4, ps, eo, e4⟩ => ?_
  subst eo e4
  have I5 : Inv X pins σ H4 { s4 with heap := s4.heap.push { cls := .type "slice", data := .fields #[vl, vu, vs] } } := I4.kept (t' := s4.toks) fun b ob q => Heap.get?_push_of_some _ q
  obtain ⟨its, r, ht, hz⟩ := I5.tuple hx
  have hlen := r.length
  show wpAny (model X.prog X.w) X.A (subscriptTail e (.Slice none none (some (.UnaryOp .USub (.Constant (.int 1) k p1) p2)) p3) (.ref a) (.ref s4.heap.objs.size)) (EP X pins σ Q) X.xe { s4 with heap := s4.heap.push { cls := .type "slice", data := .fields #[vl, vu, vs] } }
  refine tail_any (ops := [.ref a, .ref s4.heap.objs.size]) ht.typeIs (PyProof.Rows.slot_tuple_getitem.lookup) ?_ (by with_unfolding_all rfl)
  refine back_tuple ht (Heap.IsSliceOf.new _ vl vu vs) pl pu ps ?_ (by rw [List.size_toArray]; omega)
  refine ⟨.ref _, _, I5.laid (t' := s4.toks) (o := .tup xs.reverse) (fun b ob q => Heap.get?_push_of_some _ q) (Nat.le_refl _) ?_, rfl, q _ (I5.hok.fresh (Nat.le_refl _))⟩
  exact ⟨by rw [List.length_reverse]; exact hz, _, by simpa using r.reverse, ⟨_, Heap.get?_push_size _ rfl, rfl, _, rfl⟩⟩
end Far

namespace Far
open PySem PySem.Spec PyProof.Rows L2 LamX
open C8 (pss_cut tCut)
open SX (S)
section
variable {pl : List Nm} {ts : List Tie} {i : Nat} {e : Tie}
theorem CutF.topA (c : CutF pl ts i e) (F : Fine pl ts) : (topOf (nearP pl ts e) (amT (nearP pl ts e) (restT ts i))).1 = mxA pl ts e := by
  rw [top_rch (c.fine1 F)]
  exact congrArg mxG (List.map_congr_left fun x hx => c.rch1 hx)
theorem CutF.topB (c : CutF pl ts i e) (F : Fine pl ts) : (topOf (offP pl ts e) (amT (offP pl ts e) (restT ts i))).1 = mxB pl ts e := by
  rw [top_rch (c.fine2 F)]
  exact congrArg mxG (List.map_congr_left fun x hx => c.rch2 hx)
theorem rP_le (F : Fine pl ts) {ps : List Nm} (sub : ∀ x ∈ ps, x ∈ pl) (ne : ps ≠ []) : mxG (ps.map (rP ts ps)) ≤ (topOf pl ts).1 := by
  obtain ⟨a, _⟩ := mxG_in (l := ps.map (rP ts ps)) (fun z => ne (List.map_eq_nil_iff.mp z))
  obtain ⟨u, hu, e1⟩ := List.mem_map.mp a
  obtain ⟨b, _⟩ := mxG_in (l := ps.map fun y => dist ts u y) (fun z => ne (List.map_eq_nil_iff.mp z))
  obtain ⟨v, hv, e2⟩ := List.mem_map.mp b
  rw [← e1]
  show mxG (ps.map fun y => dist ts u y) ≤ _
  rw [← e2]
  exact top_max F (sub u hu) (sub v hv)
theorem CutF.leA (c : CutF pl ts i e) (F : Fine pl ts) : mxA pl ts e ≤ (topOf pl ts).1 := rP_le F (fun x hx => (List.mem_filter.mp hx).1) fun z => by have := c.ma; rw [z] at this; cases this
theorem CutF.leB (c : CutF pl ts i e) (F : Fine pl ts) : mxB pl ts e ≤ (topOf pl ts).1 := rP_le F (fun x hx => (List.mem_filter.mp hx).1) fun z => by have := c.mb; rw [z] at this; cases this
theorem join_over (c : CutF pl ts i e) {x : Tri} (h : x ∈ joinsOf (nearP pl ts e) (offP pl ts e) (amT (nearP pl ts e) (restT ts i)) (amT (offP pl ts e) (restT ts i)) e.2.2 (nearP pl ts e)) : ∃ u v, u ∈ nearP pl ts e ∧ v ∈ offP pl ts e ∧ x.1 = overE pl ts e u v := by
  unfold joinsOf at h
  obtain ⟨u, hu, h2⟩ := List.mem_flatMap.mp h
  obtain ⟨v, hv, rfl⟩ := List.mem_map.mp h2
  refine ⟨u, v, hu, hv, ?_⟩
  unfold overE joinT insN
  rw [c.ins, c.rE1 hu, c.rE2 hv]
theorem over_perm {ts' : List Tie} (T : IsTree pl ts) (p : ts'.Perm ts) (he : e ∈ ts) {x y : Nm} (hx : x ∈ pl) (hy : y ∈ pl) : overE pl ts' e x y = overE pl ts e x y ∧ (acrE pl ts' e x y → acrE pl ts e x y) := by
  obtain ⟨m1, m2, _⟩ := T.ties e he
  have D : ∀ {u v : Nm}, u ∈ pl → v ∈ pl → dist ts' u v = dist ts u v := fun hu hv => dist_perm T p hu hv
  have n1 : nearP pl ts' e = nearP pl ts e := List.filter_congr fun z hz => by rw [D m1 hz, D m2 hz]
  have n2 : offP pl ts' e = offP pl ts e := List.filter_congr fun z hz => by rw [D m1 hz, D m2 hz]
  have r : ∀ (ps : List Nm), (∀ z ∈ ps, z ∈ pl) → ∀ {z : Nm}, z ∈ pl → rP ts' ps z = rP ts ps z := fun ps sub z hz => congrArg mxG (List.map_congr_left fun w hw => D hz (sub w hw))
  have r1 : ∀ {z : Nm}, z ∈ pl → rE pl ts' e z = rE pl ts e z := fun hz => by
    unfold rE
    rw [n1, n2, r (nearP pl ts e) (fun w hw => (List.mem_filter.mp hw).1) hz, r (offP pl ts e) (fun w hw => (List.mem_filter.mp hw).1) hz]
  refine ⟨?_, ?_⟩
  · unfold overE insE
    rw [n1, n2, r1 hx, r1 hy, List.map_congr_left (l := nearP pl ts e ++ offP pl ts e) (f := rE pl ts' e) (g := rE pl ts e) fun z hz => r1 ((List.mem_append.mp hz).elim (fun q => (List.mem_filter.mp q).1) fun q => (List.mem_filter.mp q).1)]
  · unfold acrE
    rw [n1, n2]
    exact id
theorem best_perm {ts' : List Tie} (T : IsTree pl ts) (p : ts'.Perm ts) {z z' : Qua} (h : FLq (allC pl ts ts.length) z) (h' : FLq (allC pl ts' ts'.length) z') : z.1 ≤ z'.1 := by
  obtain ⟨j, e, x, y, he, rfl, hx, hy, _, acr⟩ := allC_is (T.perm (.refl _) p) h'.mem
  have em := p.mem_iff.mp (List.mem_of_getElem? he)
  obtain ⟨k, hk⟩ := List.getElem?_of_mem em
  obtain ⟨o1, o2⟩ := over_perm T p em hx hy
  show z.1 ≤ overE pl ts' e x y
  rw [o1]
  exact h.best T hk hx hy (o2 acr)
end
abbrev s_lw_parts_right : Stmt := topS 48
abbrev N_lw_parts_right : List Str := ["deck", "tree", "pairs", "most", "some", "trees", "part", "pair"]
theorem sc_lw_parts_right : FnScope N_lw_parts_right ["deck", "tree"] (defScope s_lw_parts_right) := ⟨rfl, rfl, rfl, by decide +kernel, rfl, by decide +kernel, by decide +kernel⟩
section
variable {P : Program} {w : World} {K : PySem.W.Frag} {mg : Str → Option Value} {base : Heap} {Pb Pw : Addr}
theorem ok_parts_right {f : Addr} {fd : FuncData} (F : Fun K "_law_parts_right" "_law_parts_right" s_lw_parts_right f fd) (T : TxtLL mg) (Cparts_without : Cal P w K mg base 5 "parts_without" spPartsW) (Cfarthest : Cal P w K mg base 5 "farthest" spFarthest) (C_law_draw : Cal P w K mg base 1 "_law_draw" spDraw) (C_law_parts : Cal P w K mg base 3 "_law_parts" spLParts) (C_law_part : Cal P w K mg base 1 "_law_part" spLPart)
    (Cbest_change : Cal P w K mg base 5 "best_change" (spBC Pb Pw)) (Cbest_join : Cal P w K mg base 6 "best_join" (spBest Pb Pw)) : FnOk P w K mg base CX0 7 f fd ["deck", "tree"] (spYes Pb Pw) := by
  refine F.ok sc_lw_parts_right (fun vs H Q E h => ?_) (fun cdv A outer s H vs Q E hr h => ?_)
  · obtain ⟨d, v, n, pl, ts, rfl, _⟩ := h
    rfl
  · obtain ⟨d, v, n, pl, ts, rfl, hD, hn, hd, hz, fine, l30, tne, hT, q⟩ := h
    obtain ⟨t, a, b, vs, rfl, ht, ha, hb, hA⟩ := dt_tree hd
    refine ⟨_, (pss_cons (ps_set (i := 2) sc_lw_parts_right.nd rfl (.inl rfl) (pe_c Cparts_without hr (by decide) rfl (pa_cons (pv 1) pa_nil)))
      (pss_cons (ps_set (i := 3) sc_lw_parts_right.nd rfl (.inr rfl) (pe_ix ix_tup (pe_c Cfarthest hr (by decide) rfl (pa_cons (pv 1) pa_nil)) pe_int (fun _ _ => rfl)))
      (pss_cons (ps_set (i := 4) sc_lw_parts_right.nd rfl (.inr rfl) (pe_c C_law_draw hr (by decide) rfl (pa_cons (pv 0) (pa_cons (pe_callB call_len_seq (by rfl) T.len bt_len (pa_cons (pe_ix ix_tup (pv 1) pe_int (fun _ _ => rfl)) pa_nil)) pa_nil))))
      (pss_cons (ps_setLc (i := 5) (own := [("part", 6)]) (g := gName 6) (tt := tYes) rfl sc_lw_parts_right.nd rfl rfl (sw_true rfl rfl rfl (by decide +kernel)) (pi_list (pe_c C_law_parts hr (by decide) rfl (pa_cons (pv 1) (pa_cons (pv 4) pa_nil)))) (blkOk_by (N := N_lw_parts_right) (sc := defScope s_lw_parts_right) (by decide +kernel)) (fun _ _ _ _ _ => pg_name (i := 6) sc_lw_parts_right.nd rfl (Or.inl rfl)) (fun _ _ _ _ _ => pts_nil) (fun _ _ _ _ _ => (pe_c C_law_part hr (by decide) rfl (pa_cons (pv 1) (pa_cons (pv 6) (pa_cons (pv 4) pa_nil))))))
      (pss_cut (ps_if (PW.pt (pw_or (pt_cmpR op_ne (pe_callB call_len_seq (by rfl) T.len bt_len (pa_cons (pv 2) pa_nil)) (pe_callB call_len_seq (by rfl) T.len bt_len (pa_cons (pe_ix ix_tup (pv 1) pe_int (fun _ _ => rfl)) pa_nil)) (nomark _)) (pw_or1 (pt_cmpR (op_neD (hd_of hr (by decide))) (pe_ix ix_tup (pv 2) (pv 4) (fun _ _ => rfl)) (pe_tup (pa_cons (pe_ix ix_tup (pe_c Cfarthest hr (by decide) rfl (pa_cons (pe_ix ix_list (pv 5) pe_int (fun _ _ => rfl)) pa_nil)) pe_int (fun _ _ => rfl)) (pa_cons (pe_ix ix_tup (pe_c Cfarthest hr (by decide) rfl (pa_cons (pe_ix ix_list (pv 5) pe_int (fun _ _ => rfl)) pa_nil)) pe_int (fun _ _ => rfl)) pa_nil))) (nomark _)))))
        (pss_one (ps_ret pe_bl))
        pss_nil)
      (pss_cut (ps_if (pt_cmpR (op_neD (hd_of hr (by decide))) (pe_lc (own := [("pair", 7)]) (g := gName 7)  rfl sc_lw_parts_right.nd (pi_tup (pv 2)) (blkOk_by (N := N_lw_parts_right) (sc := defScope s_lw_parts_right) (by decide +kernel)) (fun _ _ _ _ _ => pg_name (i := 7) sc_lw_parts_right.nd rfl (Or.inl rfl)) (fun _ _ _ _ _ => pts_one (pt_cmpR op_gt (pe_callB (cr_maxT (K := K) rfl) (by rfl) T.max bt_max (pa_cons (pv 7) pa_nil)) (pv 3) (nomark _))) (fun _ _ _ _ _ => (pv 7))) (pe_lst pa_nil) (nomark _))
        (pss_one (ps_ret pe_bl))
        pss_nil)
      (pss_one (ps_ret (pe_cmpR op_le (pe_ix ix_tup (pe_c Cbest_change hr (by decide) rfl (pa_cons (pv 1) pa_nil)) pe_int (fun _ _ => rfl)) (pe_ix ix_tup (pe_c Cbest_join hr (by decide) rfl (pa_cons (pe_ix ix_list (pv 5) pe_int (fun _ _ => rfl)) (pa_cons (pe_ix ix_list (pv 5) pe_int (fun _ _ => rfl)) (pa_cons (pe_ix ix_tup (pe_ix ix_tup (pe_ix ix_tup (pv 1) pe_int (fun _ _ => rfl)) (pv 4) (fun _ _ => rfl)) pe_int (fun _ _ => rfl)) pa_nil)))) pe_int (fun _ _ => rfl)) (nomark _)))))))))), ?_⟩
    have tl := fine.tree.len
    have vl : vs.length = ts.length := by
      have := DtAll.len hA
      rwa [List.length_map] at this
    have tpos : 0 < ts.length := List.length_pos_iff.mpr tne
    refine ⟨_, rfl, .ref t, pl, ts, rfl, hd, fine, fun H1 q1 wp S1 hq1 hW1 => ?_⟩
    have wl := DtAll.len hW1
    rw [List.length_map] at wl
    refine ⟨_, rfl, .ref t, pl, ts, rfl, Dt.keep (TK.of S1) hd, fine, fun H2 f2 S2 h2 => ?_⟩
    rw [(farD_top fine).1] at h2
    obtain ⟨f2, rfl, hf2⟩ := dt_tri h2
    refine ⟨f2, _, 0, _, rfl, rfl, SqT.of hf2, atI_nat (j := 0) rfl, ?_⟩
    have S12 := S1.trans S2
    have k2 := TK.of S12
    have D2 := hD.same S12
    have T2 := hT.ext S12
    have jq2 : TK H1 H2 := TK.of S2
    refine ⟨_, rfl, _, rfl, t, _, 1, .ref b, rfl, rfl, SqT.of (k2.tup _ _ ht), atI_nat (j := 1) rfl, b, _, rfl, .inr (SqT.of (k2.tup _ _ hb)), d, _, ((vs.length : Nat) : Int), rfl, D2, by omega, by omega, by omega, fun H3 r r0 r1 S3 D3 => ?_⟩
    have j3 := D2.tk S3
    have k3 := k2.trans j3
    have T3 := Far.Tabs.smx T2 D2 S3
    have q3 := (jq2.trans j3).tup _ _ hq1
    have hW3 := DtAll.keep (jq2.trans j3) hW1
    obtain ⟨j, rfl⟩ : ∃ j : Nat, r = (j : Int) := ⟨r.toNat, by omega⟩
    have jl : j < ts.length := by omega
    obtain ⟨e, he⟩ : ∃ e, ts[j]? = some e := ⟨ts[j], List.getElem?_eq_getElem jl⟩
    have c := fine.tree.cutF he
    have F1 := c.fine1 fine
    have F2 := c.fine2 fine
    have lp := c.ps.length_eq
    rw [List.length_append] at lp
    -- the two trees
    refine ⟨_, rfl, _, rfl, .ref t, pl, ts, j, e, rfl, Dt.keep k3 hd, fine, he, fun H4 q4 n1 n2 S4 f4 g1 g2 hq4 h41 h42 => ?_⟩
    have k4 := k3.trans (TK.of S4)
    have D4 := D3.same S4
    have T4 := T3.ext S4
    have q4' := S4 _ _ q3
    have hW4 := DtAll.keep (TK.of S4) hW3
    refine ⟨q4, rfl, ⟨_, SqL.of hq4⟩, fun G nG => ?_⟩
    refine lc_list (K := K) (a := q4) (xs := [.ref n1, .ref n2]) (fun m H' => Same H4 H' ∧ ∃ us : List V, H' G = some (.lst us) ∧ us.length = m ∧ ∀ k u, us[k]? = some u → Dt H' u (treeD (sideP pl ts e k) (amT (sideP pl ts e k) (restT ts j)))) ⟨same_new (Same.refl _) nG, [], upd_same, rfl, fun k u h => by rw [List.getElem?_nil] at h; cases h⟩ (fun m H' _ hP => SqL.of (hP.1 _ _ hq4)) (fun m v H' hm hP => ?_) (fun H5 hP => ?_)
    · obtain ⟨sm, us, hG, ul, hus⟩ := hP
      obtain ⟨nk, rfl, hnk, lk, m2⟩ : ∃ nk, v = .ref nk ∧ H4 nk = some (.lst (((sideP pl ts e m).map S).map V.str)) ∧ (sideP pl ts e m).length ≤ 1000 ∧ m < 2 := by
        match m, hm with
        | 0, hm => exact ⟨n1, (Option.some.inj hm).symm, h41, F1.len, by omega⟩
        | 1, hm => exact ⟨n2, (Option.some.inj hm).symm, h42, F2.len, by omega⟩
      refine ⟨rfl, _, rfl, _, rfl, _, rfl, .ref t, nk, pl, sideP pl ts e m, ts, j, rfl, Dt.keep (k4.trans (TK.of sm)) hd, fine, jl, sm _ _ hnk, lk, fun H6 u S6 hu => ?_⟩
      have hG6 := S6 _ _ hG
      have tk := TK.mut (o := .lst (us ++ [u])) hG6
      refine ⟨us, hG6, sz_lt (by omega), same_put (sm.trans S6) nG, us ++ [u], upd_same, by rw [List.length_append, ul]; rfl, fun k z h => ?_⟩
      by_cases kn : k < us.length
      · rw [List.getElem?_append_left kn] at h
        exact Dt.keep ((TK.of S6).trans tk) (hus k z h)
      · rw [List.getElem?_append_right (by omega)] at h
        have k0 : k - us.length = 0 := by
          have := (List.getElem?_eq_some_iff.mp h).1
          simp at this
          omega
        rw [k0] at h
        cases Option.some.inj h
        rw [show k = m by omega]
        exact Dt.keep tk hu
    obtain ⟨S5, us, hG, ul, hus⟩ := hP
    obtain ⟨u1, u2, rfl⟩ : ∃ u1 u2, us = [u1, u2] := by
      match us, ul with
      | [u1, u2], _ => exact ⟨u1, u2, rfl⟩
    have d1 : Dt H5 u1 (treeD (nearP pl ts e) (amT (nearP pl ts e) (restT ts j))) := hus 0 u1 rfl
    have d2 : Dt H5 u2 (treeD (offP pl ts e) (amT (offP pl ts e) (restT ts j))) := hus 1 u2 rfl
    have k5 := k4.trans (TK.of S5)
    have D5 := D4.same S5
    have T5 := T4.ext S5
    have q5 := S5 _ _ q4'
    have hW5 := DtAll.keep (TK.of S5) hW4
    clear hus ul hW4 hW3 hW1 q4' q3
    have ht5 := k5.tup _ _ ht
    have hb5 := k5.tup _ _ hb
    -- the first test
    refine ⟨fun σ' H' => σ' = [some (.ref d), some (.ref t), some (.ref q1), some (.int (topOf pl ts).1), some (.int j), some (.ref G), none, none] ∧ Same H5 H', ?_, fun σ' H6 hM => ?_⟩
    · refine ⟨_, rfl, q1, _, rfl, .inr (SqT.of q5), _, rfl, t, _, 1, .ref b, rfl, rfl, SqT.of ht5, atI_nat (j := 1) rfl, b, _, rfl, .inr (SqT.of hb5), rfl, _, rfl, ?_⟩
      have c1 : (!decide (V.int ((wp.length : Nat) : Int) = V.int ((vs.length : Nat) : Int))) = false := by
        rw [show wp.length = vs.length by omega]
        simp
      refine iteF' c1 ?_
      obtain ⟨v, hv⟩ : ∃ v, wp[j]? = some v := ⟨wp[j]'(by omega), List.getElem?_eq_getElem (by omega)⟩
      obtain ⟨dd, hdd, hvd⟩ := DtAll.get hW5 hv
      rw [List.getElem?_map, he] at hdd
      have hdd : dd = prtD pl ts e := (Option.some.inj hdd).symm
      subst hdd
      refine ⟨_, rfl, _, rfl, q1, _, (j : Int), v, rfl, rfl, SqT.of q5, atI_nat hv, ?_⟩
      refine ⟨_, rfl, G, _, 0, u1, rfl, rfl, SqL.of hG, atI_nat (j := 0) rfl, u1, _, _, rfl, d1, F1, fun H6 f6 S6 h6 => ?_⟩
      rw [(farD_top F1).1] at h6
      obtain ⟨f6, rfl, hf6⟩ := dt_tri h6
      refine ⟨f6, _, 0, _, rfl, rfl, SqT.of hf6, atI_nat (j := 0) rfl, ?_⟩
      refine ⟨_, rfl, G, _, 1, u2, rfl, rfl, SqL.of (S6 _ _ hG), atI_nat (j := 1) rfl, u2, _, _, rfl, Dt.keep (TK.of S6) d2, F2, fun H7 f7 S7 h7 => ?_⟩
      rw [(farD_top F2).1] at h7
      obtain ⟨f7, rfl, hf7⟩ := dt_tri h7
      refine ⟨f7, _, 0, _, rfl, rfl, SqT.of hf7, atI_nat (j := 0) rfl, (by show 2 ≤ sizeLine; decide), fun o no => ?_⟩
      have et1 : (topT (0, (nearP pl ts e).headD [], (nearP pl ts e).headD []) (pairsOf (nearP pl ts e) (amT (nearP pl ts e) (restT ts j)))).1 = mxA pl ts e := c.topA fine
      have et2 : (topT (0, (offP pl ts e).headD [], (offP pl ts e).headD []) (pairsOf (offP pl ts e) (amT (offP pl ts e) (restT ts j)))).1 = mxB pl ts e := c.topB fine
      rw [et1, et2]
      have S67 := same_new (o := .tup [.int (mxA pl ts e), .int (mxB pl ts e)]) (S6.trans S7) no
      have dO : Dt (upd H7 o (.tup [.int (mxA pl ts e), .int (mxB pl ts e)])) (.ref o) (prtD pl ts e) := .tup upd_same (.cons (.int _) (.cons (.int _) .nil))
      have shp : SeqAt.shaped (prtD pl ts e) = true := rfl
      refine ⟨prtD pl ts e, prtD pl ts e, Dt.dp (Dt.keep (TK.of S67) hvd), Dt.dp dO, shp, shp, _, rfl, ?_⟩
      rw [eqv_same shp]
      exact iteF ⟨rfl, S67⟩
    · obtain ⟨rfl, S6⟩ := hM
      have q6 := S6 _ _ q5
      have hW6 := DtAll.keep (TK.of S6) hW5
      -- none is longer
      refine ⟨fun σ' H' => σ' = [some (.ref d), some (.ref t), some (.ref q1), some (.int (topOf pl ts).1), some (.int j), some (.ref G), none, none] ∧ Same H6 H', ?_, fun σ' H7 hM => ?_⟩
      · refine ⟨_, rfl, q1, rfl, ⟨_, SqT.of q6⟩, fun G2 nG2 => ?_⟩
        refine lc_tup (K := K) (a := q1) (xs := wp) (fun m H' => Same H6 H' ∧ H' G2 = some (.lst [])) ⟨same_new (Same.refl _) nG2, upd_same⟩ (fun m H' _ hP => SqT.of (hP.1 _ _ q6)) (fun m v H' hm hP => ?_) (fun H7 hP => ?_)
        · obtain ⟨sm, hG2⟩ := hP
          obtain ⟨dd, hdd, hvd⟩ := DtAll.get hW6 hm
          rw [List.getElem?_map] at hdd
          cases ee : ts[m]? with
          | none => rw [ee] at hdd; cases hdd
          | some e2 =>
            rw [ee] at hdd
            have hdd : dd = prtD pl ts e2 := (Option.some.inj hdd).symm
            subst hdd
            have c2 := fine.tree.cutF ee
            obtain ⟨g, xs, rfl, hg, hxs⟩ := dt_any hvd
            have exs : xs = [mxA pl ts e2, mxB pl ts e2].map V.int := by
              cases hxs with
              | cons a1 b1 =>
                cases b1 with
                | cons a2 b2 =>
                  cases b2
                  cases a1
                  cases a2
                  rfl
            subst exs
            refine ⟨rfl, _, rfl, g, [mxA pl ts e2, mxB pl ts e2], rfl, (hg.same sm).sq, Nat.succ_pos _, fun mm hmm hle => ?_⟩
            refine ⟨_, rfl, _, _, rfl, rfl, _, rfl, ?_⟩
            refine iteF' (decide_eq_false ?_) ⟨sm, hG2⟩
            have l1 := c2.leA fine
            have l2 := c2.leB fine
            simp only [List.mem_cons, List.not_mem_nil, or_false] at hmm
            show ¬ (mm > (topOf pl ts).1)
            rcases hmm with z | z <;> omega
        · obtain ⟨S7, hG2⟩ := hP
          refine ⟨Nat.zero_le _, fun o no => ?_⟩
          have S8 := same_new (o := .lst []) S7 no
          refine ⟨_, _, .lst (SqL.of (same_new (o := .lst []) (Same.refl _) no _ _ hG2)) .nil, .lst (SqL.of upd_same) .nil, rfl, rfl, _, rfl, ?_⟩
          exact iteF ⟨rfl, S8⟩
      · obtain ⟨rfl, S7⟩ := hM
        have S57 := S6.trans S7
        have k7 := k5.trans (TK.of S57)
        have D7 := D5.same S57
        have T7 := T5.ext S57
        -- the last
        refine ⟨_, rfl, .ref t, pl, ts, rfl, Dt.keep k7 hd, fine, by omega, tne, T7, fun H8 rz z e1 T8 fl hz => ?_⟩
        obtain ⟨t0, rfl, ht0⟩ := dt_qua hz
        have j8 : TK H7 H8 := TK.ofN e1
        have k8 := k7.trans j8
        have hG8 := e1 _ _ (S57 _ _ hG) (fun ps z => by cases z)
        have kd : TK H5 H8 := (TK.of S57).trans j8
        obtain ⟨w3, hw3⟩ : ∃ w, vs[j]? = some w := ⟨vs[j]'(by omega), List.getElem?_eq_getElem (by omega)⟩
        obtain ⟨e', p3, he', rfl, hp3⟩ := tie_at hA hw3
        have ee : e' = e := Option.some.inj (he'.symm.trans he)
        subst ee
        refine ⟨t0, _, 0, _, rfl, rfl, SqT.of ht0, atI_nat (j := 0) rfl, ?_⟩
        refine ⟨_, rfl, G, _, 0, u1, rfl, rfl, SqL.of hG8, atI_nat (j := 0) rfl, _, rfl, G, _, 1, u2, rfl, rfl, SqL.of hG8, atI_nat (j := 1) rfl, _, rfl, t, _, 1, .ref b, rfl, rfl, SqT.of (k8.tup _ _ ht), atI_nat (j := 1) rfl, _, rfl, b, _, (j : Int), .ref p3, rfl, rfl, SqT.of (k8.tup _ _ hb), atI_nat hw3, p3, _, 2, _, rfl, rfl, SqT.of (k8.tup _ _ hp3), atI_nat (j := 2) rfl, ?_⟩
        refine ⟨u1, u2, _, _, _, _, e'.2.2, rfl, Dt.keep kd d1, Dt.keep kd d2, F1.ok, by omega, by omega, T8, c.dis, F1, F2, fun H9 rx x e9 T9 flx hx => ?_⟩
        obtain ⟨t9, rfl, ht9⟩ := dt_tri hx
        obtain ⟨ix, hix, _⟩ := flx
        obtain ⟨u, v, hu, hv, ex⟩ := join_over c (List.mem_of_getElem? hix)
        have le := fl.best fine.tree he (List.mem_filter.mp hu).1 (List.mem_filter.mp hv).1 (.inl ⟨hu, hv⟩)
        refine ⟨t9, _, 0, _, rfl, rfl, SqT.of ht9, atI_nat (j := 0) rfl, _, _, rfl, rfl, ?_⟩
        show Q (.bl (decide (z.1 ≤ x.1))) H9
        rw [decide_eq_true (show z.1 ≤ x.1 by rw [ex]; exact le)]
        exact q H9 (k8.trans (TK.ofN e9)) (((D7.ofN e1).ofN e9).mono (by omega)) T9
end
abbrev s_law : Stmt := topS 49
abbrev N_law : List Str := ["script", "deck", "turn", "tree"]
theorem sc_law : FnScope N_law ["script"] (defScope s_law) := ⟨rfl, rfl, rfl, by decide +kernel, rfl, by decide +kernel, by decide +kernel⟩
section
variable {P : Program} {w : World} {K : PySem.W.Frag} {mg : Str → Option Value} {base : Heap} {Pb Pw : Addr}
def spLawT (K : PySem.W.Frag) (Pb Pw : Addr) : Sp := fun vs H Q _ => ∃ (a : Addr) (ns : List Int), vs = [.ref a] ∧ SqL K H a (ns.map V.int) ∧ ns.length ≤ 63 ∧ (∀ z ∈ ns, Builtin.Int.intBits z ≤ 1048576) ∧ Tabs [(Pb, qB), (Pw, qW)] H ∧ ∀ H', Q (.bl true) H'
theorem three_at {i : Nat} (h : i < 3) : ∃ m : Nat, [V.int 16, .int 9, .int 4][i]? = some (.int (m : Int)) ∧ 1 ≤ m ∧ m ≤ 30 := by
  rcases (show i = 0 ∨ i = 1 ∨ i = 2 by omega) with e | e | e <;> subst e
  · exact ⟨16, rfl, by omega, by omega⟩
  · exact ⟨9, rfl, by omega, by omega⟩
  · exact ⟨4, rfl, by omega, by omega⟩
theorem dts_rev {H : Hp} : ∀ {vs : List V} {ds : List PyData}, DtAll H vs ds → DtAll H vs.reverse ds.reverse
  | [], [], .nil => .nil
  | v :: vs, d :: ds, .cons a b => by
    rw [List.reverse_cons, List.reverse_cons]
    exact DtAll.app (dts_rev b) (.cons a .nil)
theorem ok_law {f : Addr} {fd : FuncData} (F : Fun K "law" "law" s_law f fd) (T : TxtLL mg) (C_law_deck : Cal P w K mg base 1 "_law_deck" (spDeck K)) (C_law_tree : Cal P w K mg base 3 "_law_tree" spTree) (C_law_change_right : Cal P w K mg base 7 "_law_change_right" (spYes Pb Pw)) (C_law_parts_right : Cal P w K mg base 7 "_law_parts_right" (spYes Pb Pw)) (Cbest_change : Cal P w K mg base 5 "best_change" (spBC Pb Pw)) : FnOk P w K mg base CX0 8 f fd ["script"] (spLawT K Pb Pw) := by
  refine F.ok sc_law (fun vs H Q E h => ?_) (fun cdv A outer s H vs Q E hr h => ?_)
  · obtain ⟨a, ns, rfl, _⟩ := h
    rfl
  · obtain ⟨a0, ns, rfl, hS, hl, hb, hT, q⟩ := h
    refine ⟨_, (pss_cons (ps_set (i := 1) sc_law.nd rfl (.inl rfl) (pe_c C_law_deck hr (by decide) rfl (pa_cons (pv 0) pa_nil)))
      (pss_cut (ps_for PassesOwn.never rfl (pi_range1 (by rfl) T.range (pa_cons pe_int pa_nil)) (pg_name (i := 2) sc_law.nd rfl (.inl rfl))
        (pss_cons (ps_set (i := 3) sc_law.nd rfl (.inl rfl) (pe_c C_law_tree hr (by decide) rfl (pa_cons (pv 1) (pa_cons (pe_ix ix_list (pe_lst (pa_cons pe_int (pa_cons pe_int (pa_cons pe_int pa_nil)))) (pv 2) (fun _ _ => rfl)) (pa_cons (pe_lst pa_nil) pa_nil)))))
        (pss_one (ps_if (pt_cmpR op_gt (pe_callB call_len_seq (by rfl) T.len bt_len (pa_cons (pe_ix ix_tup (pv 3) pe_int (fun _ _ => rfl)) pa_nil)) pe_int (nomark _))
          (pss_cut (ps_if (PW.pt (pw_or (pt_not (pt_val (pe_c C_law_change_right hr (by decide) rfl (pa_cons (pv 1) (pa_cons (pv 3) pa_nil))))) (pw_or1 (pt_not (pt_val (pe_c C_law_parts_right hr (by decide) rfl (pa_cons (pv 1) (pa_cons (pv 3) pa_nil))))))))
            (pss_one (ps_ret pe_bl))
            pss_nil)
          (pss_one (ps_if (pt_cmpR op_ne (pe_ix ix_tup (pe_c Cbest_change hr (by decide) rfl (pa_cons (pe_tup (pa_cons (pe_ix ix_tup (pv 3) pe_int (fun _ _ => rfl)) (pa_cons (pe_revT (pe_ix ix_tup (pv 3) pe_int (fun _ _ => rfl))) pa_nil))) pa_nil)) pe_int (fun _ _ => rfl)) (pe_ix ix_tup (pe_c Cbest_change hr (by decide) rfl (pa_cons (pv 3) pa_nil)) pe_int (fun _ _ => rfl)) (nomark _))
            (pss_one (ps_ret pe_bl))
            pss_nil)))
          pss_nil))))
      (pss_one (ps_ret pe_bl)))), ?_⟩
    refine ⟨_, rfl, a0, ns, rfl, hS, hl, hb, fun H0 d S0 d0 D0 => ?_⟩
    refine ⟨fun σ' H' => True, ?_, fun σ' H' hM => q _⟩
    refine ⟨3, rfl, by decide, by decide, for_range (lo := 0) (n := (3 : Int).toNat) (fun i σ' H' => (∃ x2 x3, σ' = [some (.ref a0), some (.ref d), x2, x3]) ∧ SeedAt H' d (3000 * i) ∧ Tabs [(Pb, qB), (Pw, qW)] H') ⟨⟨_, _, rfl⟩, D0, hT.ext S0⟩ (fun i σ' H' hi hP => ?_) (fun σ' H' hP => trivial)⟩
    obtain ⟨⟨x2, x3, rfl⟩, D1, T1⟩ := hP
    have hi : i < 3 := hi
    refine ⟨_, rfl, (by show 3 ≤ sizeLine; decide), fun p np => ?_⟩
    obtain ⟨m, hm, m1, m2⟩ := three_at hi
    have ei : (0 : Int) + (i : Int) = ((i : Nat) : Int) := by omega
    have D2 := D1.new (o := .lst [.int 16, .int 9, .int 4]) np
    have T2 := T1.ext (same_new (o := .lst [.int 16, .int 9, .int 4]) (Same.refl _) np)
    refine ⟨_, rfl, p, _, (i : Nat), .int (m : Int), rfl, congrArg V.int ei, SqL.of upd_same, atI_nat hm, Nat.zero_le _, fun p2 np2 => ?_⟩
    refine ⟨d, p2, _, m, [], rfl, D2.new np2, by omega, m1, m2, D2.nd np2, .inl upd_same, by decide, fun H3 t pl ts it ok un pll hd hz S3 D3 => ?_⟩
    have T3 := Far.Tabs.smx (T2.ext (same_new (o := .lst []) (Same.refl _) np2)) (D2.new np2) S3
    generalize upd (upd H' p (.lst [.int 16, .int 9, .int 4])) p2 (.lst []) = HX at S3
    have fine : Fine pl ts := ⟨it, ok, by omega⟩
    obtain ⟨t', a, b, vs, e1, ht, ha, hb', hA⟩ := dt_tree hd
    cases e1
    refine ⟨_, rfl, t, _, 0, .ref a, rfl, rfl, SqT.of ht, atI_nat (j := 0) rfl, a, _, rfl, .inr ha.sq, _, _, rfl, rfl, _, rfl, ?_⟩
    refine ite2 (fun z => ?_) (fun z => ⟨⟨_, _, rfl⟩, D3.mono (by omega), T3⟩)
    have pl2 : 1 < pl.length := by
      have := of_decide_eq_true z
      rw [List.length_map, List.length_map] at this
      omega
    have tne : ts ≠ [] := fun z => by
      have := it.len
      rw [z] at this
      simp at this
      omega
    refine ⟨fun σ' H' => σ' = [some (.ref a0), some (.ref d), some (.int (0 + (i : Int))), some (.ref t)] ∧ TK H3 H' ∧ SeedAt H' d (3000 * i + 1460) ∧ Tabs [(Pb, qB), (Pw, qW)] H', ?_, fun σ' H4 hM => ?_⟩
    · refine ⟨_, rfl, _, rfl, d, .ref t, _, pl, ts, rfl, D3, by omega, hd, hz, fine, by omega, tne, T3, fun H4 k4 D4 T4 => ⟨_, rfl, iteF ?_⟩⟩
      refine ⟨_, rfl, _, rfl, d, .ref t, _, pl, ts, rfl, D4, by omega, Dt.keep k4 hd, hz.keep k4, fine, by omega, tne, T4, fun H5 k5 D5 T5 => ⟨_, rfl, iteF ?_⟩⟩
      exact ⟨rfl, k4.trans k5, D5.mono (by omega), T5⟩
    · obtain ⟨rfl, k4, D4, T4⟩ := hM
      have ht4 := k4.tup _ _ ht
      have hb4 := k4.tup _ _ hb'
      have ha4 := ha.tk k4
      have hA4 := DtAll.keep k4 hA
      have T' : IsTree pl ts.reverse := it.perm (.refl _) (List.reverse_perm ts)
      have fine' : Fine pl ts.reverse := ⟨T', ok, by omega⟩
      refine ⟨_, rfl, t, _, 0, .ref a, rfl, rfl, SqT.of ht4, atI_nat (j := 0) rfl, _, rfl, t, _, 1, .ref b, rfl, rfl, SqT.of ht4, atI_nat (j := 1) rfl, b, vs, rfl, SqT.of hb4, fun p3 np3 => ?_⟩
      have S5 := same_new (o := .tup vs.reverse) (Same.refl H4) np3
      have hp3 : (upd H4 p3 (.tup vs.reverse)) p3 = some (.tup vs.reverse) := upd_same
      generalize upd H4 p3 (.tup vs.reverse) = H5 at S5 hp3
      refine ⟨(by show 2 ≤ sizeLine; decide), fun r nr => ?_⟩
      have S6 := same_new (o := .tup [.ref a, .ref p3]) S5 nr
      have due : Dt (upd H5 r (.tup [.ref a, .ref p3])) (.ref r) (treeD pl ts.reverse) := by
        refine .tup upd_same (.cons (names_dt (ha4.same S6) fine.ne) (.cons (.tup ((TK.new nr).tup _ _ hp3) ?_) .nil))
        rw [List.map_reverse]
        exact dts_rev (DtAll.keep (TK.of S6) hA4)
      have D6 := D4.same S6
      have T6 := T4.ext S6
      have k6 := k4.trans (TK.of S6)
      generalize upd H5 r (.tup [.ref a, .ref p3]) = H6 at due D6 T6 k6
      refine ⟨.ref r, pl, ts.reverse, rfl, due, fine', by omega, fun z => tne (List.reverse_eq_nil_iff.mp z), T6, fun H7 r7 z7 e7 T7 fl7 h7 => ?_⟩
      obtain ⟨t7, rfl, ht7⟩ := dt_qua h7
      have k7 := k6.trans (TK.ofN e7)
      refine ⟨t7, _, 0, _, rfl, rfl, SqT.of ht7, atI_nat (j := 0) rfl, ?_⟩
      refine ⟨_, rfl, .ref t, pl, ts, rfl, Dt.keep k7 hd, fine, by omega, tne, T7, fun H8 r8 z8 e8 T8 fl8 h8 => ?_⟩
      obtain ⟨t8, rfl, ht8⟩ := dt_qua h8
      refine ⟨t8, _, 0, _, rfl, rfl, SqT.of ht8, atI_nat (j := 0) rfl, rfl, _, rfl, ?_⟩
      have le1 := best_perm it (List.reverse_perm ts) fl8 fl7
      have le2 := best_perm T' (List.reverse_perm ts).symm fl7 fl8
      have ez : z7.1 = z8.1 := by omega
      have c1 : (!decide (V.int z7.1 = V.int z8.1)) = false := by
        rw [ez]
        simp
      exact iteF' c1 ⟨⟨_, _, rfl⟩, ((D6.ofN e7).ofN e8).mono (by omega), T8⟩
end
end Far

namespace Far
open PySem PySem.Spec PyProof.Rows L2
open LamX in
/-- the end where two defs' code objects have tables -/
theorem walk_nm2 {l : PySem.W.OpenLaw} {q : Program} {loose : List Str} {XP : (Str → Option Value) → Heap → Prop} {YP : World → Heap → Prop} {d dN dM : DefRec} {K : Params → PySem.W.Frag} {k : Nat} {x nm nn : Str} (room : Room k callerA) (most : l.most = some 63) (nodef : d.params.defaults = [])
    (found : (recsOf q).find? (fun e => e.name == nm) = some dN) (found2 : (recsOf q).find? (fun e => e.name == nn) = some dM) (inK : ∀ w h, YP w h → (K w.params).In h)
    (F : ∀ (w : World) (mg : Str → Option Value) (fa : Addr) (h : Heap), (K w.params).In h → h.Ns mainGlobals mg → mg d.name = some (.ref fa) → (∀ c P, PySem.W.tabIn (K w.params) nm = some (c, P) → PySem.W.CodeHd h c P ∧ h.get? P = some (PySem.W.tabObj #[])) → (∀ c P, PySem.W.tabIn (K w.params) nn = some (c, P) → PySem.W.CodeHd h c P ∧ h.get? P = some (PySem.W.tabObj #[])) → LawAtS l w (K w.params) L2.CX0 k 63 x mg fa h) :
    PySem.W.WalkO q loose XP YP l.row.toRowW d [] (fun f vs => PySem.call f vs) := by
  refine Att.attach_callB most nodef fun w sA sB mg mb fL oL pmL cdL docL aL vsL nsL G Y hoL hdL hcL hmgL hobj hints hlen hbits hgens => ?_
  have KX := inK w _ Y
  obtain ⟨fdL, cs, sp, tEmpty, tNone, tCode, bnd, told, okF⟩ := F w mg fL _ KX G.T.g hmgL (fun c P e => PySem.W.tab_of G.T KX found e) fun c P e => PySem.W.tab_of G.T KX found2 e
  refine law_callTs KX G.T.g G.T.b G.T.builtins G.T.nolimit hgens tEmpty tNone tCode G.T.bmain hobj hints (Nat.le_trans hlen (by decide)) room okF bnd (fun H hH hS => told H aL nsL hlen hbits hH hS) ?_
  intro H e s' z
  exact z
theorem all_mk {l : PySem.W.OpenLaw} {w : World} {K : PySem.W.Frag} {h : Heap} {mg : Str → Option Value} {fa f1 f2 f3 f4 f5 f6 f7 f8 f9 f10 f11 f12 f13 f14 f15 f16 f17 f18 f19 f20 f21 f22 f23 f24 f25 f26 f27 f28 f29 f30 f31 f32 f33 f34 f35 : Addr} (X : K.In h) (G : h.Ns mainGlobals mg) (hfa : mg "law" = some (.ref fa))
    {od1 od2 od3 od4 od5 od6 od7 od8 od9 od10 od11 od12 od13 od14 od15 od16 od17 od18 od19 od20 od21 od22 od23 od24 od25 od26 od27 od28 od29 od30 od31 od32 od33 od34 od35 an1 an2 an3 an4 an5 an6 an7 an8 an9 an10 an11 an12 an13 an14 an15 an16 an17 an18 an19 an20 an21 an22 an23 an24 an25 an26 an27 an28 an29 an30 an31 an32 an33 an34 an35 : Option Addr} {sl1 sl2 sl3 sl4 sl5 sl6 sl7 sl8 sl9 sl10 sl11 sl12 sl13 sl14 sl15 sl16 sl17 sl18 sl19 sl20 sl21 sl22 sl23 sl24 sl25 sl26 sl27 sl28 sl29 sl30 sl31 sl32 sl33 sl34 sl35 : Array (Option Value)} {oc1 oc2 oc3 oc4 oc5 oc6 oc7 oc8 oc9 oc10 oc11 oc12 oc13 oc14 oc15 oc16 oc17 oc18 oc19 oc20 oc21 oc22 oc23 oc24 oc25 oc26 oc27 oc28 oc29 oc30 oc31 oc32 oc33 oc34 oc35 kV1 kV2 kV3 kV4 kV5 kV6 kV7 kV8 kV9 kV10 kV11 kV12 kV13 kV14 kV15 kV16 kV17 kV18 kV19 kV20 kV21 kV22 kV23 kV24 kV25 kV26 kV27 kV28 kV29 kV30 kV31 kV32 kV33 kV34 kV35 dc1 dc2 dc3 dc4 dc5 dc6 dc7 dc8 dc9 dc10 dc11 dc12 dc13 dc14 dc15 dc16 dc17 dc18 dc19 dc20 dc21 dc22 dc23 dc24 dc25 dc26 dc27 dc28 dc29 dc30 dc31 dc32 dc33 dc34 dc35 pm1 pm2 pm3 pm4 pm5 pm6 pm7 pm8 pm9 pm10 pm11 pm12 pm13 pm14 pm15 pm16 pm17 pm18 pm19 pm20 pm21 pm22 pm23 pm24 pm25 pm26 pm27 pm28 pm29 pm30 pm31 pm32 pm33 pm34 pm35 cd1 cd2 cd3 cd4 cd5 cd6 cd7 cd8 cd9 cd10 cd11 cd12 cd13 cd14 cd16 cd17 cd18 cd19 cd20 cd21 cd23 cd24 cd25 cd26 cd27 cd28 cd29 cd30 cd31 cd32 cd33 cd34 cd35 ct1 ct2 ct3 ct4 ct5 ct6 ct7 ct8 ct9 ct10 ct11 ct12 ct13 ct14 ct15 ct16 ct17 ct18 ct19 ct20 ct21 ct22 ct23 ct24 ct25 ct26 ct27 ct28 ct29 ct30 ct31 ct32 ct33 ct34 ct35 : Value}
    {tLETTERS tFIGURES tLONGEST_NAME : Tok}
    {cB PtB : Addr} {eB : Value} {ddB : Option Addr} {vsB : Array Value} {stB : Array (Option Value)} (kcB : K.lookup cB = some ⟨eB, ddB, .fields vsB, stB⟩) (vPB : (vsB[11]? : Option Value) = some (.ref PtB)) (nTB : K.lookup PtB = none) (tabB : ∀ c P, PySem.W.tabIn K "best_join" = some (c, P) → PySem.W.CodeHd h c P ∧ h.get? P = some (PySem.W.tabObj #[]))
    {cW PtW : Addr} {eW : Value} {ddW : Option Addr} {vsW : Array Value} {stW : Array (Option Value)} (kcW : K.lookup cW = some ⟨eW, ddW, .fields vsW, stW⟩) (vPW : (vsW[11]? : Option Value) = some (.ref PtW)) (nTW : K.lookup PtW = none) (tabW : ∀ c P, PySem.W.tabIn K "best_change" = some (c, P) → PySem.W.CodeHd h c P ∧ h.get? P = some (PySem.W.tabObj #[]))
    (neT : PtB ≠ PtW)
    (a1 : PySem.W.nsIn K mainGlobals "_law_deck" = some (some (.ref f1))) (l1 : K.lookup f1 = some ⟨oc1, od1, .func (PySem.W.fnOf "_law_deck" "_law_deck" (defArgs s_law_deck) (defBody s_law_deck) (defScope s_law_deck) .none kV1 dc1 pm1 an1 cd1 ct1), sl1⟩) (c1 : PySem.W.codeIn K cd1 "_law_deck" = true) (k1 : PySem.W.keepIn K (.ref f1) = true)
    (a2 : PySem.W.nsIn K mainGlobals "_law_draw" = some (some (.ref f2))) (l2 : K.lookup f2 = some ⟨oc2, od2, .func (PySem.W.fnOf "_law_draw" "_law_draw" (defArgs s_law_draw) (defBody s_law_draw) (defScope s_law_draw) .none kV2 dc2 pm2 an2 cd2 ct2), sl2⟩) (c2 : PySem.W.codeIn K cd2 "_law_draw" = true) (k2 : PySem.W.keepIn K (.ref f2) = true)
    (a3 : PySem.W.nsIn K mainGlobals "_law_names" = some (some (.ref f3))) (l3 : K.lookup f3 = some ⟨oc3, od3, .func (PySem.W.fnOf "_law_names" "_law_names" (defArgs s_law_names) (defBody s_law_names) (defScope s_law_names) .none kV3 dc3 pm3 an3 cd3 ct3), sl3⟩) (c3 : PySem.W.codeIn K cd3 "_law_names" = true) (k3 : PySem.W.keepIn K (.ref f3) = true)
    (a4 : PySem.W.nsIn K mainGlobals "_law_tree" = some (some (.ref f4))) (l4 : K.lookup f4 = some ⟨oc4, od4, .func (PySem.W.fnOf "_law_tree" "_law_tree" (defArgs s_law_tree) (defBody s_law_tree) (defScope s_law_tree) .none kV4 dc4 pm4 an4 cd4 ct4), sl4⟩) (c4 : PySem.W.codeIn K cd4 "_law_tree" = true) (k4 : PySem.W.keepIn K (.ref f4) = true)
    (a5 : PySem.W.nsIn K mainGlobals "_law_lengths" = some (some (.ref f5))) (l5 : K.lookup f5 = some ⟨oc5, od5, .func (PySem.W.fnOf "_law_lengths" "_law_lengths" (defArgs s_law_lengths) (defBody s_law_lengths) (defScope s_law_lengths) .none kV5 dc5 pm5 an5 cd5 ct5), sl5⟩) (c5 : PySem.W.codeIn K cd5 "_law_lengths" = true) (k5 : PySem.W.keepIn K (.ref f5) = true)
    (a6 : PySem.W.nsIn K mainGlobals "_ties_of_each" = some (some (.ref f6))) (l6 : K.lookup f6 = some ⟨oc6, od6, .func (PySem.W.fnOf "_ties_of_each" "_ties_of_each" (defArgs s_ties_of_each) (defBody s_ties_of_each) (defScope s_ties_of_each) .none kV6 dc6 pm6 an6 cd6 ct6), sl6⟩) (c6 : PySem.W.codeIn K cd6 "_ties_of_each" = true) (k6 : PySem.W.keepIn K (.ref f6) = true)
    (a7 : PySem.W.nsIn K mainGlobals "walk_from" = some (some (.ref f7))) (l7 : K.lookup f7 = some ⟨oc7, od7, .func (PySem.W.fnOf "walk_from" "walk_from" (defArgs s_walk_from) (defBody s_walk_from) (defScope s_walk_from) .none kV7 dc7 pm7 an7 cd7 ct7), sl7⟩) (c7 : PySem.W.codeIn K cd7 "walk_from" = true) (k7 : PySem.W.keepIn K (.ref f7) = true)
    (a8 : PySem.W.nsIn K mainGlobals "check_places" = some (some (.ref f8))) (l8 : K.lookup f8 = some ⟨oc8, od8, .func (PySem.W.fnOf "check_places" "check_places" (defArgs s_check_places) (defBody s_check_places) (defScope s_check_places) .none kV8 dc8 pm8 an8 cd8 ct8), sl8⟩) (c8 : PySem.W.codeIn K cd8 "check_places" = true) (k8 : PySem.W.keepIn K (.ref f8) = true)
    (a9 : PySem.W.nsIn K mainGlobals "lengths_from" = some (some (.ref f9))) (l9 : K.lookup f9 = some ⟨oc9, od9, .func (PySem.W.fnOf "lengths_from" "lengths_from" (defArgs s_lengths_from) (defBody s_lengths_from) (defScope s_lengths_from) .none kV9 dc9 pm9 an9 cd9 ct9), sl9⟩) (c9 : PySem.W.codeIn K cd9 "lengths_from" = true) (k9 : PySem.W.keepIn K (.ref f9) = true)
    (a10 : PySem.W.nsIn K mainGlobals "pairs_in_order" = some (some (.ref f10))) (l10 : K.lookup f10 = some ⟨oc10, od10, .func (PySem.W.fnOf "pairs_in_order" "pairs_in_order" (defArgs s_pairs_in_order) (defBody s_pairs_in_order) (defScope s_pairs_in_order) .none kV10 dc10 pm10 an10 cd10 ct10), sl10⟩) (c10 : PySem.W.codeIn K cd10 "pairs_in_order" = true) (k10 : PySem.W.keepIn K (.ref f10) = true)
    (a11 : PySem.W.nsIn K mainGlobals "farthest" = some (some (.ref f11))) (l11 : K.lookup f11 = some ⟨oc11, od11, .func (PySem.W.fnOf "farthest" "farthest" (defArgs s_farthest) (defBody s_farthest) (defScope s_farthest) .none kV11 dc11 pm11 an11 cd11 ct11), sl11⟩) (c11 : PySem.W.codeIn K cd11 "farthest" = true) (k11 : PySem.W.keepIn K (.ref f11) = true)
    (a12 : PySem.W.nsIn K mainGlobals "farthest_of_each" = some (some (.ref f12))) (l12 : K.lookup f12 = some ⟨oc12, od12, .func (PySem.W.fnOf "farthest_of_each" "farthest_of_each" (defArgs s_farthest_of_each) (defBody s_farthest_of_each) (defScope s_farthest_of_each) .none kV12 dc12 pm12 an12 cd12 ct12), sl12⟩) (c12 : PySem.W.codeIn K cd12 "farthest_of_each" = true) (k12 : PySem.W.keepIn K (.ref f12) = true)
    (a13 : PySem.W.nsIn K mainGlobals "_check_unlike" = some (some (.ref f13))) (l13 : K.lookup f13 = some ⟨oc13, od13, .func (PySem.W.fnOf "_check_unlike" "_check_unlike" (defArgs s_check_unlike) (defBody s_check_unlike) (defScope s_check_unlike) .none kV13 dc13 pm13 an13 cd13 ct13), sl13⟩) (c13 : PySem.W.codeIn K cd13 "_check_unlike" = true) (k13 : PySem.W.keepIn K (.ref f13) = true)
    (a14 : PySem.W.nsIn K mainGlobals "_all_joins" = some (some (.ref f14))) (l14 : K.lookup f14 = some ⟨oc14, od14, .func (PySem.W.fnOf "_all_joins" "_all_joins" (defArgs s_all_joins) (defBody s_all_joins) (defScope s_all_joins) .none kV14 dc14 pm14 an14 cd14 ct14), sl14⟩) (c14 : PySem.W.codeIn K cd14 "_all_joins" = true) (k14 : PySem.W.keepIn K (.ref f14) = true)
    (a15 : PySem.W.nsIn K mainGlobals "best_join" = some (some (.ref f15))) (l15 : K.lookup f15 = some ⟨oc15, od15, .func (PySem.W.fnOf "best_join" "best_join" (defArgs s_best_join) (defBody s_best_join) (defScope s_best_join) .none kV15 dc15 pm15 an15 (.ref cB) ct15), sl15⟩) (c15 : PySem.W.codeIn K (.ref cB) "best_join" = true) (k15 : PySem.W.keepIn K (.ref f15) = true)
    (a16 : PySem.W.nsIn K mainGlobals "_lengths_apart" = some (some (.ref f16))) (l16 : K.lookup f16 = some ⟨oc16, od16, .func (PySem.W.fnOf "_lengths_apart" "_lengths_apart" (defArgs s_lengths_apart) (defBody s_lengths_apart) (defScope s_lengths_apart) .none kV16 dc16 pm16 an16 cd16 ct16), sl16⟩) (c16 : PySem.W.codeIn K cd16 "_lengths_apart" = true) (k16 : PySem.W.keepIn K (.ref f16) = true)
    (a17 : PySem.W.nsIn K mainGlobals "_reaches" = some (some (.ref f17))) (l17 : K.lookup f17 = some ⟨oc17, od17, .func (PySem.W.fnOf "_reaches" "_reaches" (defArgs s_reaches) (defBody s_reaches) (defScope s_reaches) .none kV17 dc17 pm17 an17 cd17 ct17), sl17⟩) (c17 : PySem.W.codeIn K cd17 "_reaches" = true) (k17 : PySem.W.keepIn K (.ref f17) = true)
    (a18 : PySem.W.nsIn K mainGlobals "_parts_without" = some (some (.ref f18))) (l18 : K.lookup f18 = some ⟨oc18, od18, .func (PySem.W.fnOf "_parts_without" "_parts_without" (defArgs s_u_parts_without) (defBody s_u_parts_without) (defScope s_u_parts_without) .none kV18 dc18 pm18 an18 cd18 ct18), sl18⟩) (c18 : PySem.W.codeIn K cd18 "_parts_without" = true) (k18 : PySem.W.keepIn K (.ref f18) = true)
    (a19 : PySem.W.nsIn K mainGlobals "parts_without" = some (some (.ref f19))) (l19 : K.lookup f19 = some ⟨oc19, od19, .func (PySem.W.fnOf "parts_without" "parts_without" (defArgs s_parts_without) (defBody s_parts_without) (defScope s_parts_without) .none kV19 dc19 pm19 an19 cd19 ct19), sl19⟩) (c19 : PySem.W.codeIn K cd19 "parts_without" = true) (k19 : PySem.W.keepIn K (.ref f19) = true)
    (a20 : PySem.W.nsIn K mainGlobals "_pairs_between" = some (some (.ref f20))) (l20 : K.lookup f20 = some ⟨oc20, od20, .func (PySem.W.fnOf "_pairs_between" "_pairs_between" (defArgs s_pairs_between) (defBody s_pairs_between) (defScope s_pairs_between) .none kV20 dc20 pm20 an20 cd20 ct20), sl20⟩) (c20 : PySem.W.codeIn K cd20 "_pairs_between" = true) (k20 : PySem.W.keepIn K (.ref f20) = true)
    (a21 : PySem.W.nsIn K mainGlobals "_changes_of" = some (some (.ref f21))) (l21 : K.lookup f21 = some ⟨oc21, od21, .func (PySem.W.fnOf "_changes_of" "_changes_of" (defArgs s_changes_of) (defBody s_changes_of) (defScope s_changes_of) .none kV21 dc21 pm21 an21 cd21 ct21), sl21⟩) (c21 : PySem.W.codeIn K cd21 "_changes_of" = true) (k21 : PySem.W.keepIn K (.ref f21) = true)
    (a22 : PySem.W.nsIn K mainGlobals "best_change" = some (some (.ref f22))) (l22 : K.lookup f22 = some ⟨oc22, od22, .func (PySem.W.fnOf "best_change" "best_change" (defArgs s_best_change) (defBody s_best_change) (defScope s_best_change) .none kV22 dc22 pm22 an22 (.ref cW) ct22), sl22⟩) (c22 : PySem.W.codeIn K (.ref cW) "best_change" = true) (k22 : PySem.W.keepIn K (.ref f22) = true)
    (a23 : PySem.W.nsIn K mainGlobals "is_name" = some (some (.ref f23))) (l23 : K.lookup f23 = some ⟨oc23, od23, .func (PySem.W.fnOf "is_name" "is_name" (defArgs s_is_name) (defBody s_is_name) (defScope s_is_name) .none kV23 dc23 pm23 an23 cd23 ct23), sl23⟩) (c23 : PySem.W.codeIn K cd23 "is_name" = true) (k23 : PySem.W.keepIn K (.ref f23) = true)
    (a24 : PySem.W.nsIn K mainGlobals "is_length" = some (some (.ref f24))) (l24 : K.lookup f24 = some ⟨oc24, od24, .func (PySem.W.fnOf "is_length" "is_length" (defArgs s_is_length) (defBody s_is_length) (defScope s_is_length) .none kV24 dc24 pm24 an24 cd24 ct24), sl24⟩) (c24 : PySem.W.codeIn K cd24 "is_length" = true) (k24 : PySem.W.keepIn K (.ref f24) = true)
    (a25 : PySem.W.nsIn K mainGlobals "_read_places" = some (some (.ref f25))) (l25 : K.lookup f25 = some ⟨oc25, od25, .func (PySem.W.fnOf "_read_places" "_read_places" (defArgs s_read_places) (defBody s_read_places) (defScope s_read_places) .none kV25 dc25 pm25 an25 cd25 ct25), sl25⟩) (c25 : PySem.W.codeIn K cd25 "_read_places" = true) (k25 : PySem.W.keepIn K (.ref f25) = true)
    (a26 : PySem.W.nsIn K mainGlobals "_read_tie" = some (some (.ref f26))) (l26 : K.lookup f26 = some ⟨oc26, od26, .func (PySem.W.fnOf "_read_tie" "_read_tie" (defArgs s_read_tie) (defBody s_read_tie) (defScope s_read_tie) .none kV26 dc26 pm26 an26 cd26 ct26), sl26⟩) (c26 : PySem.W.codeIn K cd26 "_read_tie" = true) (k26 : PySem.W.keepIn K (.ref f26) = true)
    (a27 : PySem.W.nsIn K mainGlobals "_hang_together" = some (some (.ref f27))) (l27 : K.lookup f27 = some ⟨oc27, od27, .func (PySem.W.fnOf "_hang_together" "_hang_together" (defArgs s_hang_together) (defBody s_hang_together) (defScope s_hang_together) .none kV27 dc27 pm27 an27 cd27 ct27), sl27⟩) (c27 : PySem.W.codeIn K cd27 "_hang_together" = true) (k27 : PySem.W.keepIn K (.ref f27) = true)
    (a28 : PySem.W.nsIn K mainGlobals "read_tree" = some (some (.ref f28))) (l28 : K.lookup f28 = some ⟨oc28, od28, .func (PySem.W.fnOf "read_tree" "read_tree" (defArgs s_read_tree) (defBody s_read_tree) (defScope s_read_tree) .none kV28 dc28 pm28 an28 cd28 ct28), sl28⟩) (c28 : PySem.W.codeIn K cd28 "read_tree" = true) (k28 : PySem.W.keepIn K (.ref f28) = true)
    (a29 : PySem.W.nsIn K mainGlobals "tree_shown" = some (some (.ref f29))) (l29 : K.lookup f29 = some ⟨oc29, od29, .func (PySem.W.fnOf "tree_shown" "tree_shown" (defArgs s_tree_shown) (defBody s_tree_shown) (defScope s_tree_shown) .none kV29 dc29 pm29 an29 cd29 ct29), sl29⟩) (c29 : PySem.W.codeIn K cd29 "tree_shown" = true) (k29 : PySem.W.keepIn K (.ref f29) = true)
    (a30 : PySem.W.nsIn K mainGlobals "_law_parts" = some (some (.ref f30))) (l30 : K.lookup f30 = some ⟨oc30, od30, .func (PySem.W.fnOf "_law_parts" "_law_parts" (defArgs s_law_parts) (defBody s_law_parts) (defScope s_law_parts) .none kV30 dc30 pm30 an30 cd30 ct30), sl30⟩) (c30 : PySem.W.codeIn K cd30 "_law_parts" = true) (k30 : PySem.W.keepIn K (.ref f30) = true)
    (a31 : PySem.W.nsIn K mainGlobals "_law_changed" = some (some (.ref f31))) (l31 : K.lookup f31 = some ⟨oc31, od31, .func (PySem.W.fnOf "_law_changed" "_law_changed" (defArgs s_law_changed) (defBody s_law_changed) (defScope s_law_changed) .none kV31 dc31 pm31 an31 cd31 ct31), sl31⟩) (c31 : PySem.W.codeIn K cd31 "_law_changed" = true) (k31 : PySem.W.keepIn K (.ref f31) = true)
    (a32 : PySem.W.nsIn K mainGlobals "_law_part" = some (some (.ref f32))) (l32 : K.lookup f32 = some ⟨oc32, od32, .func (PySem.W.fnOf "_law_part" "_law_part" (defArgs s_law_part) (defBody s_law_part) (defScope s_law_part) .none kV32 dc32 pm32 an32 cd32 ct32), sl32⟩) (c32 : PySem.W.codeIn K cd32 "_law_part" = true) (k32 : PySem.W.keepIn K (.ref f32) = true)
    (a33 : PySem.W.nsIn K mainGlobals "_law_change_right" = some (some (.ref f33))) (l33 : K.lookup f33 = some ⟨oc33, od33, .func (PySem.W.fnOf "_law_change_right" "_law_change_right" (defArgs s_law_change_right) (defBody s_law_change_right) (defScope s_law_change_right) .none kV33 dc33 pm33 an33 cd33 ct33), sl33⟩) (c33 : PySem.W.codeIn K cd33 "_law_change_right" = true) (k33 : PySem.W.keepIn K (.ref f33) = true)
    (a34 : PySem.W.nsIn K mainGlobals "_law_parts_right" = some (some (.ref f34))) (l34 : K.lookup f34 = some ⟨oc34, od34, .func (PySem.W.fnOf "_law_parts_right" "_law_parts_right" (defArgs s_lw_parts_right) (defBody s_lw_parts_right) (defScope s_lw_parts_right) .none kV34 dc34 pm34 an34 cd34 ct34), sl34⟩) (c34 : PySem.W.codeIn K cd34 "_law_parts_right" = true) (k34 : PySem.W.keepIn K (.ref f34) = true)
    (a35 : PySem.W.nsIn K mainGlobals "law" = some (some (.ref f35))) (l35 : K.lookup f35 = some ⟨oc35, od35, .func (PySem.W.fnOf "law" "law" (defArgs s_law) (defBody s_law) (defScope s_law) .none kV35 dc35 pm35 an35 cd35 ct35), sl35⟩) (c35 : PySem.W.codeIn K cd35 "law" = true) (k35 : PySem.W.keepIn K (.ref f35) = true)
    (zLETTERS : PySem.W.nsIn K mainGlobals "LETTERS" = some (some (.str ("abcdefghijklmnopqrstuvwxyz" : Str) tLETTERS)))
    (zFIGURES : PySem.W.nsIn K mainGlobals "FIGURES" = some (some (.str ("0123456789" : Str) tFIGURES)))
    (zLONGEST_NAME : PySem.W.nsIn K mainGlobals "LONGEST_NAME" = some (some (.int 8 tLONGEST_NAME)))
    (zabs : PySem.W.nsIn K mainGlobals "abs" = some none)
    (zall : PySem.W.nsIn K mainGlobals "all" = some none)
    (zdict : PySem.W.nsIn K mainGlobals "dict" = some none)
    (zenumerate : PySem.W.nsIn K mainGlobals "enumerate" = some none)
    (zint : PySem.W.nsIn K mainGlobals "int" = some none)
    (zlen : PySem.W.nsIn K mainGlobals "len" = some none)
    (zlist : PySem.W.nsIn K mainGlobals "list" = some none)
    (zmax : PySem.W.nsIn K mainGlobals "max" = some none)
    (zmin : PySem.W.nsIn K mainGlobals "min" = some none)
    (zrange : PySem.W.nsIn K mainGlobals "range" = some none)
    (zsorted : PySem.W.nsIn K mainGlobals "sorted" = some none)
    (ztuple : PySem.W.nsIn K mainGlobals "tuple" = some none)
    (zzip : PySem.W.nsIn K mainGlobals "zip" = some none) :
    LamX.LawAtS l w K L2.CX0 8 63 "script" mg fa h := by
  have e := hfa.symm.trans (PySem.W.mg_of X G a35)
  cases e
  have F1 := fun_mk (st := s_law_deck) l1 c1 k1
  have b1 := F1.binds (ps := ["script"]) fun _ _ _ _ _ _ us hl => match us, hl with | [_], _ => rfl
  have F2 := fun_mk (st := s_law_draw) l2 c2 k2
  have b2 := F2.binds (ps := ["deck", "most"]) fun _ _ _ _ _ _ us hl => match us, hl with | [_, _], _ => rfl
  have F3 := fun_mk (st := s_law_names) l3 c3 k3
  have b3 := F3.binds (ps := ["deck", "many", "taken"]) fun _ _ _ _ _ _ us hl => match us, hl with | [_, _, _], _ => rfl
  have F4 := fun_mk (st := s_law_tree) l4 c4 k4
  have b4 := F4.binds (ps := ["deck", "most", "taken"]) fun _ _ _ _ _ _ us hl => match us, hl with | [_, _, _], _ => rfl
  have F5 := fun_mk (st := s_law_lengths) l5 c5 k5
  have b5 := F5.binds (ps := ["tree", "place"]) fun _ _ _ _ _ _ us hl => match us, hl with | [_, _], _ => rfl
  have F6 := fun_mk (st := s_ties_of_each) l6 c6 k6
  have b6 := F6.binds (ps := ["tree"]) fun _ _ _ _ _ _ us hl => match us, hl with | [_], _ => rfl
  have F7 := fun_mk (st := s_walk_from) l7 c7 k7
  have b7 := F7.binds (ps := ["tree", "start"]) fun _ _ _ _ _ _ us hl => match us, hl with | [_, _], _ => rfl
  have F8 := fun_mk (st := s_check_places) l8 c8 k8
  have b8 := F8.binds (ps := ["tree", "names"]) fun _ _ _ _ _ _ us hl => match us, hl with | [_, _], _ => rfl
  have F9 := fun_mk (st := s_lengths_from) l9 c9 k9
  have b9 := F9.binds (ps := ["tree", "place"]) fun _ _ _ _ _ _ us hl => match us, hl with | [_, _], _ => rfl
  have F10 := fun_mk (st := s_pairs_in_order) l10 c10 k10
  have b10 := F10.binds (ps := ["tree"]) fun _ _ _ _ _ _ us hl => match us, hl with | [_], _ => rfl
  have F11 := fun_mk (st := s_farthest) l11 c11 k11
  have b11 := F11.binds (ps := ["tree"]) fun _ _ _ _ _ _ us hl => match us, hl with | [_], _ => rfl
  have F12 := fun_mk (st := s_farthest_of_each) l12 c12 k12
  have b12 := F12.binds (ps := ["tree"]) fun _ _ _ _ _ _ us hl => match us, hl with | [_], _ => rfl
  have F13 := fun_mk (st := s_check_unlike) l13 c13 k13
  have b13 := F13.binds (ps := ["one", "other"]) fun _ _ _ _ _ _ us hl => match us, hl with | [_, _], _ => rfl
  have F14 := fun_mk (st := s_all_joins) l14 c14 k14
  have b14 := F14.binds (ps := ["one", "other", "length"]) fun _ _ _ _ _ _ us hl => match us, hl with | [_, _, _], _ => rfl
  have FCB : FunC K "best_join" "best_join" s_best_join f15 _ cB := ⟨_, _, _, _, _, _, _, _, rfl, l15, c15⟩
  have F15 := fun_mk (st := s_best_join) l15 c15 k15
  have b15 := F15.binds (ps := ["one", "other", "length"]) fun _ _ _ _ _ _ us hl => match us, hl with | [_, _, _], _ => rfl
  have F16 := fun_mk (st := s_lengths_apart) l16 c16 k16
  have b16 := F16.binds (ps := ["tree"]) fun _ _ _ _ _ _ us hl => match us, hl with | [_], _ => rfl
  have F17 := fun_mk (st := s_reaches) l17 c17 k17
  have b17 := F17.binds (ps := ["part", "apart"]) fun _ _ _ _ _ _ us hl => match us, hl with | [_, _], _ => rfl
  have F18 := fun_mk (st := s_u_parts_without) l18 c18 k18
  have b18 := F18.binds (ps := ["tree", "number", "apart"]) fun _ _ _ _ _ _ us hl => match us, hl with | [_, _, _], _ => rfl
  have F19 := fun_mk (st := s_parts_without) l19 c19 k19
  have b19 := F19.binds (ps := ["tree"]) fun _ _ _ _ _ _ us hl => match us, hl with | [_], _ => rfl
  have F20 := fun_mk (st := s_pairs_between) l20 c20 k20
  have b20 := F20.binds (ps := ["places", "part"]) fun _ _ _ _ _ _ us hl => match us, hl with | [_, _], _ => rfl
  have F21 := fun_mk (st := s_changes_of) l21 c21 k21
  have b21 := F21.binds (ps := ["tree", "number", "apart"]) fun _ _ _ _ _ _ us hl => match us, hl with | [_, _, _], _ => rfl
  have FCW : FunC K "best_change" "best_change" s_best_change f22 _ cW := ⟨_, _, _, _, _, _, _, _, rfl, l22, c22⟩
  have F22 := fun_mk (st := s_best_change) l22 c22 k22
  have b22 := F22.binds (ps := ["tree"]) fun _ _ _ _ _ _ us hl => match us, hl with | [_], _ => rfl
  have F23 := fun_mk (st := s_is_name) l23 c23 k23
  have b23 := F23.binds (ps := ["word"]) fun _ _ _ _ _ _ us hl => match us, hl with | [_], _ => rfl
  have F24 := fun_mk (st := s_is_length) l24 c24 k24
  have b24 := F24.binds (ps := ["word"]) fun _ _ _ _ _ _ us hl => match us, hl with | [_], _ => rfl
  have F25 := fun_mk (st := s_read_places) l25 c25 k25
  have b25 := F25.binds (ps := ["row"]) fun _ _ _ _ _ _ us hl => match us, hl with | [_], _ => rfl
  have F26 := fun_mk (st := s_read_tie) l26 c26 k26
  have b26 := F26.binds (ps := ["row", "number", "parts"]) fun _ _ _ _ _ _ us hl => match us, hl with | [_, _, _], _ => rfl
  have F27 := fun_mk (st := s_hang_together) l27 c27 k27
  have b27 := F27.binds (ps := ["parts", "one", "other"]) fun _ _ _ _ _ _ us hl => match us, hl with | [_, _, _], _ => rfl
  have F28 := fun_mk (st := s_read_tree) l28 c28 k28
  have b28 := F28.binds (ps := ["text"]) fun _ _ _ _ _ _ us hl => match us, hl with | [_], _ => rfl
  have F29 := fun_mk (st := s_tree_shown) l29 c29 k29
  have b29 := F29.binds (ps := ["tree"]) fun _ _ _ _ _ _ us hl => match us, hl with | [_], _ => rfl
  have F30 := fun_mk (st := s_law_parts) l30 c30 k30
  have b30 := F30.binds (ps := ["tree", "number"]) fun _ _ _ _ _ _ us hl => match us, hl with | [_, _], _ => rfl
  have F31 := fun_mk (st := s_law_changed) l31 c31 k31
  have b31 := F31.binds (ps := ["tree", "number", "one", "other"]) fun _ _ _ _ _ _ us hl => match us, hl with | [_, _, _, _], _ => rfl
  have F32 := fun_mk (st := s_law_part) l32 c32 k32
  have b32 := F32.binds (ps := ["tree", "places", "number"]) fun _ _ _ _ _ _ us hl => match us, hl with | [_, _, _], _ => rfl
  have F33 := fun_mk (st := s_law_change_right) l33 c33 k33
  have b33 := F33.binds (ps := ["deck", "tree"]) fun _ _ _ _ _ _ us hl => match us, hl with | [_, _], _ => rfl
  have F34 := fun_mk (st := s_lw_parts_right) l34 c34 k34
  have b34 := F34.binds (ps := ["deck", "tree"]) fun _ _ _ _ _ _ us hl => match us, hl with | [_, _], _ => rfl
  have F35 := fun_mk (st := s_law) l35 c35 k35
  have TW : TxtW mg := ⟨PySem.W.mg_none_of X G ztuple⟩
  have TQ : TxtQ mg := ⟨PySem.W.mg_none_of X G zlen, PySem.W.mg_none_of X G zrange, PySem.W.mg_none_of X G ztuple, PySem.W.mg_none_of X G zenumerate⟩
  have T0 : TxtG mg := ⟨PySem.W.mg_none_of X G zlen, PySem.W.mg_none_of X G zmax, PySem.W.mg_none_of X G zmin, PySem.W.mg_none_of X G zint, PySem.W.mg_none_of X G zrange, PySem.W.mg_none_of X G zlist, PySem.W.mg_none_of X G ztuple, PySem.W.mg_none_of X G zabs⟩
  have TP : TxtP mg := ⟨PySem.W.mg_none_of X G zlen, PySem.W.mg_none_of X G zall, PySem.W.mg_none_of X G ztuple, PySem.W.mg_none_of X G zint, PySem.W.mg_none_of X G zlist, PySem.W.mg_none_of X G zenumerate, ⟨_, PySem.W.mg_of X G zLETTERS⟩, ⟨_, PySem.W.mg_of X G zFIGURES⟩, ⟨_, PySem.W.mg_of X G zLONGEST_NAME⟩⟩
  have TE : TxtE mg := ⟨PySem.W.mg_none_of X G zdict, PySem.W.mg_none_of X G zzip, PySem.W.mg_none_of X G zmax, PySem.W.mg_none_of X G zlen, PySem.W.mg_none_of X G zrange, PySem.W.mg_none_of X G ztuple, PySem.W.mg_none_of X G zenumerate, PySem.W.mg_none_of X G zmin⟩
  have TMF : TxtMF mg := ⟨PySem.W.mg_none_of X G ztuple, PySem.W.mg_none_of X G zmax⟩
  have TJ : TxtJ mg := ⟨PySem.W.mg_none_of X G zmax, PySem.W.mg_none_of X G zzip⟩
  have TB2 : TxtB mg := ⟨PySem.W.mg_none_of X G zmin, PySem.W.mg_none_of X G zmax⟩
  have TLL : TxtLL mg := ⟨PySem.W.mg_none_of X G zlen, PySem.W.mg_none_of X G zrange, PySem.W.mg_none_of X G zsorted, PySem.W.mg_none_of X G zmax⟩
  have C_law_deck : ∀ base : Heap, Cal l.prog w K mg base 1 "_law_deck" (spDeck K) := fun base => ⟨f1, _, _, ok_deck F1 T0, PySem.W.mg_of X G a1, k1, b1⟩
  have C_law_draw : ∀ base : Heap, Cal l.prog w K mg base 1 "_law_draw" spDraw := fun base => ⟨f2, _, _, ok_draw F2 T0, PySem.W.mg_of X G a2, k2, b2⟩
  have C_law_names : ∀ base : Heap, Cal l.prog w K mg base 2 "_law_names" spNames := fun base => ⟨f3, _, _, ok_names F3 T0 (C_law_draw base), PySem.W.mg_of X G a3, k3, b3⟩
  have C_law_tree : ∀ base : Heap, Cal l.prog w K mg base 3 "_law_tree" spTree := fun base => ⟨f4, _, _, ok_tree F4 T0 (C_law_draw base) (C_law_names base), PySem.W.mg_of X G a4, k4, b4⟩
  have C_law_lengths : ∀ base : Heap, Cal l.prog w K mg base 2 "_law_lengths" spLayC := fun base => ⟨f5, _, _, ok_layC F5, PySem.W.mg_of X G a5, k5, b5⟩
  have C_ties_of_each : ∀ base : Heap, Cal l.prog w K mg base 1 "_ties_of_each" spTies := fun base => ⟨f6, _, _, ok_ties_of_each F6, PySem.W.mg_of X G a6, k6, b6⟩
  have Cwalk_from : ∀ base : Heap, Cal l.prog w K mg base 2 "walk_from" spWalk := fun base => ⟨f7, _, _, ok_walk_from F7 (C_ties_of_each base), PySem.W.mg_of X G a7, k7, b7⟩
  have CCwalk_from : ∀ base : Heap, Cal l.prog w K mg base 2 "walk_from" spWalkC := fun base => ⟨f7, _, _, ok_walk_fromC F7 (C_ties_of_each base), PySem.W.mg_of X G a7, k7, b7⟩
  have Ccheck_places : ∀ base : Heap, Cal l.prog w K mg base 1 "check_places" spCheck := fun base => ⟨f8, _, _, ok_check_places F8, PySem.W.mg_of X G a8, k8, b8⟩
  have Clengths_from : ∀ base : Heap, Cal l.prog w K mg base 3 "lengths_from" spLens := fun base => ⟨f9, _, _, ok_lengths_from F9 TW (Ccheck_places base) (Cwalk_from base), PySem.W.mg_of X G a9, k9, b9⟩
  have Cpairs_in_order : ∀ base : Heap, Cal l.prog w K mg base 4 "pairs_in_order" spPio := fun base => ⟨f10, _, _, ok_pio F10 TQ (Clengths_from base), PySem.W.mg_of X G a10, k10, b10⟩
  have Cfarthest : ∀ base : Heap, Cal l.prog w K mg base 5 "farthest" spFarthest := fun base => ⟨f11, _, _, ok_farthest F11 (Cpairs_in_order base), PySem.W.mg_of X G a11, k11, b11⟩
  have Cfarthest_of_each : ∀ base : Heap, Cal l.prog w K mg base 4 "farthest_of_each" spFoe := fun base => ⟨f12, _, _, ok_foe F12 TMF (Clengths_from base), PySem.W.mg_of X G a12, k12, b12⟩
  have C_check_unlike : ∀ base : Heap, Cal l.prog w K mg base 1 "_check_unlike" spUnlike := fun base => ⟨f13, _, _, ok_check_unlike F13, PySem.W.mg_of X G a13, k13, b13⟩
  have C_all_joins : ∀ base : Heap, Cal l.prog w K mg base 5 "_all_joins" spAllJ := fun base => ⟨f14, _, _, ok_all_joins F14 TJ (C_check_unlike base) (Cfarthest_of_each base), PySem.W.mg_of X G a14, k14, b14⟩
  have Cbest_join : ∀ base : Heap, LamX.TabB base mg cB PtB → LamX.TabB base mg cW PtW → Cal l.prog w K mg base 6 "best_join" (spBest PtB PtW) := fun base TBB TBW => ⟨f15, _, _, ok_best FCB TB2 neT TBB (C_all_joins base), PySem.W.mg_of X G a15, k15, b15⟩
  have C_lengths_apart : ∀ base : Heap, Cal l.prog w K mg base 4 "_lengths_apart" spApart := fun base => ⟨f16, _, _, ok_apart F16 TE (Clengths_from base), PySem.W.mg_of X G a16, k16, b16⟩
  have C_reaches : ∀ base : Heap, Cal l.prog w K mg base 1 "_reaches" spReaches := fun base => ⟨f17, _, _, ok_reaches F17 TE, PySem.W.mg_of X G a17, k17, b17⟩
  have C_parts_without : ∀ base : Heap, Cal l.prog w K mg base 3 "_parts_without" spParts := fun base => ⟨f18, _, _, ok_parts F18 (CCwalk_from base) (C_reaches base), PySem.W.mg_of X G a18, k18, b18⟩
  have Cparts_without : ∀ base : Heap, Cal l.prog w K mg base 5 "parts_without" spPartsW := fun base => ⟨f19, _, _, ok_parts_without F19 TE (C_lengths_apart base) (C_parts_without base), PySem.W.mg_of X G a19, k19, b19⟩
  have C_pairs_between : ∀ base : Heap, Cal l.prog w K mg base 1 "_pairs_between" spBetween := fun base => ⟨f20, _, _, ok_between F20 TE, PySem.W.mg_of X G a20, k20, b20⟩
  have C_changes_of : ∀ base : Heap, Cal l.prog w K mg base 4 "_changes_of" spChanges := fun base => ⟨f21, _, _, ok_changes F21 TE (C_parts_without base) (C_pairs_between base), PySem.W.mg_of X G a21, k21, b21⟩
  have Cbest_change : ∀ base : Heap, LamX.TabB base mg cB PtB → LamX.TabB base mg cW PtW → Cal l.prog w K mg base 5 "best_change" (spBC PtB PtW) := fun base TBB TBW => ⟨f22, _, _, ok_best_change FCW TE neT TBW (C_lengths_apart base) (C_changes_of base), PySem.W.mg_of X G a22, k22, b22⟩
  have Cis_name : ∀ base : Heap, Cal l.prog w K mg base 1 "is_name" spIsName := fun base => ⟨f23, _, _, ok_is_name F23 TP, PySem.W.mg_of X G a23, k23, b23⟩
  have Cis_length : ∀ base : Heap, Cal l.prog w K mg base 1 "is_length" spIsLen := fun base => ⟨f24, _, _, ok_is_length F24 TP, PySem.W.mg_of X G a24, k24, b24⟩
  have C_read_places : ∀ base : Heap, Cal l.prog w K mg base 2 "_read_places" spPlaces := fun base => ⟨f25, _, _, ok_read_places F25 TP (Cis_name base), PySem.W.mg_of X G a25, k25, b25⟩
  have C_read_tie : ∀ base : Heap, Cal l.prog w K mg base 2 "_read_tie" spTie := fun base => ⟨f26, _, _, ok_read_tie F26 TP (Cis_length base), PySem.W.mg_of X G a26, k26, b26⟩
  have C_hang_together : ∀ base : Heap, Cal l.prog w K mg base 1 "_hang_together" spHang := fun base => ⟨f27, _, _, ok_hang F27 TP, PySem.W.mg_of X G a27, k27, b27⟩
  have Cread_tree : ∀ base : Heap, Cal l.prog w K mg base 3 "read_tree" spRead := fun base => ⟨f28, _, _, ok_read_tree F28 TP (C_read_places base) (C_read_tie base) (C_hang_together base), PySem.W.mg_of X G a28, k28, b28⟩
  have Ctree_shown : ∀ base : Heap, Cal l.prog w K mg base 1 "tree_shown" spShown := fun base => ⟨f29, _, _, ok_tree_shown F29, PySem.W.mg_of X G a29, k29, b29⟩
  have C_law_parts : ∀ base : Heap, Cal l.prog w K mg base 3 "_law_parts" spLParts := fun base => ⟨f30, _, _, ok_lparts F30 (C_law_lengths base), PySem.W.mg_of X G a30, k30, b30⟩
  have C_law_changed : ∀ base : Heap, Cal l.prog w K mg base 1 "_law_changed" spChanged := fun base => ⟨f31, _, _, ok_changed F31, PySem.W.mg_of X G a31, k31, b31⟩
  have C_law_part : ∀ base : Heap, Cal l.prog w K mg base 1 "_law_part" spLPart := fun base => ⟨f32, _, _, ok_lpart F32 TE, PySem.W.mg_of X G a32, k32, b32⟩
  have C_law_change_right : ∀ base : Heap, LamX.TabB base mg cB PtB → LamX.TabB base mg cW PtW → Cal l.prog w K mg base 7 "_law_change_right" (spYes PtB PtW) := fun base TBB TBW => ⟨f33, _, _, ok_change_right F33 TLL (Cbest_change base TBB TBW) (C_law_changed base) (Cfarthest base) (Ctree_shown base) (Cread_tree base) (C_law_draw base) (C_law_parts base), PySem.W.mg_of X G a33, k33, b33⟩
  have C_law_parts_right : ∀ base : Heap, LamX.TabB base mg cB PtB → LamX.TabB base mg cW PtW → Cal l.prog w K mg base 7 "_law_parts_right" (spYes PtB PtW) := fun base TBB TBW => ⟨f34, _, _, ok_parts_right F34 TLL (Cparts_without base) (Cfarthest base) (C_law_draw base) (C_law_parts base) (C_law_part base) (Cbest_change base TBB TBW) (Cbest_join base TBB TBW), PySem.W.mg_of X G a34, k34, b34⟩
  have tB : PySem.W.tabIn K "best_join" = some (cB, PtB) := by
    unfold PySem.W.tabIn
    simp only [a15, l15, kcB, vPB]
  have tW : PySem.W.tabIn K "best_change" = some (cW, PtW) := by
    unfold PySem.W.tabIn
    simp only [a22, l22, kcW, vPW]
  have two : ∀ {R : Addr × Addr → Prop}, R (cB, PtB) → R (cW, PtW) → ∀ p ∈ [(cB, PtB), (cW, PtW)], R p := fun r1 r2 p hp => by
    rcases List.mem_cons.mp hp with e | e
    · rw [e]
      exact r1
    · rw [List.mem_singleton.mp e]
      exact r2
  refine ⟨_, [(cB, PtB), (cW, PtW)], spLawT K PtB PtW, two (R := fun p => h.get? p.2 = some { cls := .none, data := .fields #[] }) (tabB _ _ tB).2 (tabW _ _ tW).2, two (R := fun p => K.lookup p.2 = none) nTB nTW, two (R := fun p => PySem.W.CodeHd h p.1 p.2) (tabB _ _ tB).1 (tabW _ _ tW).1, fun s v => .of_eq rfl, fun H a ns hl hb hH hS => ?_, fun base _ _ TB => ok_law F35 TLL (C_law_deck base) (C_law_tree base) (C_law_change_right base (TB (cB, PtB) (List.mem_cons_self ..)) (TB (cW, PtW) (List.mem_cons_of_mem _ (List.mem_cons_self ..)))) (C_law_parts_right base (TB (cB, PtB) (List.mem_cons_self ..)) (TB (cW, PtW) (List.mem_cons_of_mem _ (List.mem_cons_self ..)))) (Cbest_change base (TB (cB, PtB) (List.mem_cons_self ..)) (TB (cW, PtW) (List.mem_cons_of_mem _ (List.mem_cons_self ..))))⟩
  refine ⟨a, ns, rfl, hS, hl, hb, fun p hp => ?_, fun _ => rfl⟩
  rcases List.mem_cons.mp hp with e | e
  · rw [e]
    exact LamX.TabS.nil (hH (cB, PtB) (List.mem_cons_self ..))
  · rw [List.mem_singleton.mp e]
    exact LamX.TabS.nil (hH (cW, PtW) (List.mem_cons_of_mem _ (List.mem_cons_self ..)))
end Far
open PySem PySem.W PyProof.Rows in
set_option maxRecDepth 100000 in
set_option maxHeartbeats 0 in
theorem PySem.Challenge.cw_farplaces_k22_whole_elsewhere_holds : PySem.Challenge.rw_farplaces_k22_whole_elsewhere.Holds := by
  w_on; o_law; k_head; (case hw => w_witness2)
  k_fill
  refine Far.walk_nm2 (l := PySem.Challenge.rw_farplaces_k22_whole_elsewhere) (k := 8) (x := "script") (nm := "best_join") (nn := "best_change") ⟨rfl, by decide, by decide⟩ rfl rfl (by rfl) (by rfl) (fun w h Y => PySem.W.km_in_of Y) ?F
  case F =>
    intro w mg fa h KX G hmg tabB tabW
    refine' Far.all_mk KX G hmg ?kcB ?vPB ?nTB tabB ?kcW ?vPW ?nTW tabW ?neT ?a1 ?l1 ?c1 ?k1 ?a2 ?l2 ?c2 ?k2 ?a3 ?l3 ?c3 ?k3 ?a4 ?l4 ?c4 ?k4 ?a5 ?l5 ?c5 ?k5 ?a6 ?l6 ?c6 ?k6 ?a7 ?l7 ?c7 ?k7 ?a8 ?l8 ?c8 ?k8 ?a9 ?l9 ?c9 ?k9 ?a10 ?l10 ?c10 ?k10 ?a11 ?l11 ?c11 ?k11 ?a12 ?l12 ?c12 ?k12 ?a13 ?l13 ?c13 ?k13 ?a14 ?l14 ?c14 ?k14 ?a15 ?l15 ?c15 ?k15 ?a16 ?l16 ?c16 ?k16 ?a17 ?l17 ?c17 ?k17 ?a18 ?l18 ?c18 ?k18 ?a19 ?l19 ?c19 ?k19 ?a20 ?l20 ?c20 ?k20 ?a21 ?l21 ?c21 ?k21 ?a22 ?l22 ?c22 ?k22 ?a23 ?l23 ?c23 ?k23 ?a24 ?l24 ?c24 ?k24 ?a25 ?l25 ?c25 ?k25 ?a26 ?l26 ?c26 ?k26 ?a27 ?l27 ?c27 ?k27 ?a28 ?l28 ?c28 ?k28 ?a29 ?l29 ?c29 ?k29 ?a30 ?l30 ?c30 ?k30 ?a31 ?l31 ?c31 ?k31 ?a32 ?l32 ?c32 ?k32 ?a33 ?l33 ?c33 ?k33 ?a34 ?l34 ?c34 ?k34 ?a35 ?l35 ?c35 ?k35 ?zLETTERS ?zFIGURES ?zLONGEST_NAME ?zabs ?zall ?zdict ?zenumerate ?zint ?zlen ?zlist ?zmax ?zmin ?zrange ?zsorted ?ztuple ?zzip
    (case a1 => k_is); (case l1 => k_is); (case c1 => k_is); (case k1 => k_is); (case a2 => k_is); (case l2 => k_is); (case c2 => k_is); (case k2 => k_is); (case a3 => k_is); (case l3 => k_is); (case c3 => k_is); (case k3 => k_is); (case a4 => k_is); (case l4 => k_is); (case c4 => k_is); (case k4 => k_is); (case a5 => k_is); (case l5 => k_is); (case c5 => k_is); (case k5 => k_is); (case a6 => k_is); (case l6 => k_is); (case c6 => k_is); (case k6 => k_is); (case a7 => k_is); (case l7 => k_is); (case c7 => k_is); (case k7 => k_is); (case a8 => k_is); (case l8 => k_is); (case c8 => k_is); (case k8 => k_is); (case a9 => k_is); (case l9 => k_is); (case c9 => k_is); (case k9 => k_is); (case a10 => k_is); (case l10 => k_is); (case c10 => k_is); (case k10 => k_is); (case a11 => k_is); (case l11 => k_is); (case c11 => k_is); (case k11 => k_is); (case a12 => k_is); (case l12 => k_is); (case c12 => k_is); (case k12 => k_is); (case a13 => k_is); (case l13 => k_is); (case c13 => k_is); (case k13 => k_is); (case a14 => k_is); (case l14 => k_is); (case c14 => k_is); (case k14 => k_is); (case a15 => k_is); (case l15 => k_is); (case c15 => k_is); (case k15 => k_is); (case a16 => k_is); (case l16 => k_is); (case c16 => k_is); (case k16 => k_is); (case a17 => k_is); (case l17 => k_is); (case c17 => k_is); (case k17 => k_is); (case a18 => k_is); (case l18 => k_is); (case c18 => k_is); (case k18 => k_is); (case a19 => k_is); (case l19 => k_is); (case c19 => k_is); (case k19 => k_is); (case a20 => k_is); (case l20 => k_is); (case c20 => k_is); (case k20 => k_is); (case a21 => k_is); (case l21 => k_is); (case c21 => k_is); (case k21 => k_is); (case a22 => k_is); (case l22 => k_is); (case c22 => k_is); (case k22 => k_is); (case a23 => k_is); (case l23 => k_is); (case c23 => k_is); (case k23 => k_is); (case a24 => k_is); (case l24 => k_is); (case c24 => k_is); (case k24 => k_is); (case a25 => k_is); (case l25 => k_is); (case c25 => k_is); (case k25 => k_is); (case a26 => k_is); (case l26 => k_is); (case c26 => k_is); (case k26 => k_is); (case a27 => k_is); (case l27 => k_is); (case c27 => k_is); (case k27 => k_is); (case a28 => k_is); (case l28 => k_is); (case c28 => k_is); (case k28 => k_is); (case a29 => k_is); (case l29 => k_is); (case c29 => k_is); (case k29 => k_is); (case a30 => k_is); (case l30 => k_is); (case c30 => k_is); (case k30 => k_is); (case a31 => k_is); (case l31 => k_is); (case c31 => k_is); (case k31 => k_is); (case a32 => k_is); (case l32 => k_is); (case c32 => k_is); (case k32 => k_is); (case a33 => k_is); (case l33 => k_is); (case c33 => k_is); (case k33 => k_is); (case a34 => k_is); (case l34 => k_is); (case c34 => k_is); (case k34 => k_is); (case a35 => k_is); (case l35 => k_is); (case c35 => k_is); (case k35 => k_is); (case zLETTERS => k_is); (case zFIGURES => k_is); (case zLONGEST_NAME => k_is); (case zabs => k_is); (case zall => k_is); (case zdict => k_is); (case zenumerate => k_is); (case zint => k_is); (case zlen => k_is); (case zlist => k_is); (case zmax => k_is); (case zmin => k_is); (case zrange => k_is); (case zsorted => k_is); (case ztuple => k_is); (case zzip => k_is)
    (case kcB => k_is); (case vPB => exact rfl); (case nTB => first | k_is | exact rfl); (case kcW => k_is); (case vPW => exact rfl); (case nTW => first | k_is | exact rfl); (case neT => decide)

