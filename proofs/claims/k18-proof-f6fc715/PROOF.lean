import PyProof.Rows.All
import Wide.All
import OpenK.AllK
import Wide.FinOn
import HandS.ForMost
import HandS.Wide
import HandS.Codes
import HandS.Conv
import HandS.TupAny
import HandS.Style
import HandS.IsInst
import HandS.FStr
import HandS.DictComp
import HandS.NoneIn
import HandS.WideBits
import KE.IntBitsLaws
import HandS.Exc
import HandS.ExcInit
import HandS.ClsMeth
import HandS.ExcValue
import HandS.TryOnly
import HandS.ExcIs
import HandS.ExcField
import HandS.WordsExc
import HandS.RaiseMore
import PyProof.ExcBaseAll.ValueError
import HandS.Zip
import HandS.EndBits
import PySem.Challenge.RW_farplaces_k18_trees_joined
set_option Elab.async false
set_option linter.all false
set_option maxRecDepth 100000
set_option maxHeartbeats 8000000
namespace Far
open PySem PySem.Spec PyProof.Rows L2
open C8 (pss_cut tCut)
open SX (S)
def topS (i : Nat) : Stmt := PySem.Challenge.pw_farplaces_k18_trees_joined.main.body.getD i (.Pass ⟨0, 0, 0, 0⟩)

theorem hd_of {A : Around} {k : Nat} (hr : Room k A) (h : 1 ≤ k) : A.units + 64 < cLine := by
  have := hr.units
  omega

/-- a def of the module that may be called by its name -/
structure Cal (P : Program) (w : World) (K : PySem.W.Frag) (mg : Str → Option Value) (base : Heap) (k : Nat) (x : Str) (sp : Sp) : Prop where
  ex : ∃ (f : Addr) (fd : FuncData) (ps : List Str), FnOk P w K mg base CX0 k f fd ps sp ∧ mg x = some (.ref f) ∧ PySem.W.keepIn K (.ref f) = true ∧ Binds K fd ps []
theorem pe_c {X : Cx} {k j : Nat} {x : Str} {sp : Sp} {p pos : Pos} {e : Expr} {es : List Expr} {t : TA} (c : Cal X.prog X.w X.K X.mg X.base k x sp) (hr : Room j X.A) (hk : k ≤ j) (hg : Gl X x) (ha : PA X (e :: es) t)
    (hdb : (x == ("__debug__" : Str)) = false := by decide) (he : starEach (e :: es) X.env = (false, eval e X.env) :: starEach es X.env := by rfl) (hpl : (backTo pos (starEach es X.env)).any (·.1) = false := by rfl) :
    PE X (.Call (.Name x p) (e :: es) [] pos) (tCall sp [] E0 t) := by
  obtain ⟨f, fd, ps, F, hm, kp, b⟩ := c.ex
  exact pe_call F (hr.mono hk) hg hm kp b .nil pass0 ha hdb he hpl

theorem bt_len : bootBuiltins ("len" : Str) = some (.builtin "len") := by decide +kernel
theorem bt_sum : bootBuiltins ("sum" : Str) = some (.builtin "sum") := by decide +kernel
theorem bt_max : bootBuiltins ("max" : Str) = some (.builtin "max") := by decide +kernel
theorem bt_all : bootBuiltins ("all" : Str) = some (.builtin "all") := by decide +kernel
theorem bt_isinstance : bootBuiltins ("isinstance" : Str) = some (.builtin "isinstance") := by decide +kernel
theorem bt_int : bootBuiltins ("int" : Str) = some (.type "int") := by decide +kernel
theorem bt_str : bootBuiltins ("str" : Str) = some (.type "str") := by decide +kernel
theorem bt_tuple : bootBuiltins ("tuple" : Str) = some (.type "tuple") := by decide +kernel
theorem bt_bool : bootBuiltins ("bool" : Str) = some (.type "bool") := by decide +kernel
theorem bt_list : bootBuiltins ("list" : Str) = some (.type "list") := by decide +kernel
/-- rules with the written part named, for use within a comprehension -/
def rLenV (K : PySem.W.Frag) : List V → Hp → VK → Prop := fun xs H Q => ∃ x n, xs = [x] ∧ LenV K x H n ∧ Q (.int n) H
theorem lenK {X : Cx} {K : PySem.W.Frag} (e : X.K = K := by rfl) : CallR X (.builtin "len") (rLenV K) := by
  subst e
  exact call_len
theorem ixl {X : Cx} {K : PySem.W.Frag} (e : X.K = K := by rfl) : IxR X (rIxL K) := by
  subst e
  exact ix_list
theorem ixt {X : Cx} {K : PySem.W.Frag} (e : X.K = K := by rfl) : IxR X (rIxT K) := by
  subst e
  exact ix_tup
/-- what the module's names hold that are built-ins, and its constants -/
structure Txt (mg : Str → Option Value) : Prop where
  len : mg "len" = none
  sum : mg "sum" = none
  range : mg "range" = none
  int : mg "int" = none
  max : mg "max" = none
  list : mg "list" = none
  tuple : mg "tuple" = none

/-- all that stood stands as it was, but for the one object -/
def SmX (d : Addr) (H H' : Hp) : Prop := ∀ b o, b ≠ d → H b = some o → H' b = some o
theorem SmX.refl {d : Addr} (H : Hp) : SmX d H H := fun _ _ _ h => h
theorem SmX.trans {d : Addr} {H H1 H2 : Hp} (a : SmX d H H1) (b : SmX d H1 H2) : SmX d H H2 := fun x o n h => b x o n (a x o n h)
theorem SmX.new {d : Addr} {H H1 : Hp} {p : Addr} {o : HO} (a : SmX d H H1) (n : H1 p = none) : SmX d H (upd H1 p o) := fun x u nx h => by
  rw [upd_ne (ne_of_none (a x u nx h) n)]
  exact a x u nx h
theorem SmX.mut {d : Addr} {H H1 : Hp} {o : HO} (a : SmX d H H1) : SmX d H (upd H1 d o) := fun x u nx h => by
  rw [upd_ne nx]
  exact a x u nx h
/-- an object that the first heap does not know may change -/
theorem SmX.put {d : Addr} {H H1 : Hp} {p : Addr} {o : HO} (a : SmX d H H1) (n : H p = none) : SmX d H (upd H1 p o) := fun x u nx h => by
  rw [upd_ne (ne_of_none h n)]
  exact a x u nx h

/-- the deck at d, its cells at c: at most n were mixed -/
def DeckAt (H : Hp) (d c : Addr) (n : Nat) : Prop := ∃ (cs : List Int) (i l m z : Int), H d = some (.lst [.ref c, .int i, .int l, .int m, .int z]) ∧ H c = some (.lst (cs.map V.int)) ∧ c ≠ d ∧ cs.length ≤ 63 ∧ 0 ≤ i ∧ i ≤ 63 ∧ 0 ≤ l ∧ 0 ≤ m ∧ m ≤ n
theorem DeckAt.new {H : Hp} {d c p : Addr} {o : HO} {n : Nat} (h : DeckAt H d c n) (np : H p = none) : DeckAt (upd H p o) d c n := by
  obtain ⟨cs, i, l, m, z, h1, h2, h3⟩ := h
  exact ⟨cs, i, l, m, z, by rw [upd_ne (ne_of_none h1 np)]; exact h1, by rw [upd_ne (ne_of_none h2 np)]; exact h2, h3⟩
theorem DeckAt.put {H : Hp} {d c p : Addr} {o : HO} {n : Nat} (h : DeckAt H d c n) (nd : p ≠ d) (nc : p ≠ c) : DeckAt (upd H p o) d c n := by
  obtain ⟨cs, i, l, m, z, h1, h2, h3⟩ := h
  exact ⟨cs, i, l, m, z, by rw [upd_ne nd.symm]; exact h1, by rw [upd_ne nc.symm]; exact h2, h3⟩
theorem DeckAt.nd {H : Hp} {d c p : Addr} {n : Nat} (h : DeckAt H d c n) (np : H p = none) : p ≠ d := fun e => by
  obtain ⟨_, _, _, _, _, h1, _⟩ := h
  rw [e, h1] at np
  cases np
theorem DeckAt.nc {H : Hp} {d c p : Addr} {n : Nat} (h : DeckAt H d c n) (np : H p = none) : p ≠ c := fun e => by
  obtain ⟨_, _, _, _, _, _, h2, _⟩ := h
  rw [e, h2] at np
  cases np
theorem DeckAt.mono {H : Hp} {d c : Addr} {n m : Nat} (h : DeckAt H d c n) (le : n ≤ m) : DeckAt H d c m := by
  obtain ⟨cs, i, l, m', z, h1, h2, h3, h4, h5, h6, h7, h8, h9⟩ := h
  exact ⟨cs, i, l, m', z, h1, h2, h3, h4, h5, h6, h7, h8, by omega⟩
theorem SmX.free {d : Addr} {H H' : Hp} {p : Addr} (a : SmX d H H') (n : H' p = none) (nd : p ≠ d) : H p = none := by
  cases q : H p with
  | none => rfl
  | some o =>
    rw [a p o nd q] at n
    cases n

/-- the signs of a name -/
def NameOk (l : List Nat) : Prop := 1 ≤ l.length ∧ l.length ≤ 8 ∧ ∀ c ∈ l, 97 ≤ c ∧ c ≤ 122
theorem sz_le {n : Nat} (h : n ≤ 100000) : n ≤ sizeLine := Nat.le_trans h (by decide)
theorem sz_lt {n : Nat} (h : n ≤ 100000) : n < sizeLine := Nat.lt_of_le_of_lt h (by decide)
theorem atI_in {α : Type} {xs : List α} {i : Int} (h0 : 0 ≤ i) (h1 : i < xs.length) : ∃ v, atI xs i = some v ∧ v ∈ xs := by
  have e : i = ((i.toNat : Nat) : Int) := by omega
  have l : i.toNat < xs.length := by omega
  refine ⟨xs[i.toNat], ?_, List.getElem_mem l⟩
  have q := atI_nat (List.getElem?_eq_getElem l)
  rwa [← e] at q
theorem S_of (z : Str) : ∃ l, z = S l := ⟨z.cps.toList, (SX.S_tl z).symm⟩
theorem join_none : ∀ ys : List (List Nat), TL.joinL [] ys = ys.flatten
  | [] => rfl
  | [x] => by simp [TL.joinL]
  | x :: y :: r => by
    have ih := join_none (y :: r)
    show x ++ ([] ++ TL.joinL [] (y :: r)) = x ++ (y :: r).flatten
    rw [ih]
    rfl
theorem flat_one (cs : List Nat) : (cs.map fun c => [c]).flatten = cs := by
  induction cs with
  | nil => rfl
  | cons c r ih => rw [List.map_cons, List.flatten_cons, ih]; rfl
theorem one_sum' (cs : List Nat) : ((cs.map fun c => S [c]).map (·.length)).sum = cs.length := by
  induction cs with
  | nil => rfl
  | cons c r ih =>
    rw [List.map_cons, List.map_cons, List.sum_cons, ih, List.length_cons, SX.S_len]
    show 1 + r.length = r.length + 1
    omega
theorem bt_min : bootBuiltins ("min" : Str) = some (.builtin "min") := by decide +kernel
theorem same_new {H H1 : Hp} {p : Addr} {o : HO} (a : Same H H1) (n : H1 p = none) : Same H (upd H1 p o) := fun x u h => by
  rw [upd_ne (ne_of_none (a x u h) n)]
  exact a x u h
theorem same_put {H H1 : Hp} {p : Addr} {o : HO} (a : Same H H1) (n : H p = none) : Same H (upd H1 p o) := fun x u h => by
  rw [upd_ne (ne_of_none h n)]
  exact a x u h
end Far

namespace Far
open PySem PySem.Spec PyProof.Rows L2
open C8 (pss_cut tCut)
open SX (S)
theorem bt_abs : bootBuiltins ("abs" : Str) = some (.builtin "abs") := by decide +kernel
structure TxtG (mg : Str → Option Value) : Prop where
  len : mg "len" = none
  max : mg "max" = none
  min : mg "min" = none
  int : mg "int" = none
  range : mg "range" = none
  list : mg "list" = none
  tuple : mg "tuple" = none
  abs : mg "abs" = none
/-- the deck at d, drawn from n times at most -/
def SeedAt (H : Hp) (d : Addr) (n : Nat) : Prop := ∃ a m k : Int, H d = some (.lst [.int a, .int m, .int k]) ∧ 0 ≤ a ∧ 0 ≤ k ∧ k ≤ n ∧ 0 ≤ m ∧ m < 1999999871
theorem SeedAt.new {H : Hp} {d p : Addr} {o : HO} {n : Nat} (h : SeedAt H d n) (np : H p = none) : SeedAt (upd H p o) d n := by
  obtain ⟨a, f, k, h1, h2⟩ := h
  exact ⟨a, f, k, by rw [upd_ne (ne_of_none h1 np)]; exact h1, h2⟩
theorem SeedAt.put {H : Hp} {d p : Addr} {o : HO} {n : Nat} (h : SeedAt H d n) (nd : p ≠ d) : SeedAt (upd H p o) d n := by
  obtain ⟨a, f, k, h1, h2⟩ := h
  exact ⟨a, f, k, by rw [upd_ne nd.symm]; exact h1, h2⟩
theorem SeedAt.nd {H : Hp} {d p : Addr} {n : Nat} (h : SeedAt H d n) (np : H p = none) : p ≠ d := fun e => by
  obtain ⟨a, f, k, h1, _⟩ := h
  rw [e, h1] at np
  cases np
theorem SeedAt.mono {H : Hp} {d : Addr} {n m : Nat} (h : SeedAt H d n) (l : n ≤ m) : SeedAt H d m := by
  obtain ⟨a, f, k, h1, h2, h3, h4, h5⟩ := h
  exact ⟨a, f, k, h1, h2, h3, by omega, h5⟩
theorem SeedAt.lst {H : Hp} {d : Addr} {n : Nat} (h : SeedAt H d n) : ∃ xs, H d = some (.lst xs) := by
  obtain ⟨_, _, _, h1, _⟩ := h
  exact ⟨_, h1⟩
theorem cut_all (xs : List V) (h : xs.length ≤ 63) : cutV xs none (some 63) = xs := by
  unfold cutV
  rw [HT.sIx_none, show HT.sIx xs.length xs.length (some 63) = min 63 xs.length from HT.sIx_nat _ _ 63, Nat.min_eq_right h, List.drop_zero, Nat.sub_zero]
  exact List.take_length
theorem grow_bits {g c : Int} {i : Nat} (hg : Builtin.Int.intBits g ≤ 1048576 + 206 * i) (hc : Builtin.Int.intBits c ≤ 1048576) : Builtin.Int.intBits (g * 2 ^ 205 + (if c < 0 then -c else c)) ≤ 1048576 + 206 * (i + 1) := by
  have h1 := PySem.intBits_le_iff.mp hg
  have h2 := PySem.intBits_le_iff.mp hc
  refine PySem.intBits_le_iff.mpr ?_
  have e : (if c < 0 then -c else c).natAbs = c.natAbs := by split <;> omega
  have a1 : (g * 2 ^ 205 + (if c < 0 then -c else c)).natAbs ≤ (g * 2 ^ 205).natAbs + c.natAbs := by
    rw [← e]
    exact Int.natAbs_add_le _ _
  have a2 : (g * 2 ^ 205 : Int).natAbs = g.natAbs * 2 ^ 205 := by rw [Int.natAbs_mul]; rfl
  rw [a2] at a1
  have a3 : 1048576 + 206 * (i + 1) = (1048576 + 206 * i) + 206 := by omega
  rw [a3, Nat.pow_add]
  have a4 : (2 : Nat) ^ 1048576 ≤ 2 ^ (1048576 + 206 * i) := Nat.pow_le_pow_right (by decide) (by omega)
  have a5 : (2 : Nat) ^ 206 = 2 ^ 205 * 2 := rfl
  generalize (2 : Nat) ^ (1048576 + 206 * i) = k at *
  have a6 : g.natAbs * 2 ^ 205 ≤ (k - 1) * 2 ^ 205 := Nat.mul_le_mul_right _ (by omega)
  have a7 : (k - 1) * 2 ^ 205 + k ≤ k * 2 ^ 206 := by
    have k0 : 0 < k := by omega
    obtain ⟨j, rfl⟩ : ∃ j, k = j + 1 := ⟨k - 1, by omega⟩
    rw [Nat.add_sub_cancel, a5]
    generalize (2 : Nat) ^ 205 = m at *
    have m0 : 1 ≤ m := by
      rcases Nat.eq_zero_or_pos m with z | z
      · rw [z] at a5
        exact absurd a5 (by decide)
      · exact z
    have : (j + 1) * (m * 2) = j * m + (j * m + 2 * m) := by
      rw [Nat.add_mul, Nat.mul_comm m 2, ← Nat.mul_assoc, Nat.mul_comm j 2, Nat.mul_assoc]
      omega
    rw [this]
    have : j ≤ j * m := Nat.le_mul_of_pos_right _ m0
    omega
  omega
abbrev s_law_deck : Stmt := topS 10
abbrev N_law_deck : List Str := ["script", "great", "mixed", "cell"]
theorem sc_law_deck : FnScope N_law_deck ["script"] (defScope s_law_deck) := ⟨rfl, rfl, rfl, by decide +kernel, rfl, by decide +kernel, by decide +kernel⟩
section
variable {P : Program} {w : World} {K : PySem.W.Frag} {mg : Str → Option Value} {base : Heap}
def spDeck (K : PySem.W.Frag) : Sp := fun vs H Q _ => ∃ (a : Addr) (ns : List Int), vs = [.ref a] ∧ SqL K H a (ns.map V.int) ∧ ns.length ≤ 63 ∧ (∀ z ∈ ns, Builtin.Int.intBits z ≤ 1048576) ∧ ∀ (H' : Hp) (d : Addr), Same H H' → H d = none → SeedAt H' d 0 → Q (.ref d) H'
theorem ok_deck {f : Addr} {fd : FuncData} (F : Fun K "_law_deck" "_law_deck" s_law_deck f fd) (T : TxtG mg) : FnOk P w K mg base CX0 1 f fd ["script"] (spDeck K) := by
  refine F.ok sc_law_deck (fun vs H Q E h => ?_) (fun cdv A outer s H vs Q E hr h => ?_)
  · obtain ⟨a, ns, rfl, _⟩ := h
    rfl
  · obtain ⟨a, ns, rfl, hS, hl, hb, q⟩ := h
    refine ⟨_, (pss_cons (ps_set (i := 1) sc_law_deck.nd rfl (.inl rfl) pe_int)
      (pss_cons (ps_set (i := 2) sc_law_deck.nd rfl (.inl rfl) (pe_op op_add (pe_op op_mul pe_int (pe_callB call_len_seq (by rfl) T.len bt_len (pa_cons (pv 0) pa_nil))) pe_int))
      (pss_cut (ps_for PassesOwn.never rfl (pi_list (pe_slice sl_list (pv 0) po_none (po_some pe_int))) (pg_name (i := 3) sc_law_deck.nd rfl (.inl rfl))
        (pss_one (ps_if (pt_cmpR op_ge (pe_callB call_abs (by rfl) T.abs bt_abs (pa_cons (pv 3) pa_nil)) (pe_op op_pow pe_int pe_int) (nomark _))
          (pss_one (ps_set (i := 1) sc_law_deck.nd rfl (.inl rfl) (pe_op op_add (pe_op op_shlN (pv 1) pe_int) (pe_callB call_abs (by rfl) T.abs bt_abs (pa_cons (pv 3) pa_nil)))))
          (pss_one (ps_set (i := 2) sc_law_deck.nd rfl (.inl rfl) (pe_op op_mod (pe_op op_add (pe_op op_mul (pv 2) pe_int) (pv 3)) pe_int))))))
      (pss_one (ps_ret (pe_lst (pa_cons (pv 1) (pa_cons (pv 2) (pa_cons pe_int pa_nil))))))))), ?_⟩
    have hl' : (ns.map V.int).length ≤ 63 := by rw [List.length_map]; exact hl
    refine ⟨_, rfl, a, _, rfl, .inl hS, _, _, rfl, rfl, .inl ⟨by omega, by omega⟩, _, _, rfl, rfl, ?_⟩
    refine ⟨fun σ' H' => ∃ (g m : Int) (x3 : Option V), σ' = [some (.ref a), some (.int g), some (.int m), x3] ∧ Same H H' ∧ 0 ≤ g ∧ 0 ≤ m ∧ m < 1999999871, ?_, fun σ' H' hM => ?_⟩
    · refine ⟨_, rfl, 63, rfl, a, _, rfl, hS, fun c nc => ?_⟩
      rw [cut_all _ hl']
      have S1 := same_new (o := .lst (ns.map V.int)) (Same.refl H) nc
      have hc : (upd H c (.lst (ns.map V.int))) c = some (.lst (ns.map V.int)) := upd_same
      generalize upd H c (.lst (ns.map V.int)) = H1 at S1 hc
      refine ⟨c, rfl, ⟨_, SqL.of hc⟩, for_list (K := K) (a := c) (xs := ns.map V.int) (fun i σ' H' => ∃ (g m : Int) (x3 : Option V), σ' = [some (.ref a), some (.int g), some (.int m), x3] ∧ H' = H1 ∧ 0 ≤ g ∧ Builtin.Int.intBits g ≤ 1048576 + 206 * i ∧ i ≤ 63 ∧ 0 ≤ m ∧ m < 1999999871) ⟨_, _, _, rfl, rfl, by omega, by decide, by omega, by omega, by omega⟩ (fun i σ' H' _ hP => ?_) (fun i v σ' H' hi hP => ?_) (fun σ' H' hP => ?_)⟩
      · obtain ⟨_, _, _, _, rfl, _⟩ := hP
        exact SqL.of hc
      · obtain ⟨g, m, x3, rfl, rfl, g0, gb, i63, m0, m1⟩ := hP
        have il := (List.getElem?_eq_some_iff.mp hi).1
        rw [List.getElem?_map] at hi
        cases e : ns[i]? with
        | none =>
          rw [e] at hi
          cases hi
        | some z =>
          rw [e] at hi
          have ev : v = .int z := (Option.some.inj hi).symm
          subst ev
          have zb := hb z (List.mem_of_getElem? e)
          refine ⟨_, rfl, z, rfl, _, _, rfl, rfl, ⟨by decide, by decide, by decide⟩, _, _, rfl, rfl, _, rfl, ?_⟩
          refine ite2 (fun e1 => ?_) (fun e1 => ?_)
          · refine ⟨_, rfl, g, 205, rfl, rfl, ⟨by decide, by omega⟩, _, rfl, z, rfl, _, _, rfl, rfl, ?_⟩
            refine ⟨_, _, _, rfl, rfl, ?_, grow_bits gb zb, by omega, m0, m1⟩
            have : 0 ≤ g * 2 ^ 205 := Int.mul_nonneg g0 (by decide)
            split <;> omega
          · refine ⟨_, rfl, _, _, rfl, rfl, .inl ⟨by omega, by omega⟩, _, rfl, _, _, rfl, rfl, _, _, rfl, rfl, (by show (0 : Int) < _; decide), ?_⟩
            exact ⟨_, _, _, rfl, rfl, g0, by omega, by omega, Int.emod_nonneg _ (by decide), Int.emod_lt_of_pos _ (by decide)⟩
      · obtain ⟨g, m, x3, rfl, rfl, g0, gb, i63, m0, m1⟩ := hP
        exact ⟨_, _, _, rfl, S1, g0, m0, m1⟩
    · obtain ⟨g, m, x3, rfl, S1, g0, m0, m1⟩ := hM
      refine ⟨_, rfl, _, rfl, (by show 3 ≤ sizeLine; decide), fun d nd => ?_⟩
      exact q _ d (same_new S1 nd) (S1.free nd) ⟨g, m, 0, upd_same, g0, by omega, by omega, m0, m1⟩
end
abbrev s_law_draw : Stmt := topS 11
abbrev N_law_draw : List Str := ["deck", "most", "found", "turn", "one"]
theorem sc_law_draw : FnScope N_law_draw ["deck", "most"] (defScope s_law_draw) := ⟨rfl, rfl, rfl, by decide +kernel, rfl, by decide +kernel, by decide +kernel⟩
section
variable {P : Program} {w : World} {K : PySem.W.Frag} {mg : Str → Option Value} {base : Heap}
def spDraw : Sp := fun vs H Q _ => ∃ (d : Addr) (n : Nat) (many : Int), vs = [.ref d, .int many] ∧ SeedAt H d n ∧ n < 100000 ∧ 0 < many ∧ many < 2 ^ 60 ∧ ∀ (H' : Hp) (r : Int), 0 ≤ r → r < many → SmX d H H' → SeedAt H' d (n + 1) → Q (.int r) H'
theorem ok_draw {f : Addr} {fd : FuncData} (F : Fun K "_law_draw" "_law_draw" s_law_draw f fd) (T : TxtG mg) : FnOk P w K mg base CX0 1 f fd ["deck", "most"] spDraw := by
  refine F.ok sc_law_draw (fun vs H Q E h => ?_) (fun cdv A outer s H vs Q E hr h => ?_)
  · obtain ⟨d, n, many, rfl, _⟩ := h
    rfl
  · obtain ⟨d, n, many, rfl, ⟨a, m, k, h1, a0, k0, k1, m0, m1⟩, hn, hm0, hm1, q⟩ := h
    refine ⟨_, (pss_cons (ps_asg (pe_op op_add (pe_ix ix_list (pv 0) pe_int (fun _ _ => rfl)) pe_int) (pg_sub (pv 0) pe_int set_list))
      (pss_cut (ps_if (pt_cmpR op_gt (pe_ix ix_list (pv 0) pe_int (fun _ _ => rfl)) pe_int (nomark _))
        (pss_cons (ps_set (i := 2) sc_law_draw.nd rfl (.inl rfl) (pe_op op_mod (pe_ix ix_list (pv 0) pe_int (fun _ _ => rfl)) (pv 1)))
        (pss_cons (ps_asg (pe_op op_fdivW (pe_ix ix_list (pv 0) pe_int (fun _ _ => rfl)) (pv 1)) (pg_sub (pv 0) pe_int set_list))
        (pss_one (ps_ret (pv 2)))))
        pss_nil)
      (pss_cons (ps_set (i := 3) sc_law_draw.nd rfl (.inl rfl) (pe_ix ix_list (pv 0) pe_int (fun _ _ => rfl)))
      (pss_cons (ps_set (i := 4) sc_law_draw.nd rfl (.inl rfl) (pe_op op_mod (pe_op op_add (pe_op op_add (pe_ix ix_list (pv 0) pe_int (fun _ _ => rfl)) (pe_op op_mul (pe_op op_mul pe_int (pv 3)) (pv 3))) (pe_op op_mul pe_int (pv 3))) pe_int))
      (pss_cons (ps_set (i := 4) sc_law_draw.nd rfl (.inl rfl) (pe_op op_mod (pe_op op_mul (pv 4) (pv 4)) pe_int))
      (pss_one (ps_ret (pe_op op_mod (pe_op op_fdiv (pe_op op_mod (pe_op op_add (pe_op op_mul (pv 4) pe_int) (pe_op op_mul (pv 3) pe_int)) pe_int) pe_int) (pv 1))))))))), ?_⟩
    refine ⟨_, rfl, d, _, 2, _, rfl, rfl, SqL.of h1, rfl, k, 1, rfl, rfl, ?_⟩
    refine ⟨_, rfl, d, _, 2, 2, rfl, rfl, h1, rfl, ?_⟩
    have h2 : (upd H d (.lst [.int a, .int m, .int (k + 1)])) d = some (.lst [.int a, .int m, .int (k + 1)]) := upd_same
    have S1 : SmX d H (upd H d (.lst [.int a, .int m, .int (k + 1)])) := (SmX.refl H).mut
    refine ⟨fun σ' H' => σ' = [some (.ref d), some (.int many), none, none, none] ∧ SmX d H H' ∧ H' d = some (.lst [.int a, .int m, .int (k + 1)]), ?_, fun σ' H1 hM => ?_⟩
    · refine ⟨_, rfl, d, _, 0, _, rfl, rfl, SqL.of h2, rfl, _, _, rfl, rfl, _, rfl, ?_⟩
      refine ite2 (fun e => ?_) (fun e => ⟨rfl, S1, h2⟩)
      refine ⟨_, rfl, d, _, 0, _, rfl, rfl, SqL.of h2, rfl, _, rfl, _, _, rfl, rfl, hm0, ?_⟩
      refine ⟨_, rfl, d, _, 0, _, rfl, rfl, SqL.of h2, rfl, _, rfl, _, _, rfl, rfl, wide_div (b := 60) hm0 (by omega) (by decide) (by decide), ?_⟩
      refine ⟨_, rfl, d, _, 0, 0, rfl, rfl, h2, rfl, ?_⟩
      refine ⟨_, rfl, ?_⟩
      exact q _ _ (Int.emod_nonneg _ (by omega)) (Int.emod_lt_of_pos _ hm0) S1.mut ⟨a / many, m, k + 1, upd_same, Int.ediv_nonneg a0 (by omega), by omega, by omega, m0, m1⟩
    · obtain ⟨rfl, SM, h3⟩ := hM
      refine ⟨_, rfl, d, _, 2, _, rfl, rfl, SqL.of h3, rfl, ?_⟩
      refine ⟨_, rfl, d, _, 1, _, rfl, rfl, SqL.of h3, rfl, _, rfl, _, _, rfl, rfl, .inl ⟨by omega, by omega⟩, _, rfl, _, _, rfl, rfl, .inr ⟨by omega, by omega⟩, _, _, rfl, rfl, _, rfl, _, _, rfl, rfl, .inl ⟨by omega, by omega⟩, _, _, rfl, rfl, _, _, rfl, rfl, (by show (0 : Int) < _; decide), ?_⟩
      generalize hx : (m + 70003 * (k + 1) * (k + 1) + 5003 * (k + 1)) % 2147483543 = x
      have x0 : 0 ≤ x := hx ▸ Int.emod_nonneg _ (by decide)
      have x1 : x < 2147483543 := hx ▸ Int.emod_lt_of_pos _ (by decide)
      refine ⟨_, rfl, _, rfl, _, _, rfl, rfl, .inl ⟨by omega, by omega⟩, _, _, rfl, rfl, (by show (0 : Int) < _; decide), ?_⟩
      generalize hy : x * x % 2147483497 = y
      have y0 : 0 ≤ y := hy ▸ Int.emod_nonneg _ (by decide)
      have y1 : y < 2147483497 := hy ▸ Int.emod_lt_of_pos _ (by decide)
      refine ⟨_, rfl, _, _, rfl, rfl, .inl ⟨by omega, by omega⟩, _, rfl, _, _, rfl, rfl, .inl ⟨by omega, by omega⟩, _, _, rfl, rfl, _, _, rfl, rfl, (by show (0 : Int) < _; decide), ?_⟩
      refine ⟨_, _, rfl, rfl, ⟨by decide, by decide⟩, _, rfl, _, _, rfl, rfl, hm0, ?_⟩
      exact q _ _ (Int.emod_nonneg _ (by omega)) (Int.emod_lt_of_pos _ hm0) SM ⟨a, m, k + 1, h3, a0, by omega, by omega, m0, m1⟩
end
end Far

namespace Far
open PySem PySem.Spec PyProof.Rows L2
/-! ### t[::-1], t a text -/
def revS (z : Str) : Str := ⟨z.cps.toList.reverse.toArray⟩
def tRevS (te : TE) : TE := fun σ H Q => te σ H fun x H1 => ∃ z, x = .str z ∧ z.length ≤ sizeLine ∧ Q (.str (revS z)) H1
theorem fm_congrS {α β : Type} {f g : α → Option β} : ∀ {l : List α}, (∀ x ∈ l, f x = g x) → l.filterMap f = l.filterMap g
  | [], _ => rfl
  | x :: r, h => by
    rw [List.filterMap_cons, List.filterMap_cons, h x (List.mem_cons_self ..), fm_congrS fun y hy => h y (List.mem_cons_of_mem _ hy)]
theorem back_allS {α : Type} : ∀ (l : List α), (List.range l.length).filterMap (fun m => l[l.length - 1 - m]?) = l.reverse := by
  intro l
  have h := PySem.W.krv_range l.length
  have e : (List.range l.length).filterMap (fun m => l[l.length - 1 - m]?) = ((List.range l.length).map fun k => l.length - 1 - k).filterMap (fun j => l[j]?) := by
    rw [List.filterMap_map]
    rfl
  rw [e, h, List.filterMap_reverse]
  congr 1
  have := PySem.W.krv_all l.toArray
  simpa using this
theorem revS_pick (z : Str) : (⟨((Builtin.Str.strSliceIndices none none (-1) z.length).filterMap (z.cps[·]?)).toArray⟩ : Str) = revS z := by
  unfold revS
  rw [picked_rev, List.filterMap_map, ← back_allS z.cps.toList]
  congr 2
  show _ = (List.range z.cps.toList.length).filterMap _
  rw [Array.length_toList]
  refine fm_congrS fun m hm => ?_
  rw [Array.getElem?_toList]
  rfl
theorem pe_revS {X : Cx} {e : Expr} {te : TE} {k : Nat} {p1 p2 p3 pos : Pos} (he : PE X e te) : PE X (.Subscript e (.Slice none none (some (.UnaryOp .USub (.Constant (.int 1) k p1) p2)) p3) pos) (tRevS te) := by
  refine ⟨fun pins s σ H Q I h => ?_⟩
  refine Subscript_ (thn (he.run pins s σ H _ I h) fun v s1 ⟨x, H1, I1, r1, q1⟩ => ?_)
  obtain ⟨z, ex, hz, q⟩ := q1
  subst ex
  obtain ⟨t, rfl⟩ := r1
  have hst : PO X (some (.UnaryOp .USub (.Constant (.int 1) k p1) p2)) (tPart (tUn (rU fun i => .int (-i)) (tC (.int 1)))) := po_some (pe_un un_neg pe_int)
  refine wpAny_Slice (thn (po_none.run pins s1 σ H1 (fun o H2 => o = none ∧ H2 = H1) I1 ⟨rfl, rfl⟩) fun vl s2 ⟨l, H2, I2, pl, el, e2⟩ => ?_)
  subst el e2
  refine thn (po_none.run pins s2 σ H2 (fun o H3 => o = none ∧ H3 = H2) I2 ⟨rfl, rfl⟩) fun vu s3 ⟨u, H3, I3, pu, eu, e3⟩ => ?_
  subst eu e3
  refine thn (hst.run pins s3 σ H3 (fun o H4 => o = some (-1) ∧ H4 = H3) I3 ⟨1, rfl, -1, rfl, rfl, rfl⟩) fun vs s4 ⟨o, H4, I4, ps, eo, e4⟩ => ?_
  subst eo e4
  have I5 : Inv X pins σ H4 { s4 with heap := s4.heap.push { cls := .type "slice", data := .fields #[vl, vu, vs] } } := I4.kept (t' := s4.toks) fun b ob q => Heap.get?_push_of_some _ q
  obtain ⟨l, rfl, hl⟩ := IsPart.raw pl
  obtain ⟨u, rfl, hu⟩ := IsPart.raw pu
  obtain ⟨y, rfl, hy⟩ := IsPart.raw ps
  show wpAny (model X.prog X.w) X.A (subscriptTail e (.Slice none none (some (.UnaryOp .USub (.Constant (.int 1) k p1) p2)) p3) (.str z t) (.ref s4.heap.objs.size)) (EP X pins σ Q) X.xe _
  refine tail_any (ops := [.str z t, .ref s4.heap.objs.size]) (typeIs_str _ _ _) (F.slot_str_getitem.lookup) ?_ (by with_unfolding_all rfl)
  have hl' : l = none := by cases l with
    | none => rfl
    | some _ => cases hl
  have hu' : u = none := by cases u with
    | none => rfl
    | some _ => cases hu
  obtain ⟨⟨y1, y2⟩, rfl⟩ : ∃ p, y = some p := by cases y with
    | none => cases hy
    | some p => exact ⟨p, rfl⟩
  have hy' : y1 = -1 := by
    have := Option.some.inj hy
    first | exact this | exact this.symm
  subst hl' hu' hy'
  refine wpAny_getItem_str_slice (l := none) (u := none) (st := some (-1, y2)) ⟨_, Heap.get?_push_size _ rfl, rfl, rfl⟩ rfl ?_
  show Made.post (if ((-1 : Int) == 1 && (Builtin.Str.strSliceIndices none none (-1) z.length).length == z.length) = true then Made.val (.str z t)
    else Made.str ⟨((Builtin.Str.strSliceIndices none none (-1) z.length).filterMap (z.cps[·]?)).toArray⟩) (EP X pins σ Q) _
  rw [if_neg (by simp), revS_pick]
  refine ⟨?_, .str _, H4, I5.tok _, ⟨_, rfl⟩, q⟩
  show z.cps.toList.reverse.toArray.size ≤ sizeLine
  rw [List.size_toArray, List.length_reverse, Array.length_toList]
  exact hz
end Far

namespace Far
open PySem PySem.Spec PyProof.Rows L2
open C8 (pss_cut tCut)
open SX (S)
/-! ### lists without an item twice -/
theorem nodup_sub_len {α : Type} [DecidableEq α] : ∀ (l m : List α), l.Nodup → (∀ x ∈ l, x ∈ m) → l.length ≤ m.length
  | [], _, _, _ => Nat.zero_le _
  | a :: r, m, h, hs => by
    obtain ⟨h1, h2⟩ := List.nodup_cons.mp h
    have ha : a ∈ m := hs a (List.mem_cons.mpr (.inl rfl))
    have ih := nodup_sub_len r (m.erase a) h2 fun x hx => by
      have ne : x ≠ a := fun e => h1 (e ▸ hx)
      exact (List.mem_erase_of_ne ne).mpr (hs x (List.mem_cons.mpr (.inr hx)))
    have hl := List.length_erase_of_mem ha
    have hp : 0 < m.length := List.length_pos_of_mem ha
    rw [List.length_cons]
    omega
theorem nd_snoc' {α : Type} {l : List α} {x : α} (h : l.Nodup) (hx : x ∉ l) : (l ++ [x]).Nodup := by
  rw [List.nodup_append]
  exact ⟨h, by simp, fun a ha b hb e => hx (by rw [← List.mem_singleton.mp hb, ← e]; exact ha)⟩

/-! ### texts as data -/
theorem strOk_S {l : List Nat} (h : NameOk l) : PyData.strOk (S l) = true := by
  show (l.toArray.all (· < 0x110000)) = true
  rw [← Array.all_toList, List.all_eq_true]
  intro c hc
  have := h.2.2 c hc
  exact decide_eq_true (by omega)
theorem inV_strs (l : List Nat) (ls : List (List Nat)) : inV (.str (S l)) ((ls.map S).map V.str) = decide (l ∈ ls) := by
  induction ls with
  | nil => rfl
  | cons a r ih =>
    show (S a == S l || inV (.str (S l)) ((r.map S).map V.str)) = _
    rw [ih, SX.S_beq_eq]
    by_cases e : a = l
    · subst e
      simp
    · have : l ≠ a := fun z => e z.symm
      simp [e, this]
theorem flat_strs (ls : List (List Nat)) : ((ls.map S).map V.str).all flatV = true := by
  induction ls with
  | nil => rfl
  | cons a r ih => exact ih
theorem strs_at {ls : List (List Nat)} {v : V} (h : v ∈ (ls.map S).map V.str) : ∃ l ∈ ls, v = .str (S l) := by
  obtain ⟨z, hz, rfl⟩ := List.mem_map.mp h
  obtain ⟨l, hl, rfl⟩ := List.mem_map.mp hz
  exact ⟨l, hl, rfl⟩
theorem dp_strs (K : PySem.W.Frag) (H : Hp) : ∀ ls : List (List Nat), DpAll K H ((ls.map S).map V.str) (ls.map fun l => PyData.str (S l))
  | [] => .nil
  | l :: r => .cons (.str _) (dp_strs K H r)
theorem lay_strs : ∀ {ls : List (List Nat)}, (∀ l ∈ ls, NameOk l) → PyData.canLayAll0 (ls.map fun l => PyData.str (S l)) = true
  | [], _ => rfl
  | l :: r, h => by
    show (PyData.strOk (S l) && PyData.canLayAll0 (r.map fun l => PyData.str (S l))) = true
    rw [strOk_S (h l (List.mem_cons.mpr (.inl rfl))), lay_strs fun x hx => h x (List.mem_cons.mpr (.inr hx))]
    rfl
theorem dep_strs : ∀ ls : List (List Nat), PyData.depthAll (ls.map fun l => PyData.str (S l)) = 0
  | [] => rfl
  | l :: r => by
    show max 0 (PyData.depthAll (r.map fun l => PyData.str (S l))) = 0
    rw [dep_strs r]
    rfl
theorem shaped_strs {ls : List (List Nat)} (h : ∀ l ∈ ls, NameOk l) : SeqAt.shaped (.list (ls.map fun l => PyData.str (S l))) = true := by
  show (PyData.canLayAll0 (ls.map fun l => PyData.str (S l)) && decide (PyData.depthAll (ls.map fun l => PyData.str (S l)) + 1 ≤ 64)) = true
  rw [lay_strs h, dep_strs]
  rfl

/-! ### names made otherwise -/
abbrev abc : Str := "abcdefghijklmnopqrstuvwxyz"
theorem abc_at : ∀ k : _root_.Fin 26, atI abc.cps.toList ((k.val : Nat) : Int) = some (97 + k.val) := by decide +kernel
theorem abc_ok : ∀ c ∈ abc.cps.toList, 97 ≤ c ∧ c ≤ 122 := by decide +kernel
theorem abc_len : abc.cps.toList.length = 26 := by decide +kernel
def cand (j : Nat) : List Nat := [97 + j / 26] ++ [97 + j % 26]
theorem cand_inj {i j : Nat} (h : cand i = cand j) : i = j := by
  unfold cand at h
  simp at h
  omega
theorem cand_ok {j : Nat} (hj : j < 600) : NameOk (cand j) := by
  refine ⟨by simp [cand], by simp [cand], fun c hc => ?_⟩
  unfold cand at hc
  simp at hc
  omega
/-- of the names tried so far all but the last are found already -/
structure Tried (ls : List (List Nat)) (t : Nat) (l : List Nat) : Prop where
  ok : NameOk l
  last : t ≠ 0 → l = cand (t - 1)
  old : ∀ j, j + 1 < t → cand j ∈ ls
theorem Tried.lt {ls : List (List Nat)} {t : Nat} {l : List Nat} (h : Tried ls t l) (hl : l ∈ ls) : t ≤ ls.length := by
  have sub : ∀ x ∈ (List.range t).map cand, x ∈ ls := fun x hx => by
    obtain ⟨j, hj, rfl⟩ := List.mem_map.mp hx
    have hj := List.mem_range.mp hj
    by_cases e : j + 1 < t
    · exact h.old j e
    · have e2 : j = t - 1 := by omega
      rw [e2, ← h.last (by omega)]
      exact hl
  have nd : ((List.range t).map cand).Nodup := by
    rw [List.Nodup, List.pairwise_map]
    exact (List.nodup_range (n := t)).imp fun ne e => ne (cand_inj e)
  have := nodup_sub_len _ ls nd sub
  rw [List.length_map, List.length_range] at this
  exact this
theorem Tried.next {ls : List (List Nat)} {t : Nat} {l : List Nat} (h : Tried ls t l) (hl : l ∈ ls) (h30 : ls.length < 100) : Tried ls (t + 1) (cand t) := by
  have hlt := h.lt hl
  refine ⟨cand_ok (by omega), fun _ => rfl, fun j hj => ?_⟩
  by_cases e : j + 1 < t
  · exact h.old j e
  · have e2 : j = t - 1 := by omega
    rw [e2, ← h.last (by omega)]
    exact hl
theorem revS_S (l : List Nat) : revS (S l) = S l.reverse := by
  show (⟨(l.toArray.toList.reverse).toArray⟩ : Str) = _
  rw [List.toList_toArray]
def NamesAt (H : Hp) (p : Addr) (ls : List (List Nat)) : Prop := H p = some (.lst ((ls.map S).map V.str))
end Far

namespace Far
open PySem PySem.Spec PyProof.Rows L2
/-! ### xs[::e], xs a list, e tells 1 or -1 -/
def tStepL (K : PySem.W.Frag) (te ts : TE) : TE := fun σ H Q => te σ H fun x H1 => tPart ts σ H1 fun o H2 => ∃ a xs i, x = .ref a ∧ o = some i ∧ (i = 1 ∨ i = -1) ∧ SqL K H2 a xs ∧ ∀ p, H2 p = none → Q (.ref p) (upd H2 p (.lst (if i = 1 then xs else xs.reverse)))
theorem range_some {α : Type} : ∀ (l : List α), (List.range l.length).filterMap (fun m => l[m]?) = l
  | [] => rfl
  | a :: r => by
    rw [List.length_cons, List.range_succ_eq_map, List.filterMap_cons]
    show a :: ((List.range r.length).map Nat.succ).filterMap _ = _
    rw [List.filterMap_map]
    congr 1
    exact range_some r
theorem pick_one (items : Array Value) : slicePick items none none (some 1) = items := by
  have h := slicePick_cut items.toList none none
  have e : slicePick items none none (some 1) = slicePick items none none none := by rfl
  rw [e]
  rw [Array.toArray_toList] at h
  rw [h]
  have e1 : HT.sIx items.toList.length items.toList.length none = items.toList.length := rfl
  have e2 : HT.sIx items.toList.length 0 none = 0 := rfl
  rw [e1, e2, List.drop_zero, Nat.sub_zero, List.take_length, Array.toArray_toList]
theorem pe_stepL {X : Cx} {e st : Expr} {te ts : TE} {p3 pos : Pos} (he : PE X e te) (hs : PE X st ts) : PE X (.Subscript e (.Slice none none (some st) p3) pos) (tStepL X.K te ts) := by
  refine ⟨fun pins s σ H Q I h => ?_⟩
  refine Subscript_ (thn (he.run pins s σ H _ I h) fun v s1 ⟨x, H1, I1, r1, q1⟩ => ?_)
  have hst : PO X (some st) (tPart ts) := po_some hs
  refine wpAny_Slice (thn (po_none.run pins s1 σ H1 (fun o H2 => o = none ∧ H2 = H1) I1 ⟨rfl, rfl⟩) fun vl s2 ⟨l, H2, I2, pl, el, e2⟩ => ?_)
  subst el e2
  refine thn (po_none.run pins s2 σ H2 (fun o H3 => o = none ∧ H3 = H2) I2 ⟨rfl, rfl⟩) fun vu s3 ⟨u, H3, I3, pu, eu, e3⟩ => ?_
  subst eu e3
  refine thn (hst.run pins s3 σ H3 _ I3 q1) fun vs s4 ⟨o, H4, I4, ps, q2⟩ => ?_
  obtain ⟨a, xs, i, ex, eo, hi, hx, q⟩ := q2
  subst ex eo
  cases r1
  have I5 : Inv X pins σ H4 { s4 with heap := s4.heap.push { cls := .type "slice", data := .fields #[vl, vu, vs] } } := I4.kept (t' := s4.toks) fun b ob q => Heap.get?_push_of_some _ q
  obtain ⟨its, r, ht, hz⟩ := I5.list hx
  have hlen := r.length
  show wpAny (model X.prog X.w) X.A (subscriptTail e (.Slice none none (some st) p3) (.ref a) (.ref s4.heap.objs.size)) (EP X pins σ Q) X.xe { s4 with heap := s4.heap.push { cls := .type "slice", data := .fields #[vl, vu, vs] } }
  refine tail_any (ops := [.ref a, .ref s4.heap.objs.size]) ht.isList.typeIs (PySem.slot_list_getitem.lookup) ?_ (by with_unfolding_all rfl)
  refine wpAny_getItem_list_slice ht.isList (Heap.IsSliceOf.new _ vl vu vs) pl pu ps (by rcases hi with z | z <;> rw [z] <;> decide) ?_ (by rw [List.size_toArray]; omega)
  have q := q _ (I5.hok.fresh (Nat.le_refl _))
  rcases hi with z | z
  · subst z
    rw [if_pos rfl] at q
    rw [pick_one]
    refine ⟨.ref _, _, I5.laid (t' := s4.toks) (o := .lst xs) (fun b ob q => Heap.get?_push_of_some _ q) (Nat.le_refl _) ?_, rfl, q⟩
    exact ⟨hz, _, 0, r, Heap.get?_push_size _ rfl⟩
  · subst z
    rw [if_neg (by decide)] at q
    rw [PySem.W.krv_pick]
    refine ⟨.ref _, _, I5.laid (t' := s4.toks) (o := .lst xs.reverse) (fun b ob q => Heap.get?_push_of_some _ q) (Nat.le_refl _) ?_, rfl, q⟩
    exact ⟨by rw [List.length_reverse]; exact hz, _, 0, r.reverse, Heap.get?_push_size _ rfl⟩
end Far

namespace Far
open PySem PySem.Spec PyProof.Rows L2
open SX (S)
abbrev Nm := List Nat
abbrev Tie := Nm × Nm × Int
/-- places in an order in which each has one tie to those ahead; the ties in that order -/
inductive Grown : List Nm → List Tie → Prop
  | one (a : Nm) : Grown [a] []
  | leaf {os : List Nm} {es : List Tie} {a b : Nm} {k : Int} {e : Tie} : Grown os es → a ∈ os → b ∉ os → e = (a, b, k) ∨ e = (b, a, k) → 1 ≤ k → k ≤ 1000000 → Grown (os ++ [b]) (es ++ [e])
def IsTree (pl : List Nm) (ts : List Tie) : Prop := ∃ os es, Grown os es ∧ pl.Perm os ∧ ts.Perm es
theorem Grown.nodup {os : List Nm} {es : List Tie} (h : Grown os es) : os.Nodup := by
  induction h with
  | one a => simp
  | leaf _ _ hb _ _ _ ih => exact nd_snoc' ih hb
theorem Grown.len {os : List Nm} {es : List Tie} (h : Grown os es) : os.length = es.length + 1 := by
  induction h with
  | one a => rfl
  | leaf _ _ _ _ _ _ ih => rw [List.length_append, List.length_append, ih]; rfl
theorem Grown.ties {os : List Nm} {es : List Tie} (h : Grown os es) : ∀ e ∈ es, e.1 ∈ os ∧ e.2.1 ∈ os ∧ 1 ≤ e.2.2 ∧ e.2.2 ≤ 1000000 := by
  induction h with
  | one a => simp
  | leaf h1 ha hb he k1 k2 ih =>
    intro e hm
    rcases List.mem_append.mp hm with z | z
    · obtain ⟨a1, a2, a3⟩ := ih e z
      exact ⟨List.mem_append_left _ a1, List.mem_append_left _ a2, a3⟩
    · rw [List.mem_singleton.mp z]
      rcases he with e | e <;> rw [e] <;> simp [ha, k1, k2]
theorem IsTree.nodup {pl : List Nm} {ts : List Tie} (h : IsTree pl ts) : pl.Nodup := by
  obtain ⟨os, es, g, p, _⟩ := h
  exact p.nodup_iff.mpr g.nodup
theorem IsTree.len {pl : List Nm} {ts : List Tie} (h : IsTree pl ts) : pl.length = ts.length + 1 := by
  obtain ⟨os, es, g, p, q⟩ := h
  rw [p.length_eq, q.length_eq]
  exact g.len
theorem IsTree.ties {pl : List Nm} {ts : List Tie} (h : IsTree pl ts) : ∀ e ∈ ts, e.1 ∈ pl ∧ e.2.1 ∈ pl ∧ 1 ≤ e.2.2 ∧ e.2.2 ≤ 1000000 := by
  obtain ⟨os, es, g, p, q⟩ := h
  intro e he
  obtain ⟨a, b, c⟩ := g.ties e (q.mem_iff.mp he)
  exact ⟨p.mem_iff.mpr a, p.mem_iff.mpr b, c⟩

/-! ### as data -/
def tieD (t : Tie) : PyData := .tuple [.str (S t.1), .str (S t.2.1), .int t.2.2]
def strD (l : Nm) : PyData := .str (S l)
def treeD (pl : List Nm) (ts : List Tie) : PyData := .tuple [.tuple (pl.map strD), .tuple (ts.map tieD)]
/-- tuples stand as they stood -/
structure TK (H H' : Hp) : Prop where
  tup : ∀ b xs, H b = some (.tup xs) → H' b = some (.tup xs)
  frz : ∀ b o xs, H b = some (.frz o (.tup xs)) → H' b = some (.frz o (.tup xs))
theorem TK.refl (H : Hp) : TK H H := ⟨fun _ _ h => h, fun _ _ _ h => h⟩
theorem TK.trans {H H1 H2 : Hp} (a : TK H H1) (b : TK H1 H2) : TK H H2 := ⟨fun x o h => b.tup x o (a.tup x o h), fun x o u h => b.frz x o u (a.frz x o u h)⟩
theorem TK.of {H H' : Hp} (a : Same H H') : TK H H' := ⟨fun x _ h => a x _ h, fun x _ _ h => a x _ h⟩
theorem TK.new {H : Hp} {p : Addr} {o : HO} (n : H p = none) : TK H (upd H p o) :=
  ⟨fun b xs h => by rw [upd_ne (ne_of_none h n)]; exact h, fun b u xs h => by rw [upd_ne (ne_of_none h n)]; exact h⟩
theorem TK.mut {H : Hp} {p : Addr} {o : HO} {xs : List V} (n : H p = some (.lst xs)) : TK H (upd H p o) :=
  ⟨fun b ys h => by rw [upd_ne (ne_of h n (by intro z; cases z))]; exact h, fun b u ys h => by rw [upd_ne (ne_of h n (by intro z; cases z))]; exact h⟩
theorem SmX.tk {d : Addr} {H H' : Hp} {xs : List V} (s : SmX d H H') (n : H d = some (.lst xs)) : TK H H' :=
  ⟨fun b ys h => s b _ (ne_of h n (by intro z; cases z)) h, fun b u ys h => s b _ (ne_of h n (by intro z; cases z)) h⟩
theorem DeckAt.lst {H : Hp} {d c : Addr} {n : Nat} (h : DeckAt H d c n) : ∃ xs, H d = some (.lst xs) := by
  obtain ⟨_, _, _, _, _, h1, _⟩ := h
  exact ⟨_, h1⟩
theorem DeckAt.tk {H H' : Hp} {d c : Addr} {n : Nat} (h : DeckAt H d c n) (s : SmX d H H') : TK H H' := by
  obtain ⟨xs, e⟩ := h.lst
  exact s.tk e
mutual
/-- a value that never changes: none, truths, numbers, texts, tuples of such -/
inductive Dt (H : Hp) : V → PyData → Prop
  | non : Dt H .non .none
  | bl (b : Bool) : Dt H (.bl b) (.bool b)
  | int (i : Int) : Dt H (.int i) (.int i)
  | str (x : Str) : Dt H (.str x) (.str x)
  | tup {a : Addr} {xs : List V} {ds : List PyData} : H a = some (.tup xs) → DtAll H xs ds → Dt H (.ref a) (.tuple ds)
  /-- a tuple of texts that is known to have no dict of its own -/
  | tupZ {a : Addr} {pl : List Nm} {ds : List PyData} {o : Obj} : ds = pl.map strD → pl ≠ [] → o.dict = none → H a = some (.frz o (.tup ((pl.map S).map V.str))) → Dt H (.ref a) (.tuple ds)
inductive DtAll (H : Hp) : List V → List PyData → Prop
  | nil : DtAll H [] []
  | cons {v : V} {vs : List V} {d : PyData} {ds : List PyData} : Dt H v d → DtAll H vs ds → DtAll H (v :: vs) (d :: ds)
end
mutual
theorem Dt.keep {H H' : Hp} (t : TK H H') : ∀ {v : V} {d : PyData}, Dt H v d → Dt H' v d
  | _, _, .non => .non
  | _, _, .bl b => .bl b
  | _, _, .int i => .int i
  | _, _, .str x => .str x
  | _, _, .tup a b => .tup (t.tup _ _ a) (DtAll.keep t b)
  | _, _, .tupZ e n d a => .tupZ e n d (t.frz _ _ _ a)
theorem DtAll.keep {H H' : Hp} (t : TK H H') : ∀ {vs : List V} {ds : List PyData}, DtAll H vs ds → DtAll H' vs ds
  | _, _, .nil => .nil
  | _, _, .cons a b => .cons (Dt.keep t a) (DtAll.keep t b)
end
theorem dpa_strs {K : PySem.W.Frag} (H : Hp) : ∀ ls : List Nm, DpAll K H ((ls.map S).map V.str) (ls.map strD)
  | [] => .nil
  | _ :: r => .cons (.str _) (dpa_strs H r)
mutual
theorem Dt.dp {K : PySem.W.Frag} {H : Hp} : ∀ {v : V} {d : PyData}, Dt H v d → Dp K H v d
  | _, _, .non => .non
  | _, _, .bl b => .bl b
  | _, _, .int i => .int i
  | _, _, .str x => .str x
  | _, _, .tup a b => .tup (.inl (.inl a)) (DtAll.dp b)
  | _, _, .tupZ (pl := pl) (o := o) e _ _ a => e ▸ .tup (.inl (.inr ⟨o, a⟩)) (dpa_strs H pl)
theorem DtAll.dp {K : PySem.W.Frag} {H : Hp} : ∀ {vs : List V} {ds : List PyData}, DtAll H vs ds → DpAll K H vs ds
  | _, _, .nil => .nil
  | _, _, .cons a b => .cons (Dt.dp a) (DtAll.dp b)
end
theorem DtAll.len {H : Hp} : ∀ {vs : List V} {ds : List PyData}, DtAll H vs ds → vs.length = ds.length
  | _, _, .nil => rfl
  | _, _, .cons _ t => congrArg (· + 1) (DtAll.len t)
theorem DtAll.app {H : Hp} : ∀ {vs ws : List V} {ds es : List PyData}, DtAll H vs ds → DtAll H ws es → DtAll H (vs ++ ws) (ds ++ es)
  | _, _, _, _, .nil, h => h
  | _, _, _, _, .cons a t, h => .cons a (DtAll.app t h)
theorem DtAll.get {H : Hp} : ∀ {vs : List V} {ds : List PyData} {i : Nat} {v : V}, DtAll H vs ds → vs[i]? = some v → ∃ d, ds[i]? = some d ∧ Dt H v d
  | _, _, _, _, .nil, e => by simp at e
  | _, _, 0, _, .cons a _, e => by
    simp at e
    subst e
    exact ⟨_, rfl, a⟩
  | _, _, i + 1, _, .cons _ t, e => by
    obtain ⟨d, h1, h2⟩ := DtAll.get (i := i) t (by simpa using e)
    exact ⟨d, by simpa using h1, h2⟩
theorem DtAll.del {H : Hp} : ∀ {vs : List V} {ds : List PyData} (i : Nat), DtAll H vs ds → DtAll H (vs.eraseIdx i) (ds.eraseIdx i)
  | _, _, _, .nil => .nil
  | _, _, 0, .cons _ t => t
  | _, _, i + 1, .cons a t => .cons a (DtAll.del i t)
theorem DtAll.strs {H : Hp} : ∀ {ls : List Nm} {vs : List V}, DtAll H vs (ls.map strD) → vs = (ls.map S).map V.str
  | [], _, .nil => rfl
  | l :: r, _, .cons (.str _) t => by
    rw [DtAll.strs (ls := r) t]
    rfl
theorem dt_strs (H : Hp) : ∀ ls : List Nm, DtAll H ((ls.map S).map V.str) (ls.map strD)
  | [] => .nil
  | _ :: r => .cons (.str _) (dt_strs H r)
theorem perm_erase {α : Type} : ∀ {l : List α} {k : Nat} {x : α}, l[k]? = some x → (x :: l.eraseIdx k).Perm l
  | [], _, _, e => by simp at e
  | a :: r, 0, x, e => by
    simp at e
    subst e
    exact .refl _
  | a :: r, k + 1, x, e => by
    have ih := perm_erase (l := r) (k := k) (x := x) (by simpa using e)
    show (x :: a :: r.eraseIdx k).Perm (a :: r)
    exact (List.Perm.swap a x _).trans (ih.cons a)
theorem perm_pick {α : Type} {l1 l2 m : List α} {x : α} {k : Nat} (h : (l1 ++ l2).Perm m) (e : l2[k]? = some x) : ((l1 ++ [x]) ++ l2.eraseIdx k).Perm m := by
  rw [List.append_assoc]
  exact ((List.Perm.refl l1).append (perm_erase e)).trans h
theorem map_erase {α β : Type} (f : α → β) : ∀ (l : List α) (k : Nat), (l.map f).eraseIdx k = (l.eraseIdx k).map f
  | [], _ => rfl
  | _ :: _, 0 => rfl
  | a :: r, k + 1 => congrArg (f a :: ·) (map_erase f r k)
/-- a tuple of texts: of this heap, or one known through and through -/
def TupAt (H : Hp) (a : Addr) (xs : List V) : Prop := H a = some (.tup xs) ∨ ∃ o : Obj, o.dict = none ∧ H a = some (.frz o (.tup xs))
theorem TupAt.sq {K : PySem.W.Frag} {H : Hp} {a : Addr} {xs : List V} (h : TupAt H a xs) : SqT K H a xs := h.elim (fun h => .inl (.inl h)) fun ⟨o, _, h⟩ => .inl (.inr ⟨o, h⟩)
theorem TupAt.ne {H : Hp} {a p : Addr} {xs : List V} (h : TupAt H a xs) (n : H p = none) : a ≠ p := h.elim (fun h => ne_of_none h n) fun ⟨_, _, h⟩ => ne_of_none h n
theorem TupAt.same {H H' : Hp} {a : Addr} {xs : List V} (h : TupAt H a xs) (s : Same H H') : TupAt H' a xs := h.elim (fun h => .inl (s _ _ h)) fun ⟨o, d, h⟩ => .inr ⟨o, d, s _ _ h⟩
theorem TupAt.upd {H : Hp} {a p : Addr} {xs : List V} {o : HO} (h : TupAt H a xs) (n : H p = none) : TupAt (L2.upd H p o) a xs := h.elim (fun q => .inl (by rw [upd_ne (ne_of_none q n)]; exact q)) fun ⟨u, d, q⟩ => .inr ⟨u, d, by rw [upd_ne (ne_of_none q n)]; exact q⟩
theorem TupAt.updN {H : Hp} {a p : Addr} {xs : List V} {o : HO} (h : TupAt H a xs) (n : a ≠ p) : TupAt (L2.upd H p o) a xs := h.elim (fun q => .inl (by rw [upd_ne n]; exact q)) fun ⟨u, d, q⟩ => .inr ⟨u, d, by rw [upd_ne n]; exact q⟩
end Far

namespace Far
open PySem
open SX (S)
/-! ### ways in a tree -/
def Adj (ts : List Tie) (u v : Nm) (k : Int) : Prop := (u, v, k) ∈ ts ∨ (v, u, k) ∈ ts
theorem Adj.symm {ts : List Tie} {u v : Nm} {k : Int} (h : Adj ts u v k) : Adj ts v u k := h.elim .inr .inl
theorem Adj.perm {ts ts' : List Tie} {u v : Nm} {k : Int} (p : ts.Perm ts') (h : Adj ts u v k) : Adj ts' u v k := h.elim (fun h => .inl (p.mem_iff.mp h)) fun h => .inr (p.mem_iff.mp h)
/-- from u to v, no place twice: the places, the length -/
inductive Way (ts : List Tie) (u : Nm) : Nm → List Nm → Int → Prop
  | nil : Way ts u u [u] 0
  | snoc {v w : Nm} {p : List Nm} {L k : Int} : Way ts u v p L → Adj ts v w k → w ∉ p → Way ts u w (p ++ [w]) (L + k)
theorem Way.perm {ts ts' : List Tie} (q : ts.Perm ts') {u v : Nm} {p : List Nm} {L : Int} (h : Way ts u v p L) : Way ts' u v p L := by
  induction h with
  | nil => exact .nil
  | snoc _ ha hn ih => exact .snoc ih (ha.perm q) hn
theorem Way.last {ts : List Tie} {u v : Nm} {p : List Nm} {L : Int} (h : Way ts u v p L) : ∃ q, p = q ++ [v] := by
  cases h with
  | nil => exact ⟨[], rfl⟩
  | snoc _ _ _ => exact ⟨_, rfl⟩
theorem Way.mem {ts : List Tie} {u v : Nm} {p : List Nm} {L : Int} (h : Way ts u v p L) : v ∈ p := by
  obtain ⟨q, rfl⟩ := h.last
  simp
theorem Way.first {ts : List Tie} {u v : Nm} {p : List Nm} {L : Int} (h : Way ts u v p L) : ∃ q, p = u :: q := by
  induction h with
  | nil => exact ⟨[], rfl⟩
  | snoc _ _ _ ih =>
    obtain ⟨q, rfl⟩ := ih
    exact ⟨q ++ [_], rfl⟩
theorem Way.nodup {ts : List Tie} {u v : Nm} {p : List Nm} {L : Int} (h : Way ts u v p L) : p.Nodup := by
  induction h with
  | nil => simp
  | snoc _ _ hn ih => exact nd_snoc' ih hn
theorem Way.inside {ts : List Tie} {pl : List Nm} (ht : ∀ e ∈ ts, e.1 ∈ pl ∧ e.2.1 ∈ pl) {u v : Nm} {p : List Nm} {L : Int} (h : Way ts u v p L) (hu : u ∈ pl) : ∀ x ∈ p, x ∈ pl := by
  induction h with
  | nil =>
    intro x hx
    rw [List.mem_singleton.mp hx]
    exact hu
  | snoc _ ha _ ih =>
    intro x hx
    rcases List.mem_append.mp hx with z | z
    · exact ih x z
    · rw [List.mem_singleton.mp z]
      rcases ha with h | h
      · exact (ht _ h).2
      · exact (ht _ h).1
/-- a place on the way is come to by a way of its own -/
theorem Way.upto {ts : List Tie} {u v x : Nm} {p : List Nm} {L : Int} (h : Way ts u v p L) (hx : x ∈ p) : ∃ q M, Way ts u x q M ∧ ∀ y ∈ q, y ∈ p := by
  induction h with
  | nil =>
    rw [List.mem_singleton.mp hx]
    exact ⟨_, _, .nil, fun _ h => h⟩
  | snoc h1 ha hn ih =>
    rcases List.mem_append.mp hx with z | z
    · obtain ⟨q, M, hq, hs⟩ := ih z
      exact ⟨q, M, hq, fun y hy => List.mem_append_left _ (hs y hy)⟩
    · rw [List.mem_singleton.mp z]
      exact ⟨_, _, .snoc h1 ha hn, fun _ h => h⟩
section leaf
variable {os : List Nm} {es : List Tie} {a b : Nm} {k : Int} {e0 : Tie}
theorem adj_new (hb : ∀ e ∈ es, e.1 ≠ b ∧ e.2.1 ≠ b) (ab : a ≠ b) (he : e0 = (a, b, k) ∨ e0 = (b, a, k)) {x y : Nm} {m : Int} (h : Adj (es ++ [e0]) x y m) :
    (Adj es x y m ∧ x ≠ b ∧ y ≠ b) ∨ (x = a ∧ y = b ∧ m = k) ∨ (x = b ∧ y = a ∧ m = k) := by
  rcases h with h | h <;> rcases List.mem_append.mp h with z | z
  · exact .inl ⟨.inl z, hb _ z⟩
  · have z := List.mem_singleton.mp z
    rcases he with e | e <;> rw [e] at z <;> cases z
    · exact .inr (.inl ⟨rfl, rfl, rfl⟩)
    · exact .inr (.inr ⟨rfl, rfl, rfl⟩)
  · exact .inl ⟨.inr z, (hb _ z).2, (hb _ z).1⟩
  · have z := List.mem_singleton.mp z
    rcases he with e | e <;> rw [e] at z <;> cases z
    · exact .inr (.inr ⟨rfl, rfl, rfl⟩)
    · exact .inr (.inl ⟨rfl, rfl, rfl⟩)
theorem way_old (hb : ∀ e ∈ es, e.1 ≠ b ∧ e.2.1 ≠ b) (ab : a ≠ b) (he : e0 = (a, b, k) ∨ e0 = (b, a, k)) {u v : Nm} {p : List Nm} {L : Int} (h : Way (es ++ [e0]) u v p L) (hu : u ≠ b) :
    (v ≠ b ∧ b ∉ p ∧ Way es u v p L) ∨ (v = b ∧ ∃ q M, p = q ++ [b] ∧ L = M + k ∧ Way es u a q M) := by
  induction h with
  | nil => exact .inl ⟨hu, fun z => hu (List.mem_singleton.mp z).symm, .nil⟩
  | @snoc v w p L m h1 ha hn ih =>
    rcases ih with ⟨hv, hbp, hw⟩ | ⟨hv, q, M, hp, _, hq⟩
    · rcases adj_new hb ab he ha with ⟨ha, _, wb⟩ | ⟨e1, e2, e3⟩ | ⟨e1, _, _⟩
      · refine .inl ⟨wb, fun z => ?_, .snoc hw ha hn⟩
        rcases List.mem_append.mp z with z | z
        · exact hbp z
        · exact wb (List.mem_singleton.mp z).symm
      · subst e1 e2 e3
        exact .inr ⟨rfl, p, L, rfl, rfl, hw⟩
      · exact absurd e1 hv
    · rcases adj_new hb ab he ha with ⟨_, vb, _⟩ | ⟨e1, _, _⟩ | ⟨_, e2, _⟩
      · exact absurd hv vb
      · exact absurd (e1.symm.trans hv) ab
      · refine absurd ?_ hn
        rw [e2, hp]
        exact List.mem_append_left _ hq.mem
theorem way_from (hb : ∀ e ∈ es, e.1 ≠ b ∧ e.2.1 ≠ b) (ab : a ≠ b) (he : e0 = (a, b, k) ∨ e0 = (b, a, k)) {v : Nm} {p : List Nm} {L : Int} (h : Way (es ++ [e0]) b v p L) :
    (v = b ∧ p = [b] ∧ L = 0) ∨ (v ≠ b ∧ ∃ q M, p = b :: q ∧ L = k + M ∧ Way es a v q M) := by
  induction h with
  | nil => exact .inl ⟨rfl, rfl, rfl⟩
  | @snoc v w p L m h1 ha hn ih =>
    rcases ih with ⟨hv, hp, hL⟩ | ⟨hv, q, M, hp, hL, hq⟩
    · rcases adj_new hb ab he ha with ⟨_, vb, _⟩ | ⟨e1, _, _⟩ | ⟨_, e2, e3⟩
      · exact absurd hv vb
      · exact absurd (e1.symm.trans hv) ab
      · subst e2 e3 hp hL
        exact .inr ⟨ab, [w], 0, rfl, by omega, .nil⟩
    · have wb : w ≠ b := fun z => hn (by rw [z, hp]; simp)
      rcases adj_new hb ab he ha with ⟨ha, _, _⟩ | ⟨_, e2, _⟩ | ⟨e1, _, _⟩
      · subst hp hL
        exact .inr ⟨wb, q ++ [w], M + m, rfl, by omega, .snoc hq ha fun z => hn (List.mem_cons.mpr (.inr z))⟩
      · exact absurd e2 wb
      · exact absurd e1 hv
end leaf
theorem Grown.one_way {os : List Nm} {es : List Tie} (g : Grown os es) : ∀ {u v : Nm} {p q : List Nm} {L M : Int}, Way es u v p L → Way es u v q M → p = q ∧ L = M := by
  induction g with
  | one a =>
    intro u v p q L M h1 h2
    cases h1 with
    | nil =>
      cases h2 with
      | nil => exact ⟨rfl, rfl⟩
      | snoc _ ha _ => rcases ha with h | h <;> cases h
    | snoc _ ha _ => rcases ha with h | h <;> cases h
  | @leaf os es a b k e0 g ha hbn he k1 k2 ih =>
    intro u v p q L M h1 h2
    have hb : ∀ e ∈ es, e.1 ≠ b ∧ e.2.1 ≠ b := fun e hm => by
      obtain ⟨i1, i2, _⟩ := g.ties e hm
      exact ⟨fun z => hbn (z ▸ i1), fun z => hbn (z ▸ i2)⟩
    have ab : a ≠ b := fun z => hbn (z ▸ ha)
    by_cases hu : u = b
    · subst hu
      rcases way_from hb ab he h1 with ⟨v1, p1, l1⟩ | ⟨v1, p1, l1, e1, e2, w1⟩ <;> rcases way_from hb ab he h2 with ⟨v2, p2, l2⟩ | ⟨v2, p2, l2, e3, e4, w2⟩
      · exact ⟨p1.trans p2.symm, l1.trans l2.symm⟩
      · exact absurd v1 v2
      · exact absurd v2 v1
      · obtain ⟨z1, z2⟩ := ih w1 w2
        rw [e1, e2, e3, e4, z1, z2]
        exact ⟨rfl, rfl⟩
    · rcases way_old hb ab he h1 hu with ⟨v1, _, w1⟩ | ⟨v1, p1, l1, e1, e2, w1⟩ <;> rcases way_old hb ab he h2 hu with ⟨v2, _, w2⟩ | ⟨v2, p2, l2, e3, e4, w2⟩
      · exact ih w1 w2
      · exact absurd v2 v1
      · exact absurd v1 v2
      · obtain ⟨z1, z2⟩ := ih w1 w2
        rw [e1, e2, e3, e4, z1, z2]
        exact ⟨rfl, rfl⟩
theorem IsTree.one_way {pl : List Nm} {ts : List Tie} (h : IsTree pl ts) {u v : Nm} {p q : List Nm} {L M : Int} (h1 : Way ts u v p L) (h2 : Way ts u v q M) : p = q ∧ L = M := by
  obtain ⟨os, es, g, _, p2⟩ := h
  exact g.one_way (h1.perm p2) (h2.perm p2)
/-- what is closed by ties and holds one place holds all -/
theorem Grown.all_of {os : List Nm} {es : List Tie} (g : Grown os es) : ∀ {F : Nm → Prop}, (∃ u ∈ os, F u) → (∀ x y k, F x → Adj es x y k → F y) → ∀ v ∈ os, F v := by
  induction g with
  | one a =>
    intro F ⟨u, hu, hF⟩ _ v hv
    rw [List.mem_singleton.mp hv, ← List.mem_singleton.mp hu]
    exact hF
  | @leaf os es a b k e0 g ha hbn he k1 k2 ih =>
    intro F ⟨u, hu, hF⟩ cl v hv
    have cab : Adj (es ++ [e0]) a b k := by
      rcases he with e | e
      · exact .inl (by rw [e]; simp)
      · exact .inr (by rw [e]; simp)
    have cl' : ∀ x y m, F x → Adj es x y m → F y := fun x y m hx h => cl x y m hx (h.elim (fun z => .inl (List.mem_append_left _ z)) fun z => .inr (List.mem_append_left _ z))
    have start : ∃ w ∈ os, F w := by
      rcases List.mem_append.mp hu with z | z
      · exact ⟨u, z, hF⟩
      · rw [List.mem_singleton.mp z] at hF
        exact ⟨a, ha, cl b a k hF cab.symm⟩
    have old := ih start cl'
    rcases List.mem_append.mp hv with z | z
    · exact old v z
    · rw [List.mem_singleton.mp z]
      exact cl a b k (old a ha) cab
theorem IsTree.all_of {pl : List Nm} {ts : List Tie} (h : IsTree pl ts) {F : Nm → Prop} {u : Nm} (hu : u ∈ pl) (hF : F u) (cl : ∀ x y k, F x → Adj ts x y k → F y) : ∀ v ∈ pl, F v := by
  obtain ⟨os, es, g, p1, p2⟩ := h
  intro v hv
  exact g.all_of ⟨u, p1.mem_iff.mp hu, hF⟩ (fun x y k hx ha => cl x y k hx (ha.perm p2.symm)) v (p1.mem_iff.mp hv)
theorem IsTree.way {pl : List Nm} {ts : List Tie} (h : IsTree pl ts) {u v : Nm} (hu : u ∈ pl) (hv : v ∈ pl) : ∃ p L, Way ts u v p L := by
  refine h.all_of (F := fun v => ∃ p L, Way ts u v p L) hu ⟨_, _, .nil⟩ (fun x y k ⟨p, L, hw⟩ ha => ?_) v hv
  by_cases hy : y ∈ p
  · obtain ⟨q, M, hq, _⟩ := hw.upto hy
    exact ⟨q, M, hq⟩
  · exact ⟨_, _, .snoc hw ha hy⟩
open Classical in
/-- the way and its length -/
noncomputable def wayOf (ts : List Tie) (u v : Nm) : List Nm × Int := if h : ∃ x : List Nm × Int, Way ts u v x.1 x.2 then h.choose else ([], 0)
noncomputable def path (ts : List Tie) (u v : Nm) : List Nm := (wayOf ts u v).1
noncomputable def dist (ts : List Tie) (u v : Nm) : Int := (wayOf ts u v).2
theorem IsTree.is_way {pl : List Nm} {ts : List Tie} (h : IsTree pl ts) {u v : Nm} {p : List Nm} {L : Int} (w : Way ts u v p L) : path ts u v = p ∧ dist ts u v = L := by
  have hx : ∃ x : List Nm × Int, Way ts u v x.1 x.2 := ⟨(p, L), w⟩
  unfold path dist wayOf
  rw [dif_pos hx]
  exact h.one_way hx.choose_spec w
theorem IsTree.the_way {pl : List Nm} {ts : List Tie} (h : IsTree pl ts) {u v : Nm} (hu : u ∈ pl) (hv : v ∈ pl) : Way ts u v (path ts u v) (dist ts u v) := by
  obtain ⟨p, L, w⟩ := h.way hu hv
  obtain ⟨e1, e2⟩ := h.is_way w
  rw [e1, e2]
  exact w
/-- the way back -/
theorem Way.cons {ts : List Tie} {u v w : Nm} {p : List Nm} {L k : Int} (ha : Adj ts w u k) (h : Way ts u v p L) (hn : w ∉ p) : Way ts w v (w :: p) (k + L) := by
  induction h with
  | nil =>
    have := Way.snoc (ts := ts) (u := w) .nil ha (by simpa using fun z => hn (by rw [z]; simp))
    simpa using this
  | @snoc v x p L m h1 hb hx ih =>
    have hn1 : w ∉ p := fun z => hn (List.mem_append_left _ z)
    have hxw : x ∉ w :: p := fun z => by
      rcases List.mem_cons.mp z with z | z
      · exact hn (by rw [z]; simp)
      · exact hx z
    have := Way.snoc (ih hn1) hb hxw
    rw [← Int.add_assoc]
    exact this
theorem Way.rev {ts : List Tie} {u v : Nm} {p : List Nm} {L : Int} (h : Way ts u v p L) : Way ts v u p.reverse L := by
  induction h with
  | nil => exact .nil
  | @snoc v w p L k h1 ha hn ih =>
    rw [List.reverse_append]
    have := Way.cons ha.symm ih (fun z => hn (List.mem_reverse.mp z))
    rw [Int.add_comm L k]
    exact this
theorem IsTree.dist_symm {pl : List Nm} {ts : List Tie} (h : IsTree pl ts) {u v : Nm} (hu : u ∈ pl) (hv : v ∈ pl) : dist ts u v = dist ts v u ∧ path ts v u = (path ts u v).reverse := by
  obtain ⟨e1, e2⟩ := h.is_way (h.the_way hu hv).rev
  exact ⟨e2.symm, e1⟩
theorem IsTree.dist_self {pl : List Nm} {ts : List Tie} (h : IsTree pl ts) (u : Nm) : dist ts u u = 0 ∧ path ts u u = [u] := by
  obtain ⟨e1, e2⟩ := h.is_way (u := u) .nil
  exact ⟨e2, e1⟩
theorem Way.nonneg {ts : List Tie} (hk : ∀ e ∈ ts, 1 ≤ e.2.2) {u v : Nm} {p : List Nm} {L : Int} (h : Way ts u v p L) : 0 ≤ L ∧ (p.length : Int) ≤ L + 1 := by
  induction h with
  | nil => simp
  | @snoc v w p L k _ ha _ ih =>
    have h1 : 1 ≤ k := ha.elim (fun z => hk _ z) fun z => hk _ z
    rw [List.length_append, List.length_singleton]
    omega
section
open PySem.Spec PyProof.Rows L2
/-! ### dicts by places -/
def dkm (fs : List Nm) (f : Nm → V) : List (Key × V) := fs.map fun l => (Sum.inr (S l), f l)
theorem dkm_get {f : Nm → V} {x : Nm} : ∀ {fs : List Nm}, x ∈ fs → valV (dkm fs f) (Sum.inr (S x)) = some (f x)
  | [], h => by simp at h
  | a :: r, h => by
    show valV ((Sum.inr (S a), f a) :: dkm r f) _ = _
    by_cases e : a = x
    · subst e
      exact valV_pos rfl
    · rw [valV_neg (fun z => e (SX.S_inj (Sum.inr.inj z)))]
      refine dkm_get ?_
      rcases List.mem_cons.mp h with z | z
      · exact absurd z.symm e
      · exact z
theorem dkm_no {f : Nm → V} {x : Nm} : ∀ {fs : List Nm}, x ∉ fs → valV (dkm fs f) (Sum.inr (S x)) = none
  | [], _ => rfl
  | a :: r, h => by
    show valV ((Sum.inr (S a), f a) :: dkm r f) _ = _
    rw [valV_neg (fun z => h (List.mem_cons.mpr (.inl (SX.S_inj (Sum.inr.inj z)).symm)))]
    exact dkm_no fun z => h (List.mem_cons.mpr (.inr z))
theorem dkm_cong {f g : Nm → V} {fs : List Nm} (h : ∀ x ∈ fs, f x = g x) : dkm fs f = dkm fs g := List.map_congr_left fun a ha => by rw [h a ha]
theorem dkm_new {f : Nm → V} {x : Nm} {v : V} {fs : List Nm} (h : x ∉ fs) : putK (dkm fs f) (Sum.inr (S x)) v = dkm (fs ++ [x]) (fun z => if z = x then v else f z) := by
  rw [putK_new _ (dkm_no h)]
  unfold dkm
  rw [List.map_append]
  have e : fs.map (fun l => ((Sum.inr (S l) : Key), f l)) = fs.map (fun l => ((Sum.inr (S l) : Key), if l = x then v else f l)) := List.map_congr_left fun a ha => by rw [if_neg (fun (z : a = x) => h (z ▸ ha))]
  rw [e]
  show _ = _ ++ [((Sum.inr (S x) : Key), if x = x then v else f x)]
  rw [if_pos rfl]
theorem dkm_some {f : Nm → V} {x : Nm} {fs : List Nm} : (valV (dkm fs f) (Sum.inr (S x))).isSome = decide (x ∈ fs) := by
  by_cases h : x ∈ fs
  · rw [dkm_get h, decide_eq_true h]
    rfl
  · rw [dkm_no h, decide_eq_false h]
    rfl
theorem tkD {H : Hp} {D : Addr} {kvs : List (Key × V)} {o : HO} (h : H D = some (.dK kvs)) : TK H (upd H D o) :=
  ⟨fun b xs z => by rw [upd_ne (ne_of z h (by intro q; cases q))]; exact z, fun b u xs z => by rw [upd_ne (ne_of z h (by intro q; cases q))]; exact z⟩
/-! ### a walk through a tree: fs come to, st to be gone on from, ex being gone on from -/
structure Wk (pl : List Nm) (ts : List Tie) (u : Nm) (fs st : List Nm) (prev : Nm → Nm) (ex : Nm → Prop) : Prop where
  nd : fs.Nodup
  sub : ∀ x ∈ fs, x ∈ pl
  sti : ∀ x ∈ st, x ∈ fs
  hu : u ∈ fs
  cl : ∀ x ∈ fs, ∀ y ∈ path ts u x, y ∈ fs
  pr : ∀ x ∈ fs, x ≠ u → prev x ∈ fs ∧ path ts u x = path ts u (prev x) ++ [x]
  done : ∀ x ∈ fs, x ∉ st → ¬ ex x → ∀ y k, Adj ts x y k → y ∈ fs
theorem Wk.start {pl : List Nm} {ts : List Tie} (h : IsTree pl ts) {u : Nm} (hu : u ∈ pl) : Wk pl ts u [u] [u] (fun _ => u) (fun _ => False) := by
  refine ⟨by simp, fun x hx => ?_, fun x hx => hx, by simp, fun x hx => ?_, fun x hx n => ?_, fun x hx n => absurd hx n⟩
  · rw [List.mem_singleton.mp hx]
    exact hu
  · rw [List.mem_singleton.mp hx, (h.dist_self u).2]
    exact fun y hy => hy
  · exact absurd (List.mem_singleton.mp hx) n
theorem Wk.pop {pl : List Nm} {ts : List Tie} {u h : Nm} {fs st : List Nm} {prev : Nm → Nm} (w : Wk pl ts u fs (st ++ [h]) prev (fun _ => False)) : h ∈ fs ∧ Wk pl ts u fs st prev (fun x => x = h) := by
  refine ⟨w.sti h (by simp), w.nd, w.sub, fun x hx => w.sti x (List.mem_append_left _ hx), w.hu, w.cl, w.pr, fun x hx n ne => w.done x hx (fun z => ?_) (fun z => z)⟩
  rcases List.mem_append.mp z with z | z
  · exact n z
  · exact ne (List.mem_singleton.mp z)
theorem Wk.push {pl : List Nm} {ts : List Tie} (tr : IsTree pl ts) {u h y : Nm} {k : Int} {fs st : List Nm} {prev : Nm → Nm} {ex : Nm → Prop} (w : Wk pl ts u fs st prev ex) (hh : h ∈ fs) (ha : Adj ts h y k) (hy : y ∉ fs) :
    dist ts u y = dist ts u h + k ∧ Wk pl ts u (fs ++ [y]) (st ++ [y]) (fun z => if z = y then h else prev z) ex := by
  have wh := tr.the_way (w.sub u w.hu) (w.sub h hh)
  have wy := Way.snoc wh ha fun z => hy (w.cl h hh y z)
  obtain ⟨e1, e2⟩ := tr.is_way wy
  have yp : y ∈ pl := by
    rcases ha with z | z
    · exact (tr.ties _ z).2.1
    · exact (tr.ties _ z).1
  refine ⟨e2, nd_snoc' w.nd hy, fun x hx => ?_, fun x hx => ?_, List.mem_append_left _ w.hu, fun x hx z hz => ?_, fun x hx n => ?_, fun x hx n ne z m hz => ?_⟩
  · rcases List.mem_append.mp hx with z | z
    · exact w.sub x z
    · rw [List.mem_singleton.mp z]
      exact yp
  · rcases List.mem_append.mp hx with z | z
    · exact List.mem_append_left _ (w.sti x z)
    · exact List.mem_append_right _ z
  · rcases List.mem_append.mp hx with q | q
    · exact List.mem_append_left _ (w.cl x q z hz)
    · rw [List.mem_singleton.mp q, e1] at hz
      rcases List.mem_append.mp hz with r | r
      · exact List.mem_append_left _ (w.cl h hh z r)
      · exact List.mem_append_right _ r
  · rcases List.mem_append.mp hx with q | q
    · have xy : x ≠ y := fun e => hy (e ▸ q)
      show (if x = y then h else prev x) ∈ fs ++ [y] ∧ path ts u x = path ts u (if x = y then h else prev x) ++ [x]
      rw [if_neg xy]
      exact ⟨List.mem_append_left _ (w.pr x q n).1, (w.pr x q n).2⟩
    · have xy := List.mem_singleton.mp q
      show (if x = y then h else prev x) ∈ fs ++ [y] ∧ path ts u x = path ts u (if x = y then h else prev x) ++ [x]
      rw [if_pos xy, xy]
      exact ⟨List.mem_append_left _ hh, e1⟩
  · rcases List.mem_append.mp hx with q | q
    · exact List.mem_append_left _ (w.done x q (fun r => n (List.mem_append_left _ r)) ne z m hz)
    · exact absurd (List.mem_append_right _ q) n
theorem Wk.shut {pl : List Nm} {ts : List Tie} {u h : Nm} {fs st : List Nm} {prev : Nm → Nm} (w : Wk pl ts u fs st prev (fun x => x = h)) (hd : ∀ y k, Adj ts h y k → y ∈ fs) : Wk pl ts u fs st prev (fun _ => False) :=
  ⟨w.nd, w.sub, w.sti, w.hu, w.cl, w.pr, fun x hx n _ y k ha => by
    by_cases e : x = h
    · rw [e] at ha
      exact hd y k ha
    · exact w.done x hx n e y k ha⟩
theorem Wk.all {pl : List Nm} {ts : List Tie} (tr : IsTree pl ts) {u : Nm} {fs : List Nm} {prev : Nm → Nm} (w : Wk pl ts u fs [] prev (fun _ => False)) : ∀ x, x ∈ fs ↔ x ∈ pl := fun x =>
  ⟨w.sub x, fun hx => tr.all_of (F := fun z => z ∈ fs) (w.sub u w.hu) w.hu (fun a b k ha hab => w.done a ha (by simp) (fun z => z) b k hab) x hx⟩
structure Fine (pl : List Nm) (ts : List Tie) : Prop where
  tree : IsTree pl ts
  ok : ∀ l ∈ pl, NameOk l
  len : pl.length ≤ 1000
theorem Fine.okT {pl : List Nm} {ts : List Tie} (F : Fine pl ts) {e : Tie} (he : e ∈ ts) : NameOk e.1 ∧ NameOk e.2.1 := by
  obtain ⟨i1, i2, _⟩ := F.tree.ties e he
  exact ⟨F.ok _ i1, F.ok _ i2⟩
theorem Fine.ne {pl : List Nm} {ts : List Tie} (F : Fine pl ts) : pl ≠ [] := fun z => by
  have := F.tree.len
  rw [z] at this
  simp at this
theorem dt_pair {H : Hp} {v : V} {d e : PyData} (h : Dt H v (.tuple [d, e])) (ne : ∀ l : Nm, e ≠ strD l) : ∃ (a : Addr) (x y : V), v = .ref a ∧ H a = some (.tup [x, y]) ∧ Dt H x d ∧ Dt H y e := by
  cases h with
  | tup ha hs =>
    cases hs with
    | cons h1 hr =>
      cases hr with
      | cons h2 hn =>
        cases hn
        exact ⟨_, _, _, rfl, ha, h1, h2⟩
  | @tupZ a pl _ o e _ _ _ =>
    exfalso
    cases pl with
    | nil => cases e
    | cons l r =>
      cases r with
      | nil => cases e
      | cons l2 r2 => exact ne l2 (List.cons.inj (List.cons.inj e).2).1
theorem dt_tup {H : Hp} {v : V} {ds : List PyData} (h : Dt H v (.tuple ds)) (ne : ds ≠ [] → ∃ d ∈ ds, ∀ l : Nm, d ≠ strD l) : ∃ (a : Addr) (xs : List V), v = .ref a ∧ H a = some (.tup xs) ∧ DtAll H xs ds := by
  cases h with
  | tup ha hs => exact ⟨_, _, rfl, ha, hs⟩
  | @tupZ a pl _ o e n _ _ =>
    exfalso
    obtain ⟨d, hd, no⟩ := ne (by rw [e]; simpa using n)
    rw [e] at hd
    obtain ⟨l, _, z⟩ := List.mem_map.mp hd
    exact no l z.symm
theorem dt_names {H : Hp} {v : V} {pl : List Nm} (h : Dt H v (.tuple (pl.map strD))) : ∃ a : Addr, v = .ref a ∧ TupAt H a ((pl.map S).map V.str) := by
  have inj : ∀ {p q : List Nm}, p.map strD = q.map strD → p = q := by
    intro p
    induction p with
    | nil =>
      intro q e
      cases q with
      | nil => rfl
      | cons _ _ => cases e
    | cons a r ih =>
      intro q e
      cases q with
      | nil => cases e
      | cons b t =>
        have e' := List.cons.inj e
        have h1 : S a = S b := PyData.str.inj e'.1
        rw [SX.S_inj h1, ih e'.2]
  generalize hd : pl.map strD = ds at h
  cases h with
  | tup ha hs =>
    subst hd
    rw [DtAll.strs hs] at ha
    exact ⟨_, rfl, .inl ha⟩
  | @tupZ a pl2 _ o e n d ha =>
    rw [← inj (hd.trans e)] at ha
    exact ⟨_, rfl, .inr ⟨o, d, ha⟩⟩
theorem tie_no (e : Tie) (l : Nm) : tieD e ≠ strD l := fun z => nomatch z
/-- a tree in the heap: its parts -/
theorem dt_tree {H : Hp} {v : V} {pl : List Nm} {ts : List Tie} (h : Dt H v (treeD pl ts)) : ∃ (t a b : Addr) (vs : List V), v = .ref t ∧ H t = some (.tup [.ref a, .ref b]) ∧ TupAt H a ((pl.map S).map V.str) ∧ H b = some (.tup vs) ∧ DtAll H vs (ts.map tieD) := by
  obtain ⟨t, x, y, rfl, ht, hx, hy⟩ := dt_pair h fun l z => nomatch z
  obtain ⟨a, rfl, ha⟩ := dt_names hx
  obtain ⟨b, vs, rfl, hb, hv⟩ := dt_tup hy fun n => by
    cases ts with
    | nil => exact absurd rfl n
    | cons e r => exact ⟨tieD e, List.mem_cons_self .., tie_no e⟩
  exact ⟨t, a, b, vs, rfl, ht, ha, hb, hv⟩
theorem dt_tie {H : Hp} {v : V} {e : Tie} (h : Dt H v (tieD e)) : ∃ t : Addr, v = .ref t ∧ H t = some (.tup [.str (S e.1), .str (S e.2.1), .int e.2.2]) := by
  obtain ⟨t, xs, rfl, ht, hs⟩ := dt_tup h fun _ => ⟨.int e.2.2, by simp [tieD], fun l z => nomatch z⟩
  cases hs with
  | cons h1 hr =>
    cases hr with
    | cons h2 hr =>
      cases hr with
      | cons h3 hr =>
        cases hr
        cases h1
        cases h2
        cases h3
        exact ⟨t, rfl, ht⟩
end
end Far

namespace Far
open PySem PySem.Spec PyProof.Rows L2
section
variable {X : Cx} {o e : Expr} {es : List Expr} {to te : TE} {ta : TA} {f : Str} {p p' p1 p2 pos : Pos}
/-- C0.__init__(self, ..), C0 an own class over ValueError without an __init__ of its own -/
theorem pe_owninit {x : Str} {C0 : Addr} {pl : Sem Bool} (hg : Gl X x) (hm : X.mg x = some (.ref C0)) (rd : PySem.W.readsIn X.K C0 (.type "type") = true) (ga : PySem.W.specialIn X.K (.ref C0) "__getattribute__" = some (some (.builtin "type.__getattribute__")))
    (vV : PySem.W.findCls X.K (.ref C0) (.type "type") "__init__" = some (.val (.builtin "ValueError.__init__"))) (ha : PA X (e :: es) ta)
    (hdb : (x == ("__debug__" : Str)) = false := by decide)
    (hc : eval (.Call (.Attribute (.Name x p1) "__init__" p2) (e :: es) [] pos) X.env = (do
      let ov ← eval (.Name x p1) X.env
      standAt p2.atName
      let (f, first) ← holding [ov] (getMethod ov "__init__" pl)
      callWith pos f first (backTo pos (starEach (e :: es) X.env)) (backToKw pos (keywordEach [] X.env))) := by rfl)
    (he : starEach (e :: es) X.env = (false, eval e X.env) :: starEach es X.env := by rfl) (hpl : (backTo pos (starEach es X.env)).any (·.1) = false := by rfl) :
    PE X (.Call (.Attribute (.Name x p1) "__init__" p2) (e :: es) [] pos) (tVeI X.K ta) := by
  refine ⟨fun pins s σ H Q I h => ?_⟩
  refine PySem.W.methodCall_KW (ld_glob I hg hm ?_ hdb) hc
  refine PySem.W.method_cls I.kIn ga ?_
  refine PySem.W.cls_value I.kIn rd vV (by decide +kernel) ?_
  show wpAny _ _ (callWith pos (Value.builtin "ValueError.__init__") [] (backTo pos (starEach (e :: es) X.env)) []) _ _ _
  refine PyProof.Rows.callWith_method1 (thn (ha.run pos pins _ σ H _ (I.tok _) h) fun us s1 ⟨vs, H1, I1, r1, a, C, ws, ev, hl, T, ea, q⟩ => ?_) he hpl
  subst ev
  cases r1 with
  | @cons _ u0 _ ur ra rw' =>
    obtain rfl : u0 = Value.ref a := ra
    have hlen : ur.length ≤ sizeLine := by
      rw [← Paired.length rw', sizeLine_eq]
      omega
    exact oinit_ok T I1 ea hlen fun s' J => ⟨.non, H1, J, rfl, q⟩
end
end Far

namespace Far
open PySem PySem.Spec PyProof.Rows L2
/-! ### except x as e: name = e, the error kept behind the suite -/
/-- an error that was caught: of the class cls, its own dict at d -/
def caughtO (a : Addr) (cls : Value) (d : Option Addr) : HO := .ext fun h => ∃ (oe : Obj) (vs : Array Value), h.get? a = some oe ∧ Zc cls d oe ∧ oe.data = .fields vs
theorem caughtO_ok {P : Program} {w : World} {H : Hp} {h : Heap} {a : Addr} {cls : Value} {d : Option Addr} {oe : Obj} {vs : Array Value} (e : h.get? a = some oe) (z : Zc cls d oe) (hd : oe.data = .fields vs) : ObjOk P w H h a (caughtO a cls d) :=
  ⟨⟨oe, vs, e, z, hd⟩, ⟨oe, e⟩, fun _ _ ⟨o, v, q, r⟩ k => ⟨o, v, k o q, r⟩⟩
theorem caughtO_at {P : Program} {w : World} {H : Hp} {h : Heap} {a : Addr} {cls : Value} {d : Option Addr} (hok : HOk P w H h) (he : H a = some (caughtO a cls d)) : ∃ (oe : Obj) (vs : Array Value), h.get? a = some oe ∧ Zc cls d oe ∧ oe.data = .fields vs := by
  have x : ObjOk P w H h a (.ext fun h => ∃ (oe : Obj) (vs : Array Value), h.get? a = some oe ∧ Zc cls d oe ∧ oe.data = .fields vs) := hok a _ he
  exact x.1
section
variable {X : Cx} {pins : List (Addr × Obj)} {σ : L2.St} {H : Hp} {s : Shared}
/-- an object that was pinned, new in this call, is tracked from here on -/
theorem adopt {a : Addr} {oe : Obj} {vs : Array Value} {cls : Value} {d : Option Addr} (I : Inv X ((a, oe) :: pins) σ H s) (z : Zc cls d oe) (hd : oe.data = .fields vs) (h0 : X.s_0.heap.get? a = none) (hp : ∀ p ∈ X.pn ++ pins, p.1 ≠ a) :
    Inv X pins σ (upd H a (caughtO a cls d)) s := by
  obtain ⟨pa, na, nL, nF, nc⟩ := I.pin (a, oe) (List.mem_append_right _ List.mem_cons_self)
  have pa : s.heap.get? a = some oe := pa
  have na : H a = none := na
  have nL : a ≠ X.env.locals := nL
  refine ⟨I.ok, I.os, I.bare, ⟨I.base.keep, I.base.slot, fun b o e n hx => ?_, I.base.there, fun b xs e => ?_, fun b o u e => ?_, fun b ps e => ?_⟩, I.loc, I.cell, ?_, fun x c e => ?_, fun p hq => ?_, ?_, I.len⟩
  · have hb : b ≠ a := fun q => by rw [q, h0] at e; cases e
    rw [upd_ne hb]
    exact I.base.free b o e n hx
  · have q := I.base.tups b xs e
    rw [upd_ne (ne_of_none q na)]
    exact q
  · have q := I.base.frzs b o u e
    rw [upd_ne (ne_of_none q na)]
    exact q
  · obtain ⟨more, q⟩ := I.base.tbls b ps e
    refine ⟨more, ?_⟩
    rw [upd_ne (ne_of_none q na)]
    exact q
  · rw [upd_ne (Ne.symm nL)]
    exact I.free
  · obtain ⟨v, hc⟩ := I.cell x c e
    have hb : c ≠ a := fun q => by
      obtain ⟨o, ho, hcl⟩ := hc
      rw [q, pa] at ho
      cases ho
      exact nc v (by first | exact hcl | exact hcl.1 | exact hcl.2)
    rw [upd_ne hb]
    exact I.freeC x c e
  · have m : p ∈ X.pn ++ ((a, oe) :: pins) := by
      rcases List.mem_append.mp hq with h | h
      · exact List.mem_append_left _ h
      · exact List.mem_append_right _ (List.mem_cons_of_mem _ h)
    obtain ⟨q1, q2, q3⟩ := I.pin p m
    exact ⟨q1, by rw [upd_ne (hp p hq)]; exact q2, q3⟩
  · exact I.hok.laidN (fun _ _ q => q) na (caughtO_ok pa z hd)
end
/-- what the clause 'except x as n: m = n' wishes of an exception of the body: slot i is n's, j is m's -/
def wKeep (K : PySem.W.Frag) (c : Value) (i j : Nat) (Wout : WX) (D : Ends) : WX := fun cls d σ H =>
  ∃ b, PySem.W.exmOne K cls c = some b ∧ (b = true → ∀ a, H a = none → D.nx (((σ.set i (some (.ref a))).set j (some (.ref a))).set i none) (upd H a (caughtO a cls d))) ∧
    (b = false → Wout cls d σ H)
section
variable {X : Cx} {x n : Str} {c : Value} {i j : Nat} {body : List Stmt} {b₀ : Stmt} {np pos pos' : Pos} {tb : WX → TS} {ts : TS} {Wout : WX}
theorem ps_try_keep (hs : X.stack = X.env :: X.outer) (hf : X.env.frame = some X.env.locals) (hex : X.ex = []) (hN : X.N.Nodup) (hi : X.N[i]? = some n) (hln : X.env.kindOf n = some .local) (hc : Names X x c) (tk : Takes X Wout)
    (hb : ∀ (W : WX) (pn : List (Addr × Obj)) (xe : Value → Shared → Prop), Takes (X.tr pn xe) W → PassesOwn (model X.prog X.w) X.A X.env xe → PSs (X.tr pn xe) body (tb W))
    (hsu : ∀ (a : Addr) (oe : Obj) (cls : Value) (d : Option Addr) (pn : List (Addr × Obj)), Zc cls d oe → (∃ vs, oe.data = .fields vs) → PSs (X.suite a ((a, oe) :: pn)) [b₀] ts)
    (hts : ∀ (D : Ends) (σ : L2.St) (H : Hp) (a : Addr), σ[i]? = some (some (.ref a)) → D.nx (σ.set j (some (.ref a))) H → ts D σ H) :
    PS X (.Try body [.ExceptHandler (some (.Name x np)) (some n) [b₀] pos'] [] [] pos) (fun D σ H => tb (wKeep X.K c i j Wout D) D σ H) := by
  refine ⟨fun pins s σ H D I h => ?_⟩
  have ok := I.ok
  have hfr : X.A.frames = some (X.env :: X.outer) := by rw [ok.frames, hs]
  have hloc : Loc X.env.scope n := .inl hln
  refine wpAny_Try_except ?_
  refine wpAny_mono ((hb (wKeep X.K c i j Wout D) (X.pn ++ pins) (fun e s₁ => wpAny (model X.prog X.w) X.A (noteFrame e X.env) (fun _ s₂ => wpAny (model X.prog X.w) X.A (setFlight e none) (fun _ s₃ =>
    wpAny (model X.prog X.w) X.A (handleBy e X.env [.ExceptHandler (some (.Name x np)) (some n) [b₀] pos']) (SP X pins D) X.xe s₃) X.xe s₂) X.xe s₁) (fun u s' xx => ?_) PassesOwn.looking).run [] s σ H D (I.toTry _) h) (fun f s1 hsp => ?_) (fun e s1 he => he)
  · obtain ⟨a, B, sI, pins', σ', H', cls, d, rfl, J', nb, up, sky, na, os, ag, b, hb1, hyes, hno⟩ := xx
    have J : Inv X pins σ' H' sI := J'.ofTry ok
    have sky' : Sky B (X.env :: X.outer) a (Zc cls d) X.env.locals s'.heap := by rw [← hs]; exact sky
    show wpAny _ X.A (noteFrame (.ref a) X.env) _ _ _
    refine Sky.land Zc.steady hfr hf sky' fun h3 fl3 up3 => ?_
    have J3 : Inv X pins σ' H' { s' with heap := h3 } := J.landed nb fl3.1 (up.trans up3) os ag
    obtain ⟨oe3, vs3, he3, hz3, hd3⟩ := fl3.there
    have notFr : ∀ {h : Heap} {o : Obj} {vs : Array Value}, h.FunFrames B (X.env :: X.outer) → h.get? a = some o → o.data = .fields vs → a ∉ frs (X.env :: X.outer) := fun {h o vs} ff e dd hm => by
      obtain ⟨_, o', e', hnf⟩ := ff.mem hm
      rw [e] at e'; cases e'
      exact hnf _ dd
    have nfr := notFr fl3.2.2.1 he3 hd3
    have nL : a ≠ X.env.locals := fun z => nfr (List.mem_filterMap.mpr ⟨X.env, List.mem_cons_self, by rw [hf, z]⟩)
    have nF : a ∉ X.fs := fun hm => by
      obtain ⟨e, he, q⟩ := List.mem_filterMap.mp hm
      exact nfr (List.mem_filterMap.mpr ⟨e, List.mem_cons_of_mem _ he, q⟩)
    have nB : B.get? a = none := fl3.2.1
    have nI : sI.heap.get? a = none := by
      cases q : sI.heap.get? a with
      | none => rfl
      | some o =>
        have := nb a o q (by rw [hs]; exact nfr)
        rw [nB] at this
        cases this
    have n0 : X.s_0.heap.get? a = none := by
      cases q : X.s_0.heap.get? a with
      | none => rfl
      | some o =>
        obtain ⟨o', q'⟩ := J.base.there a o q (by rw [hex]; intro z; cases z)
        rw [nI] at q'
        cases q'
    have nP : ∀ p ∈ X.pn ++ pins, p.1 ≠ a := fun p hp z => by
      have := (J.pin p hp).1
      rw [z, nI] at this
      cases this
    have S3 := J3.suite he3 hd3 na nL nF
    refine wpAny_handleBy_cons (codeAny_handlers_test ?_) (by intro q; cases q)
    have LT : PySem.W.Looks (model X.prog X.w) h3 (typeOf (.ref a)) cls := fun A Q E s k q => wpAny_typeOf_ref (k _ _ he3) (by rw [hz3.1]; exact q)
    have LM := PySem.W.exm_one (M := model X.prog X.w) (J3.kIn) LT hb1
    have test : ∀ {Q : Value → Shared → Prop} {E : Value → Shared → Prop}, Q c { s' with heap := h3 } → wpAny (model X.prog X.w) (X.A.mark (some (.ref a))) (eval (.Name x np) X.env) Q E { s' with heap := h3 } := fun {Q E} q => by
      obtain ⟨hg, hdbg, hm | ⟨hm, hv, hnn⟩⟩ := hc
      · exact ld_glob (X := X.suite a ((a, oe3) :: (X.pn ++ pins))) S3 hg hm q hdbg
      · exact ld_blt (X := X.suite a ((a, oe3) :: (X.pn ++ pins))) S3 hg hm hv q hnn hdbg
    refine test (LM.here ?_)
    cases b with
    | true =>
      refine codeAny_handlers_suite_as ?_
      refine HandSPX.lands_againZ fl3 fun h4 fl4 up4 => ?_
      have J4 : Inv X pins σ' H' { s' with heap := h4 } := J.landed nb fl4.1 ((up.trans up3).trans up4) os ag
      obtain ⟨oe4, vs4, he4, hz4, hd4⟩ := fl4.there
      have S4 := J4.suite he4 hd4 na nL nF
      refine store_ok (X := X.suite a ((a, oe4) :: (X.pn ++ pins))) (v := .ref a) S4 hN hi hloc rfl (fun s5 S5 => ?_) (.inr hln)
      have li : i < σ'.length := by
        rw [J4.len]
        exact (List.getElem?_eq_some_iff.mp hi).1
      have run := (hsu a oe4 cls d (X.pn ++ pins) hz4 ⟨_, hd4⟩).run [] s5 (σ'.set i (some (.ref a))) H' { nx := fun σ6 H6 => σ6 = (σ'.set i (some (.ref a))).set j (some (.ref a)) ∧ H6 = H', rt := fun _ _ => False, bk := fun _ _ => False, ct := fun _ _ => False } S5
        (hts _ _ _ a (by simp [li]) ⟨rfl, rfl⟩)
      refine wpAny_mono run (fun f s6 hsp => ?_) (fun _ _ z => False.elim z)
      have end_ : ∀ {σ6 : L2.St} {H6 : Hp} {Q : Shared → Prop}, Inv (X.suite a ((a, oe4) :: (X.pn ++ pins))) [] σ6 H6 s6 → (∀ s7, Inv X ((a, oe4) :: pins) (σ6.set i none) H6 s7 → Q s7) →
          wpAny (model X.prog X.w) X.A (do bindName X.env n .none; unbindBehindTheSuite X.env n pos') (fun _ s7 => Q s7) X.xe s6 := fun {σ6 H6 Q} S6 hq => by
        have S6' : Inv X ((a, oe4) :: pins) σ6 H6 s6 := ⟨ok, S6.os, S6.bare, S6.base, S6.loc, S6.cell, S6.free, S6.freeC, fun p hp => S6.pin p (by
          refine List.mem_append_left _ ?_
          show p ∈ (a, oe4) :: (X.pn ++ pins)
          rcases List.mem_append.mp hp with h | h
          · exact List.mem_cons_of_mem _ (List.mem_append_left _ h)
          · rcases List.mem_cons.mp h with h | h
            · rw [h]; exact List.mem_cons_self
            · exact List.mem_cons_of_mem _ (List.mem_append_right _ h)), S6.hok, S6.len⟩
        exact gone_ok S6' hN hi hln hq
      cases f with
      | next =>
        obtain ⟨σ6, H6, S6, e1, e2⟩ := hsp
        subst e1 e2
        exact end_ S6 fun s7 J7 => ⟨_, _, adopt J7 hz4 hd4 n0 nP, hyes rfl a na⟩
      | brk =>
        obtain ⟨σ6, H6, S6, q6⟩ := hsp
        exact q6.elim
      | cont =>
        obtain ⟨σ6, H6, S6, q6⟩ := hsp
        exact q6.elim
      | ret u =>
        obtain ⟨v6, σ6, H6, S6, r6, q6⟩ := hsp
        exact q6.elim
    | false =>
      show wpAny _ X.A (handleBy (.ref a) X.env []) _ _ _
      refine wpAny_handleBy_nil ?_
      obtain ⟨k1, k2, k3, oe, vs, T, oT, ts', he, hz, hd, h1, hr⟩ := id fl3
      unfold PySem.passOn
      refine wpAny_bind (wpAny_field he hd h1 ?_)
      rw [if_neg (show ¬ ((Value.ref T == Value.none) = true) from by simp)]
      have fin : wpAny (model X.prog X.w) X.A (setFlight (.ref a) X.env.frame) (fun _ s4 => wpAny (model X.prog X.w) X.A (throw (.ref a) : Sem Flow) (SP X pins D) X.xe s4) X.xe { s' with heap := h3 } := by
        rw [hf]
        refine HandSPX.setFlight_upZ fl3 fun h4 hh4 up4 => wpAny_throw (tk _ _ ?_)
        exact ⟨a, B, sI, pins, σ', H', cls, d, rfl, J, nb, (up.trans up3).trans up4, .inr (.inr (by rw [hs]; exact hh4)), na, os, ag, hno rfl⟩
      first
        | exact wpAny_bind (wpAny_pure (wpAny_bind fin))
        | exact wpAny_bind fin
  · cases f with
    | next =>
      obtain ⟨σ', H', J', q⟩ := hsp
      exact wpAny_execs_nil ⟨σ', H', J'.ofTry ok, q⟩
    | brk =>
      obtain ⟨σ', H', J', q⟩ := hsp
      exact ⟨σ', H', J'.ofTry ok, q⟩
    | cont =>
      obtain ⟨σ', H', J', q⟩ := hsp
      exact ⟨σ', H', J'.ofTry ok, q⟩
    | ret u =>
      obtain ⟨v, σ', H', J', r, q⟩ := hsp
      exact ⟨v, σ', H', J'.ofTry ok, r, q⟩
end
end Far

namespace Far
open PySem PySem.Spec PySem.Calls PyProof.Rows L2 PySem.W
section
variable {prog : Program} {w : World} {A : Around} {E : Value → Shared → Prop} {s : Shared} {K : Frag} {x D : Addr} {ox : Obj} {od : Option Obj}
theorem obj_data {C : Addr} {name : Str} {a g : Value} (hc : (clsIn K C).isSome = true) (ha : findIn K (.ref C) name = some (some a)) (hg : specialIn K a "__get__" = some (some g)) (ht : takesIn K a = some true) : findObj K C od name = some (.bind g a) := by
  obtain ⟨cd, hc⟩ := Option.isSome_iff_exists.mp hc
  unfold findObj
  rw [hc, Option.bind_some, ha, Option.bind_some]
  simp [hg, ht]
/-- the class of an own error that has a dict of its own -/
theorem cls_of_own {Q : Option Value → Shared → Prop} (T : ExcC K D) (X : K.In s.heap) (I : InstAt s.heap x ox D od) (h : Q (some (.ref D)) { s with toks := s.toks + 1 }) : wpAny (model prog w) A (getAttr? (.ref x) "__class__") Q E s := by
  have hf : findObj K D od "__class__" = some (.bind (.builtin "getset_descriptor.__get__") (.builtin "object.__class__")) := obj_data (by obtain ⟨cd, hc, _⟩ := any_some T.hd; rw [hc]; rfl) T.ha T.hn T.ht
  obtain ⟨hp, g, d, t, os⟩ := s
  have L0 := I.type (M := model prog w)
  have L1 := looks_findIn (M := model prog w) X T.hg
  have L2 := looks_findIn (M := model prog w) X T.hk
  have L3 := looks_find (M := model prog w) X I hf
  have sub : Looks (model prog w) hp (isInstance (.ref x) (.type "BaseException")) true := L0.andThen (looks_subIn X T.hs)
  have n0 : (false && onTheHeap (Value.builtin "BaseException.__getattribute__")) = false := rfl
  have n2 : (Value.builtin "BaseException.__getattribute__" == Value.builtin "object.__getattribute__") = false := by decide +kernel
  have n1 : (onTheHeap (Value.ref D) && Value.builtin "BaseException.__getattribute__" == Value.builtin "object.__getattribute__") = false := by rw [n2]; rfl
  unfold getAttr? getAttrBy? getAttrBy
  refine wpAny_bind (wpAny_mkText (wpAny_bind (wpAny_attempt (wpAny_holding (wpAny_bind (L0.at (wpAny_bind (L1.at ?_))))))))
  show wpAny _ _ (if (onTheHeap (Value.ref D) && Value.builtin "BaseException.__getattribute__" == Value.builtin "object.__getattribute__") = true then _ else _) _ _ _
  rw [n1, if_neg Bool.false_ne_true]
  unfold getAttrByItsOwn hookBefore
  refine wpAny_bind ?_
  rw [if_pos (show onTheHeap (Value.ref D) = true from rfl)]
  refine L2.at ?_
  refine wpAny_bind (wpAny_attempt (wpAny_holding ?_))
  unfold callGetattribute
  rw [n0, if_neg Bool.false_ne_true]
  unfold boundAndCalled
  rw [PySem.F.excAttr_ValueError.ga.bind (.ref x)]
  refine wpAny_bind (wpAny_pure ?_)
  show wpAny _ _ (call (.builtin "BaseException.__getattribute__") [.ref x, .str "__class__" t]) _ _ _
  refine wpAny_call (codeAny_call_builtin PySem.F.excAttr_ValueError.ga.plain PySem.F.entry_bexc_ga ?_)
  refine @check_slot (model prog w) _ _ ⟨hp, g, d, t + 1, os⟩ "BaseException.__getattribute__" "BaseException" "__getattribute__" (.ref x) [.str "__class__" t] [] _ (by decide +kernel) (by decide +kernel) sub (PySem.F.args_bexc_ga (.ref x) (.str "__class__" t)) ?_
  unfold Builtin.«object.__getattribute__»
  refine wpAny_bind (wpAny_of_eq (a := ((Value.ref x : Value), [Value.str "__class__" t])) (by first | rfl | (simp only [slotArgs]; rfl)) ?_)
  refine wpAny_bind (wpAny_pure (wpAny_bind (L0.at (wpAny_bind (L3.at ?_)))))
  show wpAny _ _ (holding [Value.builtin "object.__class__"] (call (.builtin "getset_descriptor.__get__") [.builtin "object.__class__", .ref x, .ref D]) >>= ret) _ _ _
  refine wpAny_bind (wpAny_holding (wpAny_call (class_get (s := ⟨hp, g, d, t + 1, os⟩) (ox := ox) (od := od) X I T.hm ?_)))
  refine wpAny_pure ?_
  show wpAny _ _ (handedOut (.ref D)) _ _ _
  rw [handedOut_of (v := .ref D) rfl]
  first
    | exact wpAny_pure (wpAny_pure h)
    | exact wpAny_pure h
    | exact wpAny_pure (wpAny_bind (wpAny_pure (wpAny_pure h)))
theorem kitx_own (T : ExcC K D) : KitX K (.ref x) (.ref D) (fun h => InstAt h x ox D od) where
  ty := fun _ _ _ I => I.type
  it := fun _ _ X _ => by
    obtain ⟨cdD, hcD, _⟩ := any_some T.hd
    unfold clsIn at hcD
    split at hcD
    · rename_i c' d' cd' sl' ho
      intro A' Q' E' s' k q
      unfold isType loadHead
      exact wpAny_bind (wpAny_loadPart (k _ _ (X _ _ ho)) (wpAny_pure q))
    · cases hcD
  ne := fun h tp dd its n sl X htp => by
    obtain ⟨cdD, hcD, _⟩ := any_some T.hd
    refine Bool.eq_false_iff.mpr fun q => ?_
    have e : D = tp := Value.ref.inj (beq_iff_eq.mp q)
    subst e
    unfold clsIn at hcD
    split at hcD
    · rename_i c' d' cd' sl' ho
      have z := (X _ _ ho).symm.trans htp
      cases z
    · cases hcD
  ca := fun X I k => cls_of_own T X I k
end
/-- an error that was caught, of the class at D, with its own dict at dd -/
def Caught (H : Hp) (a D dd : Addr) (fs : List (Str × V)) : Prop := H a = some (caughtO a (.ref D) (some dd)) ∧ H dd = some (.xd fs)
theorem Caught.same {H H' : Hp} {a D dd : Addr} {fs : List (Str × V)} (c : Caught H a D dd fs) (s : Same H H') : Caught H' a D dd fs := ⟨s _ _ c.1, s _ _ c.2⟩
section
variable {X : Cx} {pins : List (Addr × Obj)} {σ : L2.St} {H : Hp} {s : Shared}
theorem Caught.inst {a D dd : Addr} {fs : List (Str × V)} (c : Caught H a D dd fs) (I : Inv X pins σ H s) : ∃ (oe od : Obj) (mA : Str → Option Value), InstAt s.heap a oe D (some od) ∧ s.heap.get? dd = some od ∧ (∀ f, RelO (fs.lookup f) (mA f)) ∧ (∀ f, lookIn f od = some (mA f)) := by
  obtain ⟨oe, vs, ha, hz, hd⟩ := caughtO_at I.hok c.1
  have hx : ObjOk X.prog X.w H s.heap dd (.xd fs) := I.hok dd _ c.2
  obtain ⟨mA, hns, hr⟩ := hx
  obtain ⟨od, ho, hl⟩ := lookIn_ns hns
  exact ⟨oe, od, mA, ⟨ha, hz.1, by unfold PySem.W.notCls; rw [hd] <;> rfl, by rw [hz.2]; exact ho⟩, ho, hr, hl⟩
/-- isinstance(e, c), e a caught error that a name holds -/
def rIsC (K : PySem.W.Frag) : List V → Hp → VK → Prop := fun xs H Q => ∃ (a D dd : Addr) (fs : List (Str × V)) (c : V) (cv : Value) (b : Bool), xs = [.ref a, c] ∧ Caught H a D dd fs ∧ ExcC K D ∧ ClsV c cv ∧ PySem.W.kitOne K (.ref D) cv = some b ∧ Q (.bl b) H
theorem call_isC {X : Cx} {K : PySem.W.Frag} (eK : X.K = K := by rfl) : CallR X (.builtin "isinstance") (rIsC K) := by
  subst eK
  intro pins s σ H xs us Q I r h
  obtain ⟨a, D, dd, fs, c, cv, b, rfl, hC, T, k, e, q⟩ := h
  obtain ⟨u1, u2, rfl, r1, r2⟩ := vals2 r
  have e2 := k.eq r2
  subst e2
  cases (show u1 = Value.ref a from r1)
  obtain ⟨oe, od, mA, J, _⟩ := hC.inst I
  exact PySem.W.kia_one (kitx_own T) I.kIn J e (fun z => nomatch z) fun tk => ⟨.bl b, H, I.kept (t' := tk) fun _ _ z => z, rfl, q⟩
/-- e.f, e a caught error that a name holds -/
def tCf (K : PySem.W.Frag) (f : Str) (te : TE) : TE := fun σ H Q => te σ H fun x H1 => ∃ (a D dd : Addr) (fs : List (Str × V)) (v : V), x = .ref a ∧ Caught H1 a D dd fs ∧ XfC K D ∧ PySem.W.findIn K (.ref D) f = some none ∧ fs.lookup f = some v ∧ Q v H1
theorem pe_cf {X : Cx} {e : Expr} {te : TE} {pos : Pos} {n : Str} (he : PE X e te) (hb : attributeBase e n X.env (eval e X.env) = eval e X.env := by rfl) : PE X (.Attribute e n pos) (tCf X.K n te) := by
  refine ⟨fun pins s σ H Q I h => ?_⟩
  refine attr_of hb (thn (he.run pins s σ H _ I h) fun u s1 hh => ?_)
  obtain ⟨x, H1, I1, rx, a, D, dd, fs, v, ex, hC, T, hno, l, q⟩ := hh
  subst ex
  obtain rfl : u = Value.ref a := rx
  obtain ⟨oe, od, mA, J, ho, hr, hl⟩ := hC.inst I1
  obtain ⟨u, hu, ru⟩ := RelO.some_of (v := v) (o := mA n) (by rw [← l]; exact hr n)
  exact HandSPX.exc_get I1.kIn J T.ga T.gg T.exC (PySem.W.findObj_own T.hdC hno rfl (by rw [hl, hu])) (handed_of ru) ⟨v, H1, I1.tok _, ru, q⟩
end
end Far

namespace Far
open PySem PySem.Spec PyProof.Rows L2
open C8 (pss_cut tCut)
open SX (S)
/-- what the written part says of NoPlace (at C), of its __init__ (at fI) and of FarError (at CF) -/
structure NpC (K : PySem.W.Frag) (mg : Str → Option Value) (C fI CF : Addr) : Prop where
  oex : OexC K C
  iC : PySem.W.findIn K (.ref C) "__init__" = some (some (.ref fI))
  tI : PySem.W.typeIn K (.ref fI) = some (.type "function")
  xf : XfC K C
  exc : ExcC K C
  no : PySem.W.findIn K (.ref C) "name" = some none
  gC : mg "NoPlace" = some (.ref C)
  gF : mg "FarError" = some (.ref CF)
  rd : PySem.W.readsIn K CF (.type "type") = true
  ga : PySem.W.specialIn K (.ref CF) "__getattribute__" = some (some (.builtin "type.__getattribute__"))
  vF : PySem.W.findCls K (.ref CF) (.type "type") "__init__" = some (.val (.builtin "ValueError.__init__"))
def clsBody (s : Stmt) : List Stmt := match s with
  | .ClassDef _ _ _ b _ _ _ _ _ _ _ => b
  | _ => []
abbrev s_np_init : Stmt := (clsBody (topS 5)).getD 0 (.Pass ⟨0, 0, 0, 0⟩)
abbrev N_np_init : List Str := ["self", "name"]
theorem sc_np_init : FnScope N_np_init ["self", "name"] (defScope s_np_init) := ⟨rfl, rfl, rfl, by decide +kernel, rfl, by decide +kernel, by decide +kernel⟩
theorem inV_strsT (l : Nm) (ls : List Nm) : inV (.str (S l)) ((ls.map S).map V.str) = decide (l ∈ ls) := inV_strs l ls
theorem pl0_of {H : Hp} {v : V} {pl : List Nm} {ts : List Tie} (h : Dt H v (treeD pl ts)) : ∃ (t a b : Addr), v = .ref t ∧ H t = some (.tup [.ref a, .ref b]) ∧ TupAt H a ((pl.map S).map V.str) := by
  obtain ⟨t, a, b, vs, e, h1, h2, _⟩ := dt_tree h
  exact ⟨t, a, b, e, h1, h2⟩
section
variable {P : Program} {w : World} {K : PySem.W.Frag} {mg : Str → Option Value} {base : Heap} {C fI CF : Addr}
def spInit (K : PySem.W.Frag) (C : Addr) : Sp := fun vs H Q _ => ∃ (a : Addr) (nm : Str), vs = [.ref a, .str nm] ∧ nm.length ≤ 1000 ∧ H a = some (exo a C none) ∧ ∀ d : Addr, H d = none → d ≠ a → Q .non (upd (upd H d (exd d [("name", .str nm)])) a (exo a C (some d)))
theorem ok_np_init (T : NpC K mg C fI CF) {fd : FuncData} (F : Fun K "__init__" "NoPlace.__init__" s_np_init fI fd) : FnOk P w K mg base (L2.CX P w) 1 fI fd ["self", "name"] (spInit K C) := by
  refine F.okX sc_np_init (fun vs H Q E h => ?_) (fun cdv A outer s H vs Q E hr h => ?_)
  · obtain ⟨a, nm, rfl, _⟩ := h
    rfl
  · obtain ⟨a, nm, rfl, hl, ha, q⟩ := h
    refine ⟨_, (pss_cons (ps_expr (pe_owninit (by rfl) T.gF T.rd T.ga T.vF (pa_cons (pv 0) (pa_cons (pe_joined (.cons (pe_fmt (pv 1)) (.cons pe_str .nil))) pa_nil)))) (pss_one (ps_ost (pv 0) (pv 1)))), ?_⟩
    refine ⟨_, rfl, _, rfl, .inl ⟨nm, rfl, Nat.le_trans hl (by decide), ?_⟩⟩
    have l1 : (Str.empty ++ nm).length ≤ 1000 := by
      rw [PySem.Str.length_append]
      show 0 + nm.length ≤ 1000
      omega
    refine ⟨nm, rfl, Nat.le_trans l1 (by decide), _, rfl, ?_, ?_⟩
    · rw [PySem.Str.length_append]
      have : (Str.ofString " is no place").length = 12 := by decide +kernel
      exact Nat.le_trans (Nat.add_le_add l1 (Nat.le_of_eq this)) (by decide)
    · refine ⟨a, C, _, rfl, (by show 1 ≤ 1000; decide), T.oex, ha, ?_⟩
      exact ⟨_, rfl, _, rfl, a, C, rfl, T.oex, T.no, .inl ⟨ha, fun d nd de => q d nd de⟩⟩
end
/-- a def that may raise, by its promise -/
structure CalX (P : Program) (w : World) (K : PySem.W.Frag) (mg : Str → Option Value) (base : Heap) (k : Nat) (x : Str) (sp : Sp) : Prop where
  ex : ∃ (f : Addr) (fd : FuncData) (ps : List Str), FnOk P w K mg base (L2.CX P w) k f fd ps sp ∧ mg x = some (.ref f) ∧ PySem.W.keepIn K (.ref f) = true ∧ Binds K fd ps []
theorem pe_cX {X : Cx} {W : WX} {k j : Nat} {x : Str} {sp : Sp} {p pos : Pos} {e : Expr} {es : List Expr} {t : TA} (tk : Takes X W) (c : CalX X.prog X.w X.K X.mg X.base k x sp) (hr : Room j X.A) (hk : k ≤ j) (hg : Gl X x) (ha : PA X (e :: es) t)
    (hdb : (x == ("__debug__" : Str)) = false := by decide) (he : starEach (e :: es) X.env = (false, eval e X.env) :: starEach es X.env := by rfl) (hpl : (backTo pos (starEach es X.env)).any (·.1) = false := by rfl) :
    PE X (.Call (.Name x p) (e :: es) [] pos) (tCallS sp (WE W) t) := by
  obtain ⟨f, fd, ps, F, hm, kp, b⟩ := c.ex
  exact pe_callS F (hr.mono hk) hg hm kp b (fun σ => passAt tk σ) ha hdb he hpl
end Far

namespace Far
open PySem PySem.Spec PyProof.Rows L2
open C8 (pss_cut tCut)
open SX (S)
/-- what the written part says of NoJoin (at J) -/
structure NjC (K : PySem.W.Frag) (mg : Str → Option Value) (J : Addr) : Prop where
  ex : PySem.W.excIn K J [.type "ValueError", .type "Exception", .type "BaseException", .type "object"] "ValueError.__new__" = true
  gC : mg "NoJoin" = some (.ref J)
  kC : PySem.W.keepIn K (.ref J) = true
  sub : PySem.W.subIn K (.ref J) (.type "BaseException") = some true
  ty : PySem.W.typeIn K (.ref J) = some (.type "type")
abbrev s_check_unlike : Stmt := topS 8
abbrev N_check_unlike : List Str := ["one", "other", "name"]
theorem sc_check_unlike : FnScope N_check_unlike ["one", "other"] (defScope s_check_unlike) := ⟨rfl, rfl, rfl, by decide +kernel, rfl, by decide +kernel, by decide +kernel⟩
section
variable {P : Program} {w : World} {K : PySem.W.Frag} {mg : Str → Option Value} {base : Heap} {J : Addr}
def spUnlikeX (J : Addr) : Sp := fun vs H Q E => ∃ (v v' : V) (pl pl' : List Nm) (ts ts' : List Tie), vs = [v, v'] ∧ Dt H v (treeD pl ts) ∧ Dt H v' (treeD pl' ts') ∧ (∀ x ∈ pl, NameOk x) ∧ ((∀ x ∈ pl, x ∉ pl') → Q .non H) ∧
  ((∃ x ∈ pl, x ∈ pl') → ∀ H' : Hp, Same H H' → E (.ref J) none H')
theorem ok_check_unlike {f : Addr} {fd : FuncData} (T : NjC K mg J) (F : Fun K "_check_unlike" "_check_unlike" s_check_unlike f fd) : FnOk P w K mg base (L2.CX P w) 1 f fd ["one", "other"] (spUnlikeX J) := by
  refine F.okX sc_check_unlike (fun vs H Q E h => ?_) (fun cdv A outer s H vs Q E hr h => ?_)
  · obtain ⟨v, v', pl, pl', ts, ts', rfl, _⟩ := h
    rfl
  · obtain ⟨v, v', pl, pl', ts, ts', rfl, hd, hd', ok, q, qE⟩ := h
    obtain ⟨t, a, b, rfl, ht, ha⟩ := pl0_of hd
    obtain ⟨t', a', b', rfl, ht', ha'⟩ := pl0_of hd'
    refine ⟨_, (pss_one (ps_for (passes_of rfl) rfl (pi_tup (pe_ix ix_tup (pv 0) pe_int (fun _ _ => rfl))) (pg_name (i := 2) sc_check_unlike.nd rfl (.inl rfl))
        (pss_one (ps_if (pt_cmpR op_in_seq (pv 2) (pe_ix ix_tup (pv 1) pe_int (fun _ _ => rfl)) rfl)
          (pss_one (ps_raise rfl (takes_of rfl rfl rfl rfl) (SkE.pmk_own1 PySem.F.excBase_ValueError T.ex T.gC T.kC (raises_own T.sub T.ty) (by rfl) (pe_joined (.cons (pe_fmt (pv 2)) (.cons pe_str .nil))))))
          pss_nil)))), ?_⟩
    have all : ∀ {ls pre post : List Nm} {l : Nm}, True := fun {_ _ _ _} => trivial
    refine ⟨_, rfl, t, _, 0, .ref a, rfl, rfl, SqT.of ht, atI_nat (j := 0) rfl, a, rfl, ⟨_, ha.sq⟩, for_tup (K := K) (a := a) (xs := (pl.map S).map V.str) (fun i σ' H' => (∃ x2, σ' = [some (.ref t), some (.ref t'), x2]) ∧ H' = H ∧ ∀ x ∈ pl.take i, x ∉ pl') ⟨⟨_, rfl⟩, rfl, fun x hx => by cases hx⟩ (fun i σ' H' _ hP => hP.2.1 ▸ ha.sq) (fun i x σ' H' hi hP => ?_) (fun σ' H' hP => ?_)⟩
    · obtain ⟨⟨x2, rfl⟩, rfl, hin⟩ := hP
      rw [List.getElem?_map, List.getElem?_map] at hi
      cases el : pl[i]? with
      | none =>
        rw [el] at hi
        cases hi
      | some l =>
        rw [el] at hi
        have ex : x = .str (S l) := (Option.some.inj hi).symm
        subst ex
        refine ⟨_, rfl, _, rfl, t', _, 0, .ref a', rfl, rfl, SqT.of ht', atI_nat (j := 0) rfl, a', _, rfl, .inr ha'.sq, rfl, flat_strs pl', _, rfl, ?_⟩
        rw [inV_strs]
        by_cases c : l ∈ pl'
        · rw [decide_eq_true c]
          refine iteT ?_
          have sl : (S l).length ≤ 1000 := by
            have := ok l (List.mem_of_getElem? el)
            rw [SX.S_len]
            exact Nat.le_trans this.2.1 (by decide)
          refine ⟨_, rfl, .inl ⟨S l, rfl, Nat.le_trans sl (by decide), ?_⟩⟩
          have l1 : (Str.empty ++ S l).length ≤ 1000 := by
            rw [PySem.Str.length_append]
            show 0 + (S l).length ≤ 1000
            omega
          refine ⟨S l, rfl, Nat.le_trans l1 (by decide), _, rfl, ?_, ?_⟩
          · rw [PySem.Str.length_append]
            have : (Str.ofString " is in both trees").length = 17 := by decide +kernel
            exact Nat.le_trans (Nat.add_le_add l1 (Nat.le_of_eq this)) (by decide)
          · exact qE ⟨l, List.mem_of_getElem? el, c⟩ _ (Same.refl _)
        · rw [decide_eq_false c]
          refine iteF ⟨⟨_, rfl⟩, rfl, fun y hy => ?_⟩
          rw [List.take_add_one, el] at hy
          rcases List.mem_append.mp hy with h | h
          · exact hin y h
          · have : y = l := by simpa using h
            rw [this]
            exact c
    · obtain ⟨⟨x2, rfl⟩, rfl, hin⟩ := hP
      rw [List.length_map, List.length_map, List.take_length] at hin
      exact q hin
end
theorem cat_any {K : PySem.W.Frag} {H : Hp} {a b : Addr} {xs ys : List V} {Q : VK} (ha : TupAt H a xs) (hb : TupAt H b ys) (l : xs.length + ys.length ≤ sizeLine) (k : ∀ p H', Same H H' → TupAt H' p (xs ++ ys) → Q (.ref p) H') : rCatA K (.ref a) (.ref b) H Q :=
  ⟨a, b, xs, ys, rfl, rfl, ha.sq, hb.sq, l, fun e => k b H (Same.refl _) (by rw [e]; exact hb), fun _ e => k a H (Same.refl _) (by rw [e, List.append_nil]; exact ha), fun _ _ p n => k p _ (same_new (Same.refl _) n) (.inl upd_same)⟩
theorem cat_any0 {K : PySem.W.Frag} {H : Hp} {a b : Addr} {xs ys : List V} {Q : VK} (ha : H a = some (.tup xs)) (hb : H b = some (.tup ys)) (l : xs.length + ys.length ≤ sizeLine) (k : ∀ p H', Same H H' → H' p = some (.tup (xs ++ ys)) → Q (.ref p) H') : rCatA K (.ref a) (.ref b) H Q :=
  ⟨a, b, xs, ys, rfl, rfl, SqT.of ha, SqT.of hb, l, fun e => k b H (Same.refl _) (by rw [e]; exact hb), fun _ e => k a H (Same.refl _) (by rw [e, List.append_nil]; exact ha), fun _ _ p n => k p _ (same_new (Same.refl _) n) upd_same⟩
theorem names_dt {H : Hp} {q : Addr} {ls : List Nm} (h : TupAt H q ((ls.map S).map V.str)) (ne : ls ≠ []) : Dt H (.ref q) (.tuple (ls.map strD)) := h.elim (fun h => .tup h (dt_strs H ls)) fun ⟨o, d, h⟩ => .tupZ rfl ne d h
abbrev s_joined : Stmt := topS 7
abbrev N_joined : List Str := ["one", "other", "first", "second", "length"]
theorem sc_joined : FnScope N_joined ["one", "other", "first", "second", "length"] (defScope s_joined) := ⟨rfl, rfl, rfl, by decide +kernel, rfl, by decide +kernel, by decide +kernel⟩
section
variable {P : Program} {w : World} {K : PySem.W.Frag} {mg : Str → Option Value} {base : Heap} {J C fI CF : Addr}
def spJoinX (J C : Addr) : Sp := fun vs H Q E => ∃ (v v' : V) (pl pl' : List Nm) (ts ts' : List Tie) (u x : Nm) (k : Int), vs = [v, v', .str (S u), .str (S x), .int k] ∧ Dt H v (treeD pl ts) ∧ Dt H v' (treeD pl' ts') ∧ (∀ y ∈ pl, NameOk y) ∧ NameOk u ∧ NameOk x ∧ pl ≠ [] ∧ pl.length ≤ 1000 ∧ pl'.length ≤ 1000 ∧ ts.length ≤ 1000 ∧ ts'.length ≤ 1000 ∧
  ((∀ y ∈ pl, y ∉ pl') → u ∈ pl → x ∈ pl' → ∀ (H' : Hp) (r : Addr), Same H H' → Dt H' (.ref r) (treeD (pl ++ pl') (ts ++ ts' ++ [(u, x, k)])) → Q (.ref r) H') ∧
  ((∃ y ∈ pl, y ∈ pl') → ∀ H' : Hp, Same H H' → E (.ref J) none H') ∧
  ((∀ y ∈ pl, y ∉ pl') → ∀ l, ((u ∉ pl ∧ l = u) ∨ (u ∈ pl ∧ x ∉ pl' ∧ l = x)) → ∀ (H' : Hp) (d : Addr), Same H H' → H' d = some (.xd [("name", .str (S l))]) → E (.ref C) (some d) H')
theorem raise_end {K : PySem.W.Frag} {H : Hp} {C : Addr} {l : Nm} {E : XK} (okl : NameOk l) (qE : ∀ (H' : Hp) (d : Addr), Same H H' → H' d = some (.xd [("name", .str (S l))]) → E (.ref C) (some d) H') :
    ([V.str (S l)] : List V).length ≤ 1000 ∧ ∀ e, H e = none → spInit K C (.ref e :: ([V.str (S l)] ++ [])) (upd H e (exo e C none)) (fun v H2 => v = .non ∧ ∃ (d : Addr) (fs : List (Str × V)), H2 e = some (exo e C (some d)) ∧ H2 d = some (exd d fs) ∧ H d = none ∧ E (.ref C) (some d) (upd (del H2 e) d (.xd fs))) (fun _ _ _ => False) := by
  refine ⟨(by show 1 ≤ 1000; decide), fun e ne => ?_⟩
  have sl : (S l).length ≤ 1000 := by
    rw [SX.S_len]
    exact Nat.le_trans okl.2.1 (by decide)
  refine ⟨e, S l, rfl, sl, upd_same, fun d nd de => ⟨rfl, d, _, upd_same, by rw [upd_ne de, upd_same], ?_, ?_⟩⟩
  · rw [upd_ne de] at nd
    exact nd
  · refine qE _ d ?_ upd_same
    intro b o hb
    have ba : b ≠ e := ne_of_none hb ne
    have bd : b ≠ d := fun z => by
      rw [upd_ne de, ← z] at nd
      rw [hb] at nd
      cases nd
    rw [upd_ne bd, del_ne ba, upd_ne ba, upd_ne bd, upd_ne ba]
    exact hb
theorem ok_joined {f : Addr} {fd fdi : FuncData} (T : NpC K mg C fI CF) (Fi : FnOk P w K mg base (L2.CX P w) 1 fI fdi ["self", "name"] (spInit K C)) (bi : Binds K fdi ["self", "name"] []) (C_check_unlike : CalX P w K mg base 1 "_check_unlike" (spUnlikeX J)) (F : Fun K "joined" "joined" s_joined f fd) : FnOk P w K mg base (L2.CX P w) 3 f fd ["one", "other", "first", "second", "length"] (spJoinX J C) := by
  refine F.okX sc_joined (fun vs H Q E h => ?_) (fun cdv A outer s H vs Q E hr h => ?_)
  · obtain ⟨v, v', pl, pl', ts, ts', u, x, k, rfl, _⟩ := h
    rfl
  · obtain ⟨v, v', pl, pl', ts, ts', u, x, k, rfl, hd, hd', ok, oku, okx, pne, l1, l2, l3, l4, q, qJ, qP⟩ := h
    obtain ⟨t, a, b, vs, rfl, ht, ha, hb, hA⟩ := dt_tree hd
    obtain ⟨t', a', b', vs', rfl, ht', ha', hb', hA'⟩ := dt_tree hd'
    have vl : vs.length = ts.length := by
      have := DtAll.len hA
      rwa [List.length_map] at this
    have vl' : vs'.length = ts'.length := by
      have := DtAll.len hA'
      rwa [List.length_map] at this
    refine ⟨_, (pss_cons (ps_expr (pe_cX (takes_of rfl rfl rfl rfl) C_check_unlike hr (by decide) rfl (pa_cons (pv 0) (pa_cons (pv 1) pa_nil))))
      (pss_cut (ps_if (pt_cmpR op_notIn_seq (pv 2) (pe_ix ix_tup (pv 0) pe_int (fun _ _ => rfl)) rfl)
        (pss_one (ps_raise rfl (takes_of rfl rfl rfl rfl) (pmk_oex T.oex T.iC T.tI Fi (hr.mono (by decide)) bi .nil passL (by rfl) T.gC (pa_cons (pv 2) pa_nil))))
        pss_nil)
      (pss_cut (ps_if (pt_cmpR op_notIn_seq (pv 3) (pe_ix ix_tup (pv 1) pe_int (fun _ _ => rfl)) rfl)
        (pss_one (ps_raise rfl (takes_of rfl rfl rfl rfl) (pmk_oex T.oex T.iC T.tI Fi (hr.mono (by decide)) bi .nil passL (by rfl) T.gC (pa_cons (pv 3) pa_nil))))
        pss_nil)
      (pss_one (ps_ret (pe_tup (pa_cons (pe_op op_catA (pe_ix ix_tup (pv 0) pe_int (fun _ _ => rfl)) (pe_ix ix_tup (pv 1) pe_int (fun _ _ => rfl))) (pa_cons (pe_op op_catA (pe_op op_catA (pe_ix ix_tup (pv 0) pe_int (fun _ _ => rfl)) (pe_ix ix_tup (pv 1) pe_int (fun _ _ => rfl))) (pe_tup (pa_cons (pe_tup (pa_cons (pv 2) (pa_cons (pv 3) (pa_cons (pv 4) pa_nil)))) pa_nil))) pa_nil)))))))), ?_⟩
    refine ⟨_, rfl, _, rfl, .ref t, .ref t', pl, pl', ts, ts', rfl, hd, hd', ok, fun dis => ?_, fun sh H' sm => qJ sh H' sm⟩
    refine ⟨fun σ' H' => σ' = [some (.ref t), some (.ref t'), some (.str (S u)), some (.str (S x)), some (.int k)] ∧ H' = H ∧ u ∈ pl, ?_, fun σ' H' hM => ?_⟩
    · refine ⟨_, rfl, _, rfl, t, _, 0, .ref a, rfl, rfl, SqT.of ht, atI_nat (j := 0) rfl, a, _, rfl, .inr ha.sq, rfl, flat_strs pl, _, rfl, ?_⟩
      rw [inV_strs]
      by_cases c : u ∈ pl
      · rw [decide_eq_true c]
        exact iteF ⟨rfl, rfl, c⟩
      · rw [decide_eq_false c]
        exact iteT ⟨_, rfl, raise_end oku (qP dis u (.inl ⟨c, rfl⟩))⟩
    · obtain ⟨rfl, rfl, hu⟩ := hM
      refine ⟨fun σ' H'' => σ' = [some (.ref t), some (.ref t'), some (.str (S u)), some (.str (S x)), some (.int k)] ∧ H'' = H' ∧ x ∈ pl', ?_, fun σ' H'' hM => ?_⟩
      · refine ⟨_, rfl, _, rfl, t', _, 0, .ref a', rfl, rfl, SqT.of ht', atI_nat (j := 0) rfl, a', _, rfl, .inr ha'.sq, rfl, flat_strs pl', _, rfl, ?_⟩
        rw [inV_strs]
        by_cases c : x ∈ pl'
        · rw [decide_eq_true c]
          exact iteF ⟨rfl, rfl, c⟩
        · rw [decide_eq_false c]
          exact iteT ⟨_, rfl, raise_end okx (qP dis x (.inr ⟨hu, c, rfl⟩))⟩
      · obtain ⟨rfl, rfl, hx⟩ := hM
        refine ⟨_, rfl, t, _, 0, .ref a, rfl, rfl, SqT.of ht, atI_nat (j := 0) rfl, _, rfl, t', _, 0, .ref a', rfl, rfl, SqT.of ht', atI_nat (j := 0) rfl, ?_⟩
        refine cat_any ha ha' (by rw [List.length_map, List.length_map, List.length_map, List.length_map]; exact sz_le (by omega)) fun p1 H1 S1 hp1 => ?_
        refine ⟨_, rfl, t, _, 1, .ref b, rfl, rfl, SqT.of (S1 _ _ ht), atI_nat (j := 1) rfl, _, rfl, t', _, 1, .ref b', rfl, rfl, SqT.of (S1 _ _ ht'), atI_nat (j := 1) rfl, ?_⟩
        refine cat_any0 (S1 _ _ hb) (S1 _ _ hb') (by exact sz_le (by omega)) fun p2 H2 S2 hp2 => ?_
        refine ⟨_, rfl, _, rfl, _, rfl, (by show 3 ≤ sizeLine; decide), fun p3 n3 => ⟨(by show 1 ≤ sizeLine; decide), fun p4 n4 => ?_⟩⟩
        have S4 := same_new (o := .tup [.ref p3]) (same_new (o := .tup [.str (S u), .str (S x), .int k]) (Same.refl H2) n3) n4
        refine cat_any0 (S4 _ _ hp2) upd_same (by rw [List.length_append]; exact sz_le (by simp; omega)) fun p5 H5 S5 hp5 => ?_
        refine ⟨(by show 2 ≤ sizeLine; decide), fun r nr => ?_⟩
        have S15 := (S2.trans S4).trans S5
        have tkr : TK H5 (upd H5 r (.tup [.ref p1, .ref p5])) := TK.new nr
        have all5 : DtAll (upd H5 r (.tup [.ref p1, .ref p5])) (vs ++ vs' ++ [.ref p3]) ((ts ++ ts' ++ [(u, x, k)]).map tieD) := by
          rw [List.map_append, List.map_append]
          have tk := (TK.of (S1.trans S15)).trans tkr
          have h3 : H5 p3 = some (.tup [.str (S u), .str (S x), .int k]) := S5 _ _ ((TK.new n4).tup _ _ upd_same)
          exact DtAll.app (DtAll.app (DtAll.keep tk hA) (DtAll.keep tk hA')) (.cons (.tup (tkr.tup _ _ h3) (.cons (.str _) (.cons (.str _) (.cons (.int _) .nil)))) .nil)
        have nm : TupAt (upd H5 r (.tup [.ref p1, .ref p5])) p1 (((pl ++ pl').map S).map V.str) := by
          rw [List.map_append, List.map_append]
          exact (hp1.same S15).upd nr
        have nd5 : Dt (upd H5 r (.tup [.ref p1, .ref p5])) (.ref p5) (.tuple ((ts ++ ts' ++ [(u, x, k)]).map tieD)) := by
          exact .tup (tkr.tup _ _ hp5) all5
        exact q dis hu hx _ r (same_new (S1.trans S15) nr) (.tup upd_same (.cons (names_dt nm (by simp [pne])) (.cons nd5 .nil)))
end
end Far

namespace Far
open PySem PySem.Spec PyProof.Rows L2
open C8 (pss_cut tCut)
open SX (S)
abbrev s_law_caught : Stmt := topS 17
abbrev N_law_caught : List Str := ["one", "other", "first", "second", "length", "error", "e"]
theorem sc_law_caught : FnScope N_law_caught ["one", "other", "first", "second", "length"] (defScope s_law_caught) := ⟨rfl, rfl, rfl, by decide +kernel, rfl, by decide +kernel, by decide +kernel⟩
section
variable {P : Program} {w : World} {K : PySem.W.Frag} {mg : Str → Option Value} {base : Heap} {J C aF : Addr}
def spCaught (J C : Addr) : Sp := fun vs H Q _ => ∃ (v v' : V) (pl pl' : List Nm) (ts ts' : List Tie) (u x : Nm) (k : Int), vs = [v, v', .str (S u), .str (S x), .int k] ∧ Dt H v (treeD pl ts) ∧ Dt H v' (treeD pl' ts') ∧ (∀ y ∈ pl, NameOk y) ∧ NameOk u ∧ NameOk x ∧ pl ≠ [] ∧ pl.length ≤ 1000 ∧ pl'.length ≤ 1000 ∧ ts.length ≤ 1000 ∧ ts'.length ≤ 1000 ∧
  ¬ ((∀ y ∈ pl, y ∉ pl') ∧ u ∈ pl ∧ x ∈ pl') ∧
  ((∃ y ∈ pl, y ∈ pl') → ∀ (H' : Hp) (a : Addr), Same H H' → H' a = some (caughtO a (.ref J) none) → Q (.ref a) H') ∧
  ((∀ y ∈ pl, y ∉ pl') → ∀ l, ((u ∉ pl ∧ l = u) ∨ (u ∈ pl ∧ x ∉ pl' ∧ l = x)) → ∀ (H' : Hp) (a d : Addr), Same H H' → Caught H' a C d [("name", .str (S l))] → Q (.ref a) H')
theorem ok_caught {f : Addr} {fd : FuncData} (F : Fun K "_law_caught" "_law_caught" s_law_caught f fd) (gF : mg "FarError" = some (.ref aF)) (kJ : PySem.W.exmOne K (.ref J) (.ref aF) = some true) (kP : PySem.W.exmOne K (.ref C) (.ref aF) = some true) (Cjoined : CalX P w K mg base 3 "joined" (spJoinX J C)) : FnOk P w K mg base CX0 4 f fd ["one", "other", "first", "second", "length"] (spCaught J C) := by
  refine F.ok sc_law_caught (fun vs H Q E h => ?_) (fun cdv A outer s H vs Q E hr h => ?_)
  · obtain ⟨v, v', pl, pl', ts, ts', u, x, k, rfl, _⟩ := h
    rfl
  · obtain ⟨v, v', pl, pl', ts, ts', u, x, k, rfl, hd, hd', ok, oku, okx, pne, l1, l2, l3, l4, no, qJ, qP⟩ := h
    refine ⟨_, (pss_cons (ps_set (i := 5) sc_law_caught.nd rfl (.inl rfl) pe_non)
      (pss_cons (ps_try_keep (i := 6) (j := 5) rfl rfl rfl sc_law_caught.nd rfl rfl ⟨rfl, by decide, .inl gF⟩ takes0 (fun W pn xe tk _ => pss_one (ps_expr (pe_cX tk Cjoined hr (by decide) rfl (pa_cons (pv 0) (pa_cons (pv 1) (pa_cons (pv 2) (pa_cons (pv 3) (pa_cons (pv 4) pa_nil)))))))) (fun a oe cls d pn _ _ => pss_one (ps_set (i := 5) sc_law_caught.nd rfl (.inl rfl) (pv 6))) (fun D σ H a h1 h2 => ⟨.ref a, h1, h2⟩))
      (pss_one (ps_ret (pv 5))))), ?_⟩
    refine ⟨_, rfl, _, rfl, _, rfl, _, rfl, _, rfl, v, v', pl, pl', ts, ts', u, x, k, rfl, hd, hd', ok, oku, okx, pne, l1, l2, l3, l4, fun h1 h2 h3 => absurd ⟨h1, h2, h3⟩ no, fun sh H' sm => ?_, fun dis l bad H' d sm hx => ?_⟩
    · refine ⟨true, kJ, fun _ a na => ?_, fun z => by cases z⟩
      exact ⟨_, rfl, qJ sh _ a (same_new sm na) upd_same⟩
    · refine ⟨true, kP, fun _ a na => ?_, fun z => by cases z⟩
      have da : d ≠ a := ne_of_none hx na
      have S1 := same_new (o := caughtO a (.ref C) (some d)) sm na
      exact ⟨_, rfl, qP dis l bad _ a d S1 ⟨upd_same, by rw [upd_ne da]; exact hx⟩⟩
end
end Far

namespace Far
open PySem PySem.Spec PyProof.Rows L2
/-- an error that was caught, of the class at D, with its own dict or without -/
def Ct (H : Hp) (a D : Addr) : Prop := (∃ dd fs, Caught H a D dd fs) ∨ H a = some (caughtO a (.ref D) none)
theorem Ct.same {H H' : Hp} {a D : Addr} (c : Ct H a D) (s : Same H H') : Ct H' a D := c.elim (fun ⟨dd, fs, h⟩ => .inl ⟨dd, fs, h.same s⟩) fun h => .inr (s _ _ h)
section
variable {X : Cx} {pins : List (Addr × Obj)} {σ : L2.St} {H : Hp} {s : Shared}
theorem Ct.kit {a D : Addr} (c : Ct H a D) (T : ExcC X.K D) (I : Inv X pins σ H s) : ∃ P : Heap → Prop, PySem.W.KitX X.K (.ref a) (.ref D) P ∧ P s.heap := by
  rcases c with ⟨dd, fs, hC⟩ | hC
  · obtain ⟨oe, od, mA, J, _⟩ := hC.inst I
    exact ⟨_, kitx_own T, J⟩
  · obtain ⟨oe, vs, ha, hz, hd⟩ := caughtO_at I.hok hC
    exact ⟨_, PySem.W.handS_kitx_exc T.hg T.hk T.hs T.hd T.ha T.hn T.ht T.hm, ⟨ha, hz.1, by unfold PySem.W.notCls; rw [hd] <;> rfl, by rw [hz.2]; trivial⟩⟩
/-- isinstance(e, c) -/
def rIsA (K : PySem.W.Frag) : List V → Hp → VK → Prop := fun xs H Q => ∃ (a D : Addr) (c : V) (cv : Value) (b : Bool), xs = [.ref a, c] ∧ Ct H a D ∧ ExcC K D ∧ ClsV c cv ∧ PySem.W.kitOne K (.ref D) cv = some b ∧ Q (.bl b) H
theorem call_isA {X : Cx} {K : PySem.W.Frag} (eK : X.K = K := by rfl) : CallR X (.builtin "isinstance") (rIsA K) := by
  subst eK
  intro pins s σ H xs us Q I r h
  obtain ⟨a, D, c, cv, b, rfl, hC, T, k, e, q⟩ := h
  obtain ⟨u1, u2, rfl, r1, r2⟩ := vals2 r
  have e2 := k.eq r2
  subst e2
  cases (show u1 = Value.ref a from r1)
  obtain ⟨P, Z, p⟩ := hC.kit T I
  exact PySem.W.kia_one Z I.kIn p e (fun z => nomatch z) fun tk => ⟨.bl b, H, I.kept (t' := tk) fun _ _ z => z, rfl, q⟩
/-- isinstance(e, (c, ..)) -/
def rIsAT (K : PySem.W.Frag) : List V → Hp → VK → Prop := fun xs H Q => ∃ (a D tp : Addr) (cs : List V) (ws : List Value) (b : Bool), xs = [.ref a, .ref tp] ∧ Ct H a D ∧ ExcC K D ∧ H tp = some (.tup cs) ∧ Paired ClsV cs ws ∧ PySem.W.kitAny K (.ref D) ws = some b ∧ Q (.bl b) H
theorem call_isAT {X : Cx} {K : PySem.W.Frag} (eK : X.K = K := by rfl) : CallR X (.builtin "isinstance") (rIsAT K) := by
  subst eK
  intro pins s σ H xs us Q I r h
  obtain ⟨a, D, tp, cs, ws, b, rfl, hC, T, hT, k, e, q⟩ := h
  obtain ⟨u1, u2, rfl, r1, r2⟩ := vals2 r
  cases (show u2 = Value.ref tp from r2)
  cases (show u1 = Value.ref a from r1)
  obtain ⟨P, Z, p⟩ := hC.kit T I
  obtain ⟨_, its, rv, o, h1, h2, n, h3⟩ := (show ObjOk X.prog X.w H s.heap tp (.tup cs) from I.hok tp _ hT)
  have e3 := ClsV.all k rv
  subst e3
  obtain ⟨oc, od, dt, sl⟩ := o
  simp only at h2 h3
  subst h2 h3
  exact PySem.W.kia_tup Z I.kIn p h1 e (fun z => nomatch z) fun tk => ⟨.bl b, H, I.tok tk, rfl, q⟩
end
end Far

namespace Far
open PySem PySem.Spec PyProof.Rows L2
open C8 (pss_cut tCut)
open SX (S)
theorem bt_ValueError : bootBuiltins ("ValueError" : Str) = some (.type "ValueError") := by decide +kernel
/-- the classes, and what isinstance says of a NoJoin (J) and of a NoPlace (C) -/
structure KindJ (K : PySem.W.Frag) (mg : Str → Option Value) (J C aA aT : Addr) : Prop where
  gNoAsk : mg "NoAsk" = some (.ref aA)
  gNoPlace : mg "NoPlace" = some (.ref C)
  gNoTree : mg "NoTree" = some (.ref aT)
  gNoJoin : mg "NoJoin" = some (.ref J)
  excJ : ExcC K J
  excC : ExcC K C
  xf : XfC K C
  no : PySem.W.findIn K (.ref C) "name" = some none
  jA : PySem.W.kitOne K (.ref J) (.ref aA) = some false
  jC : PySem.W.kitOne K (.ref J) (.ref C) = some false
  jT : PySem.W.kitOne K (.ref J) (.ref aT) = some false
  jV : PySem.W.kitOne K (.ref J) (.type "ValueError") = some true
  cA : PySem.W.kitOne K (.ref C) (.ref aA) = some false
  cJ : PySem.W.kitOne K (.ref C) (.ref J) = some false
  cT : PySem.W.kitOne K (.ref C) (.ref aT) = some false
  cV : PySem.W.kitOne K (.ref C) (.type "ValueError") = some true
structure TxtI (mg : Str → Option Value) : Prop where
  isinstance : mg "isinstance" = none
  ValueError : mg "ValueError" = none
theorem kit_self {K : PySem.W.Frag} {a : Addr} : PySem.W.kitOne K (.ref a) (.ref a) = some true := by
  unfold PySem.W.kitOne
  rw [if_pos (by simp)]
theorem kit_none {K : PySem.W.Frag} {t x y z : Value} (h1 : PySem.W.kitOne K t x = some false) (h2 : PySem.W.kitOne K t y = some false) (h3 : PySem.W.kitOne K t z = some false) : PySem.W.kitAny K t [x, y, z] = some false :=
  kitAny_cons h1 (fun _ => kitAny_cons h2 (fun _ => kitAny_cons h3 (fun _ => rfl) fun z => by cases z) fun z => by cases z) fun z => by cases z
abbrev s_law_is_join : Stmt := topS 18
abbrev N_law_is_join : List Str := ["error"]
theorem sc_law_is_join : FnScope N_law_is_join ["error"] (defScope s_law_is_join) := ⟨rfl, rfl, rfl, by decide +kernel, rfl, by decide +kernel, by decide +kernel⟩
section
variable {P : Program} {w : World} {K : PySem.W.Frag} {mg : Str → Option Value} {base : Heap} {J C aA aT : Addr}
def spIsJoin (J : Addr) : Sp := fun vs H Q _ => ∃ a : Addr, vs = [.ref a] ∧ H a = some (caughtO a (.ref J) none) ∧ ∀ H', Same H H' → Q (.bl true) H'
theorem ok_is_join {f : Addr} {fd : FuncData} (F : Fun K "_law_is_join" "_law_is_join" s_law_is_join f fd) (T : TxtI mg) (G : KindJ K mg J C aA aT) : FnOk P w K mg base CX0 1 f fd ["error"] (spIsJoin J) := by
  refine F.ok sc_law_is_join (fun vs H Q E h => ?_) (fun cdv A outer s H vs Q E hr h => ?_)
  · obtain ⟨a, rfl, _⟩ := h
    rfl
  · obtain ⟨a, rfl, hC, q⟩ := h
    refine ⟨_, (pss_cut (ps_if (PW.pt (pw_or (pt_val (pe_callB (call_isAT (K := K)) (by rfl) T.isinstance bt_isinstance (pa_cons (pv 0) (pa_cons (pe_tup (pa_cons (pe_glob (v := .ref aA) rfl G.gNoAsk rfl) (pa_cons (pe_glob (v := .ref C) rfl G.gNoPlace rfl) (pa_cons (pe_glob (v := .ref aT) rfl G.gNoTree rfl) pa_nil)))) pa_nil)))) (pw_or1 (pt_not (pt_val (pe_callB (call_isA (K := K)) (by rfl) T.isinstance bt_isinstance (pa_cons (pv 0) (pa_cons (pe_bltn (v := .ty "ValueError") (by rfl) T.ValueError bt_ValueError rfl) pa_nil))))))))
        (pss_one (ps_ret pe_bl))
        pss_nil)
      (pss_one (ps_ret (pe_callB (call_isA (K := K)) (by rfl) T.isinstance bt_isinstance (pa_cons (pv 0) (pa_cons (pe_glob (v := .ref J) rfl G.gNoJoin rfl) pa_nil)))))), ?_⟩
    refine ⟨fun σ' H' => σ' = [some (.ref a)] ∧ Same H H', ?_, fun σ' H' hM => ?_⟩
    · refine ⟨_, rfl, (by show 3 ≤ sizeLine; decide), fun p np => ?_⟩
      have S1 := same_new (o := .tup [.ref aA, .ref C, .ref aT]) (Same.refl H) np
      refine ⟨a, J, p, _, _, false, rfl, Ct.same (.inr hC) S1, G.excJ, upd_same, .cons (.own _) (.cons (.own _) (.cons (.own _) .nil)), kit_none G.jA G.jC G.jT, ?_⟩
      refine ⟨_, rfl, iteF ?_⟩
      exact ⟨_, rfl, a, J, .ty "ValueError", .type "ValueError", true, rfl, Ct.same (.inr hC) S1, G.excJ, .ty _, G.jV, _, rfl, iteF ⟨rfl, S1⟩⟩
    · obtain ⟨rfl, S1⟩ := hM
      exact ⟨_, rfl, a, J, .ref J, .ref J, true, rfl, Ct.same (.inr hC) S1, G.excJ, .own _, kit_self, q _ S1⟩
end
end Far

namespace Far
open PySem PySem.Spec PyProof.Rows L2
open C8 (pss_cut tCut)
open SX (S)
open RZ (ItzT iZipA pi_zipA)
structure TxtS (mg : Str → Option Value) : Prop where
  isinstance : mg "isinstance" = none
  tuple : mg "tuple" = none
  str : mg "str" = none
  int : mg "int" = none
  bool : mg "bool" = none
  len : mg "len" = none
  zip : mg "zip" = none
/-- what two told things have in common: texts, whole numbers, tuples of such -/
inductive Plain : Nat → PyData → Prop
  | non (n : Nat) : Plain (n + 1) .none
  | str (n : Nat) (x : Str) : Plain (n + 1) (.str x)
  | int (n : Nat) (i : Int) : Plain (n + 1) (.int i)
  | tup {n : Nat} {ds : List PyData} : (∀ d ∈ ds, Plain n d) → ds.length ≤ 1000 → Plain (n + 1) (.tuple ds)
theorem kit_cls (K : PySem.W.Frag) {a b : String} {r : Bool} (h : kitB a b = some r) : PySem.W.kitOne K (.type a) (.type b) = some r := kit_ty h
abbrev s_law_same : Stmt := topS 12
abbrev N_law_same : List Str := ["found", "due", "one", "other"]
theorem sc_law_same : FnScope N_law_same ["found", "due"] (defScope s_law_same) := ⟨rfl, rfl, rfl, by decide +kernel, rfl, by decide +kernel, by decide +kernel⟩
section
variable {P : Program} {w : World} {K : PySem.W.Frag} {mg : Str → Option Value} {base : Heap}
theorem zip_it {K : PySem.W.Frag} {a b : Addr} {xs ys : List V} {g : TG} {tt : TT} {te : TE} {vs : List Nat} {σ : L2.St} {H1 : Hp} {D : Addr} {Qd : Hp → Prop} (len : xs.length = ys.length) (Pv : Nat → Hp → Prop) (h0 : Pv 0 (upd H1 D (.lst []))) (hl : ∀ i H, Pv i H → SqT K H a xs ∧ SqT K H b ys)
    (hs : ∀ i x y H T, xs[i]? = some x → ys[i]? = some y → Pv i H → H T = none → g (.ref T) (wipe σ vs) (upd H T (.tup [x, y])) fun σ2 H2 => wipe σ2 vs = wipe σ vs ∧ tt σ2 H2 fun b H3 =>
      if b = true then te σ2 H3 fun y H4 => ∃ acc, H4 D = some (.lst acc) ∧ acc.length < sizeLine ∧ Pv (i + 1) (upd H4 D (.lst (acc ++ [y]))) else Pv (i + 1) H3) (hd : ∀ H, Pv xs.length H → Qd H) :
    ∃ W : Nat → Nat → Hp → Prop, (∃ m, W 0 m (upd H1 D (.lst []))) ∧ ∀ i m H, W i m H →
      ((ItzT K a b).stop i H ∧ Qd H) ∨ ((ItzT K a b).go i H ∧ ∃ Nx : Hp → Prop, (∀ H', Nx H' → ∃ m', m' < m ∧ W (i + 1) m' H') ∧ ∀ v H', (ItzT K a b).yld i H v H' → g v (wipe σ vs) H' fun σ2 H2 => wipe σ2 vs = wipe σ vs ∧ tt σ2 H2 fun b H3 =>
        if b = true then te σ2 H3 fun y H4 => ∃ acc, H4 D = some (.lst acc) ∧ acc.length < sizeLine ∧ Nx (upd H4 D (.lst (acc ++ [y]))) else Nx H3) := by
  refine ⟨fun i m H => m = xs.length - i ∧ i ≤ xs.length ∧ Pv i H, ⟨xs.length, by simp, Nat.zero_le _, h0⟩, fun i m H ⟨em, hi, p⟩ => ?_⟩
  obtain ⟨q1, q2⟩ := hl i H p
  by_cases lt : i < xs.length
  · have lt2 : i < ys.length := by omega
    refine .inr ⟨⟨xs, ys, xs[i], ys[i], q1, q2, by simp [lt], by simp [lt2]⟩, Pv (i + 1), fun H' p' => ⟨xs.length - (i + 1), by omega, rfl, lt, p'⟩, fun v H' ⟨T, x, y, ev, nT, eH, hx, hy⟩ => ?_⟩
    rw [ev, eH]
    exact hs i x y H T (hx xs q1) (hy ys q2) p nT
  · have e : i = xs.length := by omega
    rw [e] at p
    exact .inl ⟨⟨xs, ys, q1, q2, .inl (by omega)⟩, hd H p⟩
/-- two that stand for the same data (of depth below n) are the same -/
def spSame (n : Nat) : Sp := fun vs H Q _ => ∃ (u v : V) (d : PyData), vs = [u, v] ∧ Dt H u d ∧ Dt H v d ∧ Plain n d ∧ ∀ H' : Hp, Same H H' → Q (.bl true) H'
theorem dt_any {H : Hp} {u : V} {ds : List PyData} (h : Dt H u (.tuple ds)) : ∃ (a : Addr) (xs : List V), u = .ref a ∧ TupAt H a xs ∧ DtAll H xs ds := by
  cases h with
  | tup ha hs => exact ⟨_, _, rfl, .inl ha, hs⟩
  | @tupZ a pl _ o e n d ha =>
    subst e
    exact ⟨_, _, rfl, .inr ⟨o, d, ha⟩, dt_strs H pl⟩
theorem TupAt.ty {K : PySem.W.Frag} {H : Hp} {a : Addr} {xs : List V} (h : TupAt H a xs) : TyX K H (.ref a) (.type "tuple") := h.elim (fun h => .base (.tup h)) fun ⟨_, _, h⟩ => .fTuple h
theorem ok_same {f : Addr} {fd : FuncData} {n k : Nat} (hk : 1 ≤ k) (F : Fun K "_law_same" "_law_same" s_law_same f fd) (T : TxtS mg) (C_law_same : Cal P w K mg base k "_law_same" (spSame n)) : FnOk P w K mg base CX0 (k + 1) f fd ["found", "due"] (spSame (n + 1)) := by
  refine F.ok sc_law_same (fun vs H Q E h => ?_) (fun cdv A outer s H vs Q E hr h => ?_)
  · obtain ⟨u, v, d, rfl, _⟩ := h
    rfl
  · obtain ⟨u, v, d, rfl, hu, hv, hp, q⟩ := h
    refine ⟨_, (pss_cut (ps_if (pt_cmpR op_isN (pv 1) pe_non (nomark _))
        (pss_one (ps_ret (pe_cmpR op_isN (pv 0) pe_non (nomark _))))
        pss_nil)
      (pss_cut (ps_if (pt_val (pe_callB call_isi (by rfl) T.isinstance bt_isinstance (pa_cons (pv 1) (pa_cons (pe_bltn (v := .ty "tuple") (by rfl) T.tuple bt_tuple rfl) pa_nil))))
        (pss_cut (ps_if (PW.pt (pw_or (pt_not (pt_val (pe_callB call_isi (by rfl) T.isinstance bt_isinstance (pa_cons (pv 0) (pa_cons (pe_bltn (v := .ty "tuple") (by rfl) T.tuple bt_tuple rfl) pa_nil))))) (pw_or1 (pt_cmpR op_ne (pe_callB call_len_seq (by rfl) T.len bt_len (pa_cons (pv 0) pa_nil)) (pe_callB call_len_seq (by rfl) T.len bt_len (pa_cons (pv 1) pa_nil)) (nomark _)))))
          (pss_one (ps_ret pe_bl))
          pss_nil)
        (pss_one (ps_ret (pe_cmpR (op_eqD (hd_of hr hk)) (pe_lc (own := [("one", 2), ("other", 3)]) (g := gTup K 2 (gCons (gName 2) (gCons (gName 3) gNil)))  rfl sc_law_same.nd (pi_zipA (by rfl) T.zip (pa_cons (pv 0) (pa_cons (pv 1) pa_nil))) (blkOk_by (N := N_law_same) (sc := defScope s_law_same) (by decide +kernel)) (fun _ _ _ _ _ => (pg_tup rfl (pgs_cons (pg_name (i := 2) sc_law_same.nd rfl (.inl rfl)) (pgs_cons (pg_name (i := 3) sc_law_same.nd rfl (.inl rfl)) pgs_nil)))) (fun _ _ _ _ _ => pts_one (pt_not (pt_val (pe_c C_law_same hr (Nat.le_refl _) rfl (pa_cons (pv 2) (pa_cons (pv 3) pa_nil)))))) (fun _ _ _ _ _ => pe_int)) (pe_lst pa_nil) (nomark _)))))
        pss_nil)
      (pss_cut (ps_if (pt_val (pe_callB call_isi (by rfl) T.isinstance bt_isinstance (pa_cons (pv 1) (pa_cons (pe_bltn (v := .ty "str") (by rfl) T.str bt_str rfl) pa_nil))))
        (pss_one (ps_ret (pe_and (pe_callB call_isi (by rfl) T.isinstance bt_isinstance (pa_cons (pv 0) (pa_cons (pe_bltn (v := .ty "str") (by rfl) T.str bt_str rfl) pa_nil))) (pe_one (pe_cmpR op_eq (pv 0) (pv 1) (nomark _))))))
        pss_nil)
      (pss_one (ps_ret (pe_and (pe_callB call_isi (by rfl) T.isinstance bt_isinstance (pa_cons (pv 0) (pa_cons (pe_bltn (v := .ty "int") (by rfl) T.int bt_int rfl) pa_nil))) (pe_and (pe_not (pe_callB call_isi (by rfl) T.isinstance bt_isinstance (pa_cons (pv 0) (pa_cons (pe_bltn (v := .ty "bool") (by rfl) T.bool bt_bool rfl) pa_nil)))) (pe_one (pe_cmpR op_eq (pv 0) (pv 1) (nomark _)))))))))), ?_⟩
    cases hp with
    | non _ =>
      cases hu
      cases hv
      refine ⟨fun _ _ => False, ?_, fun _ _ z => z.elim⟩
      exact ⟨_, rfl, rfl, _, rfl, iteT ⟨_, rfl, rfl, q _ (Same.refl _)⟩⟩
    | str _ x =>
      cases hu
      cases hv
      refine ⟨fun σ' H' => σ' = [some (.str x), some (.str x), none, none] ∧ H = H', ⟨_, rfl, rfl, _, rfl, iteF ⟨rfl, rfl⟩⟩, fun σ' H' hM => ?_⟩
      obtain ⟨rfl, rfl⟩ := hM
      refine ⟨fun σ' H' => σ' = [some (.str x), some (.str x), none, none] ∧ H' = H, ?_, fun σ' H' hM => ?_⟩
      · exact ⟨_, rfl, _, _, _, _, false, rfl, .ty _, .base (.str x), kit_cls K (by decide +kernel), _, rfl, iteF ⟨rfl, rfl⟩⟩
      · obtain ⟨rfl, rfl⟩ := hM
        refine ⟨fun σ' H' => False, ?_, fun σ' H' hM => hM.elim⟩
        refine ⟨_, rfl, _, _, _, _, true, rfl, .ty _, .base (.str x), kit_cls K (by decide +kernel), _, rfl, iteT ?_⟩
        refine ⟨_, rfl, _, _, _, _, true, rfl, .ty _, .base (.str x), kit_cls K (by decide +kernel), _, rfl, iteT ⟨_, rfl, _, rfl, by simp [scal], ?_⟩⟩
        rw [decide_eq_true rfl]
        exact q _ (Same.refl _)
    | int _ x =>
      cases hu
      cases hv
      refine ⟨fun σ' H' => σ' = [some (.int x), some (.int x), none, none] ∧ H = H', ⟨_, rfl, rfl, _, rfl, iteF ⟨rfl, rfl⟩⟩, fun σ' H' hM => ?_⟩
      obtain ⟨rfl, rfl⟩ := hM
      refine ⟨fun σ' H' => σ' = [some (.int x), some (.int x), none, none] ∧ H' = H, ?_, fun σ' H' hM => ?_⟩
      · exact ⟨_, rfl, _, _, _, _, false, rfl, .ty _, .base (.int x), kit_cls K (by decide +kernel), _, rfl, iteF ⟨rfl, rfl⟩⟩
      · obtain ⟨rfl, rfl⟩ := hM
        refine ⟨fun σ' H'' => σ' = [some (.int x), some (.int x), none, none] ∧ H'' = H', ?_, fun σ' H'' hM => ?_⟩
        · exact ⟨_, rfl, _, _, _, _, false, rfl, .ty _, .base (.int x), kit_cls K (by decide +kernel), _, rfl, iteF ⟨rfl, rfl⟩⟩
        · obtain ⟨rfl, rfl⟩ := hM
          refine ⟨_, rfl, _, _, _, _, true, rfl, .ty _, .base (.int x), kit_cls K (by decide +kernel), _, rfl, iteT ?_⟩
          refine ⟨_, rfl, _, _, _, _, false, rfl, .ty _, .base (.int x), kit_cls K (by decide +kernel), _, rfl, _, rfl, iteT ⟨_, rfl, _, rfl, by simp [scal], ?_⟩⟩
          rw [decide_eq_true rfl]
          exact q _ (Same.refl _)
    | @tup _ ds hds hl =>
      obtain ⟨a, xs, rfl, ha, hA⟩ := dt_any hu
      obtain ⟨b, ys, rfl, hb, hB⟩ := dt_any hv
      have l1 := DtAll.len hA
      have l2 := DtAll.len hB
      refine ⟨fun σ' H' => σ' = [some (.ref a), some (.ref b), none, none] ∧ H = H', ⟨_, rfl, rfl, _, rfl, iteF ⟨rfl, rfl⟩⟩, fun σ' H' hM => ?_⟩
      obtain ⟨rfl, rfl⟩ := hM
      refine ⟨fun σ' H' => False, ?_, fun σ' H' hM => hM.elim⟩
      refine ⟨_, rfl, _, _, _, _, true, rfl, .ty _, hb.ty, kit_cls K (by decide +kernel), _, rfl, iteT ?_⟩
      refine ⟨fun σ' H' => σ' = [some (.ref a), some (.ref b), none, none] ∧ H' = H, ?_, fun σ' H' hM => ?_⟩
      · refine ⟨_, rfl, _, _, _, _, true, rfl, .ty _, ha.ty, kit_cls K (by decide +kernel), _, rfl, iteF ?_⟩
        refine ⟨_, rfl, a, _, rfl, .inr ha.sq, _, rfl, b, _, rfl, .inr hb.sq, rfl, _, rfl, ?_⟩
        rw [l1, l2, decide_eq_true rfl]
        exact iteF ⟨rfl, rfl⟩
      · obtain ⟨rfl, rfl⟩ := hM
        refine ⟨_, rfl, _, rfl, a, b, xs, ys, rfl, .inr ⟨ha.sq, hb.sq, fun D nD => ?_⟩⟩
        refine zip_it (by omega) (fun i H'' => Same H' H'' ∧ H'' D = some (.lst [])) ⟨same_new (Same.refl H') nD, upd_same⟩ (fun i H'' hP => ⟨(ha.same hP.1).sq, (hb.same hP.1).sq⟩) (fun i x y H'' T hx hy hP nT => ?_) (fun H'' hP => ?_)
        · obtain ⟨d1, hd1, hx'⟩ := DtAll.get hA hx
          obtain ⟨d2, hd2, hy'⟩ := DtAll.get hB hy
          have ed : d1 = d2 := Option.some.inj (hd1.symm.trans hd2)
          subst ed
          have sT : Same H' (upd H'' T (.tup [x, y])) := same_new hP.1 nT
          refine ⟨T, _, rfl, SqT.of upd_same, rfl, _, _, rfl, _, _, rfl, rfl, rfl, ?_⟩
          refine ⟨_, rfl, _, rfl, x, y, d1, rfl, Dt.keep (TK.of sT) hx', Dt.keep (TK.of sT) hy', hds d1 (List.mem_of_getElem? hd1), fun H3 S3 => ?_⟩
          refine ⟨_, rfl, iteF ⟨sT.trans S3, S3 _ _ ?_⟩⟩
          rw [upd_ne (ne_of_none hP.2 nT)]
          exact hP.2
        · refine ⟨Nat.zero_le _, fun p np => ?_⟩
          refine ⟨_, _, .lst (SqL.of (by rw [upd_ne (ne_of_none hP.2 np)]; exact hP.2)) .nil, .lst (SqL.of upd_same) .nil, rfl, rfl, ?_⟩
          exact q _ (same_new hP.1 np)
end
end Far

namespace Far
open PySem PySem.Spec PyProof.Rows L2
open C8 (pss_cut tCut)
open SX (S)
def pre (j : Nat) : Nm := [97 + j % 26] ++ [97 + j / 26 % 26]
theorem pre_inj {i j : Nat} (hi : i < 676) (hj : j < 676) (h : pre i = pre j) : i = j := by
  unfold pre at h
  simp at h
  omega
/-- names taken already: a list of them or a tuple -/
def TakenAt (H : Hp) (p : Addr) (ls : List Nm) : Prop := NamesAt H p ls ∨ TupAt H p ((ls.map S).map V.str)
theorem TakenAt.mv {H H' : Hp} {p d : Addr} {ls : List Nm} (h : TakenAt H p ls) (s : SmX d H H') (n : p ≠ d) : TakenAt H' p ls :=
  h.elim (fun h => .inl (s p _ n h)) fun h => .inr (h.elim (fun h => .inl (s p _ n h)) fun ⟨o, e, h⟩ => .inr ⟨o, e, s p _ n h⟩)
theorem TakenAt.sq {K : PySem.W.Frag} {H : Hp} {p : Addr} {ls : List Nm} (h : TakenAt H p ls) : SqL K H p ((ls.map S).map V.str) ∨ SqT K H p ((ls.map S).map V.str) := h.elim (fun h => .inl (SqL.of h)) fun h => .inr h.sq
/-- the names found so far, the turns that found none -/
structure Fnd (fs tks : List Nm) (t : Nat) (js : List Nat) : Prop where
  nd : fs.Nodup
  ok : ∀ l ∈ fs, NameOk l
  un : ∀ l ∈ fs, l ∉ tks
  jn : js.Nodup
  jl : ∀ j ∈ js, j < t ∧ pre j ∈ (fs ++ tks).map (List.take 2)
  eq : t = fs.length + js.length
theorem Fnd.le {fs tks : List Nm} {t : Nat} {js : List Nat} (h : Fnd fs tks t js) (ht : t ≤ 676) : t ≤ 2 * fs.length + tks.length := by
  have nd : (js.map pre).Nodup := by
    rw [List.Nodup, List.pairwise_map]
    have := h.jn
    rw [List.Nodup] at this
    exact List.Pairwise.imp_of_mem (fun {a b} ha hb ne e => ne (pre_inj (by have := (h.jl a ha).1; omega) (by have := (h.jl b hb).1; omega) e)) this
  have := nodup_sub_len _ ((fs ++ tks).map (List.take 2)) nd fun x hx => by
    obtain ⟨j, hj, rfl⟩ := List.mem_map.mp hx
    exact (h.jl j hj).2
  rw [List.length_map, List.length_map, List.length_append] at this
  have := h.eq
  omega
theorem Fnd.hit {fs tks : List Nm} {t : Nat} {js : List Nat} {l : Nm} (h : Fnd fs tks t js) (ok : NameOk l) (n1 : l ∉ fs) (n2 : l ∉ tks) : Fnd (fs ++ [l]) tks (t + 1) js := by
  refine ⟨nd_snoc' h.nd n1, fun x hx => ?_, fun x hx => ?_, h.jn, fun j hj => ?_, by rw [List.length_append, List.length_singleton]; have := h.eq; omega⟩
  · rcases List.mem_append.mp hx with z | z
    · exact h.ok x z
    · rw [List.mem_singleton.mp z]
      exact ok
  · rcases List.mem_append.mp hx with z | z
    · exact h.un x z
    · rw [List.mem_singleton.mp z]
      exact n2
  · obtain ⟨h1, h2⟩ := h.jl j hj
    refine ⟨by omega, ?_⟩
    rw [List.map_append] at h2 ⊢
    rw [List.map_append]
    rcases List.mem_append.mp h2 with z | z
    · exact List.mem_append_left _ (List.mem_append_left _ z)
    · exact List.mem_append_right _ z
theorem Fnd.miss {fs tks : List Nm} {t : Nat} {js : List Nat} {l : Nm} (h : Fnd fs tks t js) (e : l.take 2 = pre t) (n : l ∈ fs ∨ l ∈ tks) : Fnd fs tks (t + 1) (js ++ [t]) := by
  refine ⟨h.nd, h.ok, h.un, nd_snoc' h.jn fun z => by have := (h.jl t z).1; omega, fun j hj => ?_, by rw [List.length_append, List.length_singleton]; have := h.eq; omega⟩
  rcases List.mem_append.mp hj with z | z
  · obtain ⟨h1, h2⟩ := h.jl j z
    exact ⟨by omega, h2⟩
  · rw [List.mem_singleton.mp z]
    exact ⟨by omega, List.mem_map.mpr ⟨l, List.mem_append.mpr n, e⟩⟩
abbrev s_law_names : Stmt := topS 13
abbrev N_law_names : List Str := ["deck", "many", "taken", "letters", "way", "stem", "at", "found", "turn", "name", "k"]
theorem sc_law_names : FnScope N_law_names ["deck", "many", "taken"] (defScope s_law_names) := ⟨rfl, rfl, rfl, by decide +kernel, rfl, by decide +kernel, by decide +kernel⟩
section
variable {P : Program} {w : World} {K : PySem.W.Frag} {mg : Str → Option Value} {base : Heap}
def spNames : Sp := fun vs H Q _ => ∃ (d tk : Addr) (n many : Nat) (tks : List Nm), vs = [.ref d, .int many, .ref tk] ∧ SeedAt H d n ∧ n < 90000 ∧ 1 ≤ many ∧ many ≤ 30 ∧ tk ≠ d ∧ TakenAt H tk tks ∧ tks.length ≤ 40 ∧
  ∀ (H' : Hp) (p : Addr) (fs : List Nm), fs.length = many → fs.Nodup → (∀ l ∈ fs, NameOk l) → (∀ l ∈ fs, l ∉ tks) → H p = none → p ≠ d → NamesAt H' p fs → SmX d H H' → SeedAt H' d (n + 1100) → Q (.ref p) H'
theorem ok_names {f : Addr} {fd : FuncData} (F : Fun K "_law_names" "_law_names" s_law_names f fd) (T : TxtG mg) (C_law_draw : Cal P w K mg base 1 "_law_draw" spDraw) : FnOk P w K mg base CX0 2 f fd ["deck", "many", "taken"] spNames := by
  refine F.ok sc_law_names (fun vs H Q E h => ?_) (fun cdv A outer s H vs Q E hr h => ?_)
  · obtain ⟨d, tk, n, many, tks, rfl, _⟩ := h
    rfl
  · obtain ⟨d, tk, n, many, tks, rfl, hD, hn, m1, m30, ntd, hT, ltk, q⟩ := h
    refine ⟨_, (pss_cons (ps_set (i := 3) sc_law_names.nd rfl (.inr rfl) pe_str)
      (pss_cons (ps_set (i := 4) sc_law_names.nd rfl (.inl rfl) (pe_c C_law_draw hr (by decide) rfl (pa_cons (pv 0) (pa_cons pe_int pa_nil))))
      (pss_cons (ps_set (i := 5) sc_law_names.nd rfl (.inl rfl) (pe_join pe_str (pe_lc (own := [("k", 10)]) (g := gName 10) (tt := tYes) rfl sc_law_names.nd (pi_range1 (by rfl) T.range (pa_cons pe_int pa_nil)) (blkOk_by (N := N_law_names) (sc := defScope s_law_names) (by decide +kernel)) (fun _ _ _ _ _ => pg_name (i := 10) sc_law_names.nd rfl (Or.inl rfl)) (fun _ _ _ _ _ => pts_nil) (fun _ _ _ _ _ => (pe_ix ix_str (pv 3) (pe_c C_law_draw hr (by decide) rfl (pa_cons (pv 0) (pa_cons pe_int pa_nil))) (fun _ _ => rfl))))))
      (pss_cons (ps_set (i := 6) sc_law_names.nd rfl (.inl rfl) (pe_c C_law_draw hr (by decide) rfl (pa_cons (pv 0) (pa_cons pe_int pa_nil))))
      (pss_cons (ps_set (i := 7) sc_law_names.nd rfl (.inl rfl) (pe_lst pa_nil))
      (pss_cons (ps_set (i := 8) sc_law_names.nd rfl (.inl rfl) pe_int)
      (pss_cut (ps_while PassesOwn.never (pt_cmpR op_lt (pe_callB call_len_seq (by rfl) T.len bt_len (pa_cons (pv 7) pa_nil)) (pv 1) (nomark _))
        (pss_cons (ps_set (i := 9) sc_law_names.nd rfl (.inl rfl) (pe_ix ix_str (pv 3) (pe_c C_law_draw hr (by decide) rfl (pa_cons (pv 0) (pa_cons pe_int pa_nil))) (fun _ _ => rfl)))
        (pss_cut (ps_if (pt_cmpR op_eq (pv 4) pe_int (nomark _))
          (pss_one (ps_set (i := 9) sc_law_names.nd rfl (.inl rfl) (pe_join pe_str (pe_lc (own := [("k", 10)]) (g := gName 10) (tt := tYes) rfl sc_law_names.nd (pi_range1 (by rfl) T.range (pa_cons (pe_op op_add pe_int (pe_c C_law_draw hr (by decide) rfl (pa_cons (pv 0) (pa_cons pe_int pa_nil)))) pa_nil)) (blkOk_by (N := N_law_names) (sc := defScope s_law_names) (by decide +kernel)) (fun _ _ _ _ _ => pg_name (i := 10) sc_law_names.nd rfl (Or.inl rfl)) (fun _ _ _ _ _ => pts_nil) (fun _ _ _ _ _ => (pe_ix ix_str (pv 3) (pe_c C_law_draw hr (by decide) rfl (pa_cons (pv 0) (pa_cons pe_int pa_nil))) (fun _ _ => rfl)))))))
          pss_nil)
        (pss_cut (ps_if (pt_cmpR op_eq (pv 4) pe_int (nomark _))
          (pss_one (ps_set (i := 9) sc_law_names.nd rfl (.inl rfl) (pe_op op_add_str (pe_op op_add_str (pe_slice C8.sl_txt (pv 5) po_none (po_some (pv 6))) (pv 9)) (pe_slice C8.sl_txt (pv 5) (po_some (pe_op op_add (pv 6) pe_int)) po_none))))
          pss_nil)
        (pss_cut (ps_if (PW.pt (pw_or (pt_cmpR op_in_seq (pv 9) (pv 7) rfl) (pw_or1 (pt_cmpR op_in_seq (pv 9) (pv 2) rfl))))
          (pss_one (ps_set (i := 9) sc_law_names.nd rfl (.inl rfl) (pe_op op_add_str (pe_op op_add_str (pe_ix ix_str (pv 3) (pe_op op_mod (pv 8) pe_int) (fun _ _ => rfl)) (pe_ix ix_str (pv 3) (pe_op op_mod (pe_op op_fdiv (pv 8) pe_int) pe_int) (fun _ _ => rfl))) (pe_slice C8.sl_txt (pv 9) po_none (po_some pe_int)))))
          pss_nil)
        (pss_cut (ps_if (PW.pt (pw_and (pt_cmpR op_notIn_seq (pv 9) (pv 7) rfl) (pw_and1 (pt_cmpR op_notIn_seq (pv 9) (pv 2) rfl))))
          (pss_one (ps_expr (pe_bm PySem.F.plainAttrs_list PySem.F.slot_list_append PySem.F.type_list_append mt_append (pv 7) (pa_cons (pv 9) pa_nil))))
          pss_nil)
        (pss_one (ps_set (i := 8) sc_law_names.nd rfl (.inl rfl) (pe_op op_add (pv 8) pe_int)))))))))
      (pss_one (ps_ret (pv 7)))))))))), ?_⟩
    -- way, stem, at
    refine ⟨_, rfl, d, _, 3, rfl, hD, by omega, by decide, by decide, fun H1 way w0 w1 S1 D1 => ?_⟩
    refine ⟨⟨_, rfl⟩, 8, rfl, by decide, by decide, fun D nD => ?_⟩
    have nDd : D ≠ d := D1.nd nD
    have D0 : H D = none := SmX.free S1 nD nDd
    refine lc_range (lo := 0) (n := (8 : Int).toNat) (fun i H' => ∃ cs : List Nat, cs.length = i ∧ (∀ c ∈ cs, 97 ≤ c ∧ c ≤ 122) ∧ H' D = some (.lst ((cs.map fun c => S [c]).map V.str)) ∧ SmX d H H' ∧ SeedAt H' d (n + 1 + i)) ⟨[], rfl, by simp, upd_same, S1.new nD, D1.new nD⟩ (fun i H' hi hP => ?_) (fun H' hP => ?_)
    · obtain ⟨cs, hlc, hc, hD', SM, DD⟩ := hP
      have hi : i < 8 := hi
      refine ⟨rfl, _, rfl, _, rfl, d, _, 26, rfl, DD, by omega, by decide, by decide, fun H4 r4 r40 r41 S4 D4 => ?_⟩
      obtain ⟨v, hv, mv⟩ := atI_in (xs := abc.cps.toList) r40 (by rw [abc_len]; exact r41)
      refine ⟨abc, r4, v, rfl, rfl, by decide, hv, ?_⟩
      refine ⟨_, S4 D _ nDd hD', by rw [List.length_map, List.length_map]; exact sz_lt (by omega), cs ++ [v], by simp [hlc], fun c hc' => ?_, ?_, (SM.trans S4).put D0, D4.put nDd⟩
      · rcases List.mem_append.mp hc' with z | z
        · exact hc c z
        · rw [List.mem_singleton.mp z]
          exact abc_ok v mv
      · rw [upd_same, List.map_append, List.map_append]
        rfl
    obtain ⟨cs, hlc, hc, hD', SM, DD⟩ := hP
    refine ⟨_, D, cs.map (fun c => S [c]), rfl, rfl, .inl (SqL.of hD'), ?_, ?_⟩
    · rw [one_sum']
      have : ((("" : Str)).length) = 0 := rfl
      rw [this, List.length_map]
      omega
    have e : Txt.join ("" : Str) (cs.map fun c => S [c]) = S cs := by
      have := SX.join_S [] (cs.map fun c => [c])
      rw [List.map_map] at this
      rw [join_none, flat_one] at this
      exact this
    rw [e]
    have lcs : cs.length = 8 := hlc
    clear hlc hD' e
    refine ⟨_, rfl, d, _, 8, rfl, DD, by omega, by decide, by decide, fun H2 at' a0 a1 S2 D2 => ?_⟩
    have SM2 := SM.trans S2
    refine ⟨Nat.zero_le _, fun p np => ?_⟩
    have npd : p ≠ d := D2.nd np
    have np0 : H p = none := SmX.free SM2 np npd
    have SM3 : SmX d H (upd H2 p (.lst [])) := SM2.new np
    have D3 : SeedAt (upd H2 p (.lst [])) d (n + 10 + 10 * 0) := (D2.new np).mono (by show n + 1 + 8 + 1 ≤ _; omega)
    have hN3 : NamesAt (upd H2 p (.lst [])) p [] := upd_same
    generalize upd H2 p (.lst []) = H3 at SM3 D3 hN3
    refine ⟨fun σ' H' => ∃ (fs : List Nm) (t : Nat) (x8 x9 : Option V), σ' = [some (.ref d), some (.int many), some (.ref tk), some (.str abc), some (.int way), some (.str (S cs)), some (.int at'), some (.ref p), x8, x9, none] ∧ (∃ js, Fnd fs tks t js) ∧ t ≤ 100 ∧ fs.length = many ∧ NamesAt H' p fs ∧ SmX d H H' ∧ SeedAt H' d (n + 10 + 10 * t), ?_, fun σ' H' hM => ?_⟩
    · refine ⟨fun m σ' H' => ∃ (fs : List Nm) (t : Nat) (js : List Nat) (x9 : Option V), σ' = [some (.ref d), some (.int many), some (.ref tk), some (.str abc), some (.int way), some (.str (S cs)), some (.int at'), some (.ref p), some (.int t), x9, none] ∧ Fnd fs tks t js ∧ t + m = 500 ∧ fs.length ≤ many ∧ NamesAt H' p fs ∧ SmX d H H' ∧ SeedAt H' d (n + 10 + 10 * t), ⟨500, [], 0, [], none, rfl, ⟨by simp, by simp, by simp, by simp, by simp, rfl⟩, rfl, Nat.zero_le _, hN3, SM3, D3⟩, ?_⟩
      rintro m' σ' H' ⟨fs, t, js, x9, rfl, hF, em, lf, hN, SM', D'⟩
      have tb := hF.le (by omega)
      refine ⟨_, rfl, p, _, rfl, .inl (SqL.of hN), _, rfl, _, _, rfl, rfl, _, rfl, ?_⟩
      rw [List.length_map, List.length_map]
      refine ite2 (fun e => ?_) (fun e => ⟨fs, t, _, _, rfl, ⟨js, hF⟩, by omega, by have e : ¬ ((fs.length : Int) < many) := fun z => e (decide_eq_true z); omega, hN, SM', D'⟩)
      have e := of_decide_eq_true e
      have lf2 : fs.length < many := by omega
      refine ⟨fun σ'' H'' => ∃ (fs' : List Nm) (js' : List Nat) (x9 : Option V), σ'' = [some (.ref d), some (.int many), some (.ref tk), some (.str abc), some (.int way), some (.str (S cs)), some (.int at'), some (.ref p), some (.int ((t : Int) + 1)), x9, none] ∧ Fnd fs' tks (t + 1) js' ∧ fs'.length ≤ many ∧ NamesAt H'' p fs' ∧ SmX d H H'' ∧ SeedAt H'' d (n + 10 + 10 * (t + 1)), ?_, ?_⟩
      · rintro σ'' H'' ⟨fs', js', x9, rfl, h1, h2, h3, h4, h5⟩
        exact ⟨m' - 1, by omega, fs', t + 1, js', x9, rfl, h1, by omega, h2, h3, h4, h5⟩
      -- name
      refine ⟨_, rfl, _, rfl, d, _, 26, rfl, D', by omega, by decide, by decide, fun H4 r4 r40 r41 S4 D4 => ?_⟩
      obtain ⟨v, hv, mv⟩ := atI_in (xs := abc.cps.toList) r40 (by rw [abc_len]; exact r41)
      refine ⟨abc, r4, v, rfl, rfl, by decide, hv, ?_⟩
      have okv := abc_ok v mv
      have SM4 := SM'.trans S4
      have hN4 : NamesAt H4 p fs := S4 p _ npd hN
      refine ⟨fun σ'' H'' => ∃ l : Nm, σ'' = [some (.ref d), some (.int many), some (.ref tk), some (.str abc), some (.int way), some (.str (S cs)), some (.int at'), some (.ref p), some (.int t), some (.str (S l)), none] ∧ NameOk l ∧ (way = 2 → l.length = 1) ∧ NamesAt H'' p fs ∧ SmX d H H'' ∧ SeedAt H'' d (n + 10 + 10 * t + 10), ?_, fun σ'' H'' hM => ?_⟩
      · refine ⟨_, rfl, rfl, _, rfl, ite2 (fun e1 => ?_) (fun e1 => ⟨[v], rfl, ⟨by simp, by simp, fun c hc => by rw [List.mem_singleton.mp hc]; exact okv⟩, fun _ => rfl, hN4, SM4, D4.mono (by omega)⟩)⟩
        have ew : way = 1 := by simpa using e1
        refine ⟨⟨_, rfl⟩, _, rfl, d, _, 8, rfl, D4, by omega, by decide, by decide, fun H5 r5 r50 r51 S5 D5 => ⟨_, _, rfl, rfl, 1 + r5, rfl, by omega, by omega, fun D nD => ?_⟩⟩
        have SM5 := SM4.trans S5
        have nDd : D ≠ d := D5.nd nD
        have D0 : H D = none := SmX.free SM5 nD nDd
        have hN5 : NamesAt H5 p fs := S5 p _ npd hN4
        have nDp : p ≠ D := ne_of_none hN5 nD
        refine lc_range (lo := 0) (n := (1 + r5).toNat) (fun i H' => ∃ cs : List Nat, cs.length = i ∧ (∀ c ∈ cs, 97 ≤ c ∧ c ≤ 122) ∧ H' D = some (.lst ((cs.map fun c => S [c]).map V.str)) ∧ NamesAt H' p fs ∧ SmX d H H' ∧ SeedAt H' d (n + 10 + 10 * t + 2 + i)) ⟨[], rfl, by simp, upd_same, by unfold NamesAt; rw [upd_ne nDp]; exact hN5, SM5.new nD, (D5.new nD).mono (by omega)⟩ (fun i H' hi hP => ?_) (fun H' hP => ?_)
        · obtain ⟨cs, hlc, hc, hD', hN', SM, DD⟩ := hP
          refine ⟨rfl, _, rfl, _, rfl, d, _, 26, rfl, DD, by omega, by decide, by decide, fun H4 r4 r40 r41 S4 D4 => ?_⟩
          obtain ⟨v, hv, mv⟩ := atI_in (xs := abc.cps.toList) r40 (by rw [abc_len]; exact r41)
          refine ⟨abc, r4, v, rfl, rfl, by decide, hv, ?_⟩
          refine ⟨_, S4 D _ nDd hD', by rw [List.length_map, List.length_map]; exact sz_lt (by omega), cs ++ [v], by simp [hlc], fun c hc' => ?_, ?_, ?_, (SM.trans S4).put D0, D4.put nDd⟩
          · rcases List.mem_append.mp hc' with z | z
            · exact hc c z
            · rw [List.mem_singleton.mp z]
              exact abc_ok v mv
          · rw [upd_same, List.map_append, List.map_append]
            rfl
          · unfold NamesAt
            rw [upd_ne nDp]
            exact S4 p _ npd hN'
        · obtain ⟨cs, hlc, hc, hD', hN', SM, DD⟩ := hP
          refine ⟨_, D, cs.map (fun c => S [c]), rfl, rfl, .inl (SqL.of hD'), ?_, ?_⟩
          · rw [one_sum']
            have : ((("" : Str)).length) = 0 := rfl
            rw [this, List.length_map]
            omega
          · have e : Txt.join ("" : Str) (cs.map fun c => S [c]) = S cs := by
              have := SX.join_S [] (cs.map fun c => [c])
              rw [List.map_map] at this
              rw [join_none, flat_one] at this
              exact this
            rw [e]
            exact ⟨cs, rfl, ⟨by omega, by omega, hc⟩, fun z => by omega, hN', SM, DD.mono (by omega)⟩
      obtain ⟨l, rfl, lok, l2, hN5, SM5, D5⟩ := hM
      -- amid the stem
      refine ⟨fun σ3 H3 => ∃ l : Nm, σ3 = [some (.ref d), some (.int many), some (.ref tk), some (.str abc), some (.int way), some (.str (S cs)), some (.int at'), some (.ref p), some (.int t), some (.str (S l)), none] ∧ NameOk l ∧ H3 = H'', ?_, fun σ3 H3 hM => ?_⟩
      · refine ⟨_, rfl, rfl, _, rfl, ite2 (fun e1 => ?_) (fun e1 => ⟨l, rfl, lok, rfl⟩)⟩
        have ew : way = 2 := by simpa using e1
        have l21 := l2 ew
        refine ⟨_, rfl, _, rfl, at', rfl, S cs, rfl, by rw [SX.S_len]; exact sz_le (by omega), ?_⟩
        refine ⟨_, rfl, S (cs.take at'.toNat), S l, congrArg V.str (SX.slice_to a0), rfl, by rw [SX.S_len, SX.S_len, List.length_take]; exact sz_le (by omega), ?_⟩
        refine ⟨_, rfl, _, rfl, at', 1, rfl, rfl, at' + 1, rfl, S cs, rfl, by rw [SX.S_len]; exact sz_le (by omega), S (cs.take at'.toNat ++ l), S (cs.drop (at' + 1).toNat), congrArg V.str (SX.S_cat _ _), congrArg V.str (SX.slice_from (by omega)), by rw [SX.S_len, SX.S_len, List.length_append, List.length_take, List.length_drop]; exact sz_le (by omega), ?_⟩
        refine ⟨cs.take at'.toNat ++ l ++ cs.drop (at' + 1).toNat, by rw [SX.S_cat]; rfl, ⟨?_, ?_, fun c hc' => ?_⟩, rfl⟩
        · simp
          omega
        · simp
          omega
        · rcases List.mem_append.mp hc' with z | z
          · rcases List.mem_append.mp z with z | z
            · exact hc c (List.mem_of_mem_take z)
            · exact lok.2.2 c z
          · exact hc c (List.mem_of_mem_drop z)
      obtain ⟨l, rfl, lok, rfl⟩ := hM
      have hT5 : TakenAt H3 tk tks := hT.mv SM5 ntd
      -- made otherwise
      refine ⟨fun σ4 H4 => ∃ l : Nm, σ4 = [some (.ref d), some (.int many), some (.ref tk), some (.str abc), some (.int way), some (.str (S cs)), some (.int at'), some (.ref p), some (.int t), some (.str (S l)), none] ∧ NameOk l ∧ ((l ∉ fs ∧ l ∉ tks) ∨ l.take 2 = pre t) ∧ H4 = H3, ?_, fun σ4 H4 hM => ?_⟩
      · have ok2 : NameOk (pre t ++ l.take 6) := by
          refine ⟨by simp [pre], ?_, fun c hc' => ?_⟩
          · rw [List.length_append, List.length_take]
            show 2 + _ ≤ 8
            omega
          · rcases List.mem_append.mp hc' with z | z
            · unfold pre at z
              simp at z
              omega
            · exact lok.2.2 c (List.mem_of_mem_take z)
        have et : (t : Int) / 26 % 26 = (((t / 26 % 26 : Nat)) : Int) := by omega
        have em' : (t : Int) % 26 = (((t % 26 : Nat)) : Int) := by omega
        have b1 : atI abc.cps.toList ((t : Int) / 26 % 26) = some (97 + t / 26 % 26) := by
          rw [et]
          exact abc_at ⟨t / 26 % 26, by omega⟩
        have b2 : atI abc.cps.toList ((t : Int) % 26) = some (97 + t % 26) := by
          rw [em']
          exact abc_at ⟨t % 26, by omega⟩
        refine ⟨_, rfl, _, rfl, p, _, rfl, .inl (SqL.of hN5), rfl, flat_strs fs, _, rfl, ?_⟩
        rw [inV_strs]
        by_cases c1 : l ∈ fs
        · rw [decide_eq_true c1]
          refine iteT (iteT ?_)
          refine ⟨_, rfl, _, rfl, _, _, rfl, rfl, (by show (0 : Int) < _; decide), abc, (t : Int) % 26, _, rfl, rfl, by decide, b2, ?_⟩
          refine ⟨_, rfl, _, rfl, _, _, rfl, rfl, ⟨by decide, by decide⟩, _, _, rfl, rfl, (by show (0 : Int) < _; decide), abc, (t : Int) / 26 % 26, _, rfl, rfl, by decide, b1, ?_⟩
          refine ⟨S [97 + t % 26], S [97 + t / 26 % 26], rfl, rfl, by rw [SX.S_len, SX.S_len]; exact sz_le (by simp), ?_⟩
          refine ⟨_, rfl, 6, rfl, S l, rfl, by rw [SX.S_len]; exact sz_le (by have := lok.2.1; omega), ?_⟩
          refine ⟨S (pre t), S (l.take 6), congrArg V.str (SX.S_cat _ _), congrArg V.str (SX.slice_to (by decide)), by rw [SX.S_len, SX.S_len, List.length_take]; exact sz_le (by simp [pre]; omega), ?_⟩
          exact ⟨pre t ++ l.take 6, by rw [SX.S_cat]; rfl, ok2, .inr (by simp [pre]), rfl⟩
        · rw [decide_eq_false c1]
          refine iteF ?_
          refine ⟨_, rfl, _, rfl, tk, _, rfl, hT5.sq, rfl, flat_strs tks, _, rfl, ?_⟩
          rw [inV_strs]
          by_cases c2 : l ∈ tks
          · rw [decide_eq_true c2]
            refine iteT ?_
            refine ⟨_, rfl, _, rfl, _, _, rfl, rfl, (by show (0 : Int) < _; decide), abc, (t : Int) % 26, _, rfl, rfl, by decide, b2, ?_⟩
            refine ⟨_, rfl, _, rfl, _, _, rfl, rfl, ⟨by decide, by decide⟩, _, _, rfl, rfl, (by show (0 : Int) < _; decide), abc, (t : Int) / 26 % 26, _, rfl, rfl, by decide, b1, ?_⟩
            refine ⟨S [97 + t % 26], S [97 + t / 26 % 26], rfl, rfl, by rw [SX.S_len, SX.S_len]; exact sz_le (by simp), ?_⟩
            refine ⟨_, rfl, 6, rfl, S l, rfl, by rw [SX.S_len]; exact sz_le (by have := lok.2.1; omega), ?_⟩
            refine ⟨S (pre t), S (l.take 6), congrArg V.str (SX.S_cat _ _), congrArg V.str (SX.slice_to (by decide)), by rw [SX.S_len, SX.S_len, List.length_take]; exact sz_le (by simp [pre]; omega), ?_⟩
            exact ⟨pre t ++ l.take 6, by rw [SX.S_cat]; rfl, ok2, .inr (by simp [pre]), rfl⟩
          · rw [decide_eq_false c2]
            exact iteF ⟨l, rfl, lok, .inl ⟨c1, c2⟩, rfl⟩
      obtain ⟨l, rfl, lok, lc, rfl⟩ := hM
      -- put behind
      refine ⟨fun σ5 H5 => ∃ (fs' : List Nm) (js' : List Nat), σ5 = [some (.ref d), some (.int many), some (.ref tk), some (.str abc), some (.int way), some (.str (S cs)), some (.int at'), some (.ref p), some (.int t), some (.str (S l)), none] ∧ Fnd fs' tks (t + 1) js' ∧ fs'.length ≤ many ∧ NamesAt H5 p fs' ∧ SmX d H H5 ∧ SeedAt H5 d (n + 10 + 10 * (t + 1)), ?_, fun σ5 H5 hM => ?_⟩
      · refine ⟨_, rfl, _, rfl, p, _, rfl, .inl (SqL.of hN5), rfl, flat_strs fs, _, rfl, ?_⟩
        rw [inV_strs]
        by_cases c1 : l ∈ fs
        · rw [decide_eq_true c1]
          refine iteF (iteF ?_)
          have lc : l.take 2 = pre t := lc.resolve_left fun z => z.1 c1
          exact ⟨fs, js ++ [t], rfl, hF.miss lc (.inl c1), lf, hN5, SM5, D5.mono (by omega)⟩
        · rw [decide_eq_false c1]
          refine iteT ?_
          refine ⟨_, rfl, _, rfl, tk, _, rfl, hT5.sq, rfl, flat_strs tks, _, rfl, ?_⟩
          rw [inV_strs]
          by_cases c2 : l ∈ tks
          · rw [decide_eq_true c2]
            refine iteF ?_
            have lc : l.take 2 = pre t := lc.resolve_left fun z => z.2 c2
            exact ⟨fs, js ++ [t], rfl, hF.miss lc (.inr c2), lf, hN5, SM5, D5.mono (by omega)⟩
          · rw [decide_eq_false c2]
            refine iteT ?_
            refine ⟨_, rfl, .inl ⟨rfl, _, SqL.of hN5⟩, _, rfl, p, _, _, rfl, rfl, hN5, by rw [List.length_map, List.length_map]; exact sz_lt (by omega), ?_⟩
            refine ⟨fs ++ [l], js, rfl, hF.hit lok c1 c2, by rw [List.length_append, List.length_singleton]; omega, ?_, SM5.put np0, (D5.put npd).mono (by omega)⟩
            unfold NamesAt
            rw [upd_same, List.map_append, List.map_append]
            rfl
      obtain ⟨fs', js', rfl, h1, h2, h3, h4, h5⟩ := hM
      exact ⟨_, rfl, _, _, rfl, rfl, fs', js', _, rfl, h1, h2, h3, h4, h5⟩
    · obtain ⟨fs, t, x8, x9, rfl, ⟨js, hF⟩, t1, lf, hN, SM', D'⟩ := hM
      exact ⟨_, rfl, q _ p fs lf hF.nd hF.ok hF.un np0 npd hN SM' (D'.mono (by omega))⟩
end
end Far

namespace Far
open PySem PySem.Spec PyProof.Rows L2
open C8 (pss_cut tCut)
open SX (S)
theorem SeedAt.tk {H H' : Hp} {d : Addr} {n : Nat} (h : SeedAt H d n) (s : SmX d H H') : TK H H' := by
  obtain ⟨xs, e⟩ := h.lst
  exact s.tk e
theorem seq_ix {r : Int} {n : Nat} (h0 : 0 ≤ r) (h1 : r < n) : seqIndex? r n = some r.toNat := by
  refine (ixN_seq (j := r.toNat) ?_).1
  unfold ixN
  rw [if_pos h0, if_pos h1]
/-- within the making of a tree: the names at p, the ties so far at t -/
structure Tr (H H' : Hp) (d p t : Addr) (n : Nat) (ls : List Nm) (tvs : List V) (ts : List Tie) : Prop where
  nm : NamesAt H' p ls
  tt : H' t = some (.lst tvs)
  al : DtAll H' tvs (ts.map tieD)
  sm : SmX d H H'
  dk : SeedAt H' d n
theorem Tr.new {H H' : Hp} {d p t q : Addr} {n : Nat} {ls : List Nm} {tvs : List V} {ts : List Tie} {o : HO} (x : Tr H H' d p t n ls tvs ts) (nq : H' q = none) : Tr H (upd H' q o) d p t n ls tvs ts :=
  ⟨by unfold NamesAt; rw [upd_ne (ne_of_none x.nm nq)]; exact x.nm, by rw [upd_ne (ne_of_none x.tt nq)]; exact x.tt, DtAll.keep (TK.new nq) x.al, x.sm.new nq, x.dk.new nq⟩
theorem Tr.step {H H' H'' : Hp} {d p t : Addr} {n m : Nat} {ls : List Nm} {tvs : List V} {ts : List Tie} (x : Tr H H' d p t n ls tvs ts) (npd : p ≠ d) (ntd : t ≠ d) (s : SmX d H' H'') (D : SeedAt H'' d m) : Tr H H'' d p t m ls tvs ts :=
  ⟨s p _ npd x.nm, s t _ ntd x.tt, DtAll.keep (x.dk.tk s) x.al, x.sm.trans s, D⟩
theorem Tr.put {H H' : Hp} {d p t q : Addr} {n : Nat} {ls : List Nm} {tvs xs : List V} {ts : List Tie} {o : HO} (x : Tr H H' d p t n ls tvs ts) (np : q ≠ p) (nt : q ≠ t) (nd : q ≠ d) (n0 : H q = none) (hq : H' q = some (.lst xs)) : Tr H (upd H' q o) d p t n ls tvs ts :=
  ⟨by unfold NamesAt; rw [upd_ne np.symm]; exact x.nm, by rw [upd_ne nt.symm]; exact x.tt, DtAll.keep (TK.mut hq) x.al, x.sm.put n0, x.dk.put nd⟩
theorem Tr.take {H H' : Hp} {d p t : Addr} {n k : Nat} {ls : List Nm} {tvs : List V} {ts : List Tie} (x : Tr H H' d p t n ls tvs ts) (np : p ≠ t) (nd : t ≠ d) (n0 : H t = none) : Tr H (upd H' t (.lst (tvs.eraseIdx k))) d p t n ls (tvs.eraseIdx k) (ts.eraseIdx k) :=
  ⟨by unfold NamesAt; rw [upd_ne np]; exact x.nm, upd_same, by rw [← map_erase]; exact DtAll.del k (DtAll.keep (TK.mut x.tt) x.al), x.sm.put n0, x.dk.put nd⟩
theorem Tr.mono {H H' : Hp} {d p t : Addr} {n m : Nat} {ls : List Nm} {tvs : List V} {ts : List Tie} (x : Tr H H' d p t n ls tvs ts) (h : n ≤ m) : Tr H H' d p t m ls tvs ts := ⟨x.nm, x.tt, x.al, x.sm, x.dk.mono h⟩
abbrev s_law_tree : Stmt := topS 14
abbrev N_law_tree : List Str := ["deck", "most", "taken", "many", "shape", "far", "names", "ties", "k", "to", "pair", "left", "places"]
theorem sc_law_tree : FnScope N_law_tree ["deck", "most", "taken"] (defScope s_law_tree) := ⟨rfl, rfl, rfl, by decide +kernel, rfl, by decide +kernel, by decide +kernel⟩
section
variable {P : Program} {w : World} {K : PySem.W.Frag} {mg : Str → Option Value} {base : Heap}
def spTree : Sp := fun vs H Q _ => ∃ (d tk : Addr) (n most : Nat) (tks : List Nm), vs = [.ref d, .int most, .ref tk] ∧ SeedAt H d n ∧ n < 80000 ∧ 1 ≤ most ∧ most ≤ 30 ∧ tk ≠ d ∧ TakenAt H tk tks ∧ tks.length ≤ 40 ∧
  ∀ (H' : Hp) (t : Addr) (pl : List Nm) (ts : List Tie), IsTree pl ts → (∀ l ∈ pl, NameOk l) → (∀ l ∈ pl, l ∉ tks) → pl.length ≤ most → Dt H' (.ref t) (treeD pl ts) → SmX d H H' → SeedAt H' d (n + 1400) → Q (.ref t) H'
theorem ok_tree {f : Addr} {fd : FuncData} (F : Fun K "_law_tree" "_law_tree" s_law_tree f fd) (T : TxtG mg) (C_law_draw : Cal P w K mg base 1 "_law_draw" spDraw) (C_law_names : Cal P w K mg base 2 "_law_names" spNames) : FnOk P w K mg base CX0 3 f fd ["deck", "most", "taken"] spTree := by
  refine F.ok sc_law_tree (fun vs H Q E h => ?_) (fun cdv A outer s H vs Q E hr h => ?_)
  · obtain ⟨d, tk, n, most, tks, rfl, _⟩ := h
    rfl
  · obtain ⟨d, tk, n, most, tks, rfl, hD, hn, hm1, hm, ntd', hT, ltk, q⟩ := h
    have e6 : (10 : Int) ^ (6 : Int).toNat = 1000000 := by decide
    refine ⟨_, (pss_cons (ps_set (i := 3) sc_law_tree.nd rfl (.inl rfl) (pe_ix ix_list (pe_lst (pa_cons (pe_op op_add pe_int (pe_c C_law_draw hr (by decide) rfl (pa_cons (pv 0) (pa_cons (pv 1) pa_nil)))) (pa_cons (pv 1) (pa_cons (pe_op op_add pe_int (pe_c C_law_draw hr (by decide) rfl (pa_cons (pv 0) (pa_cons (pe_callB (call_min2 rfl) (by rfl) T.min bt_min (pa_cons (pv 1) (pa_cons pe_int pa_nil))) pa_nil)))) pa_nil)))) (pe_c C_law_draw hr (by decide) rfl (pa_cons (pv 0) (pa_cons pe_int pa_nil))) (fun _ _ => rfl)))
      (pss_cons (ps_set (i := 4) sc_law_tree.nd rfl (.inl rfl) (pe_c C_law_draw hr (by decide) rfl (pa_cons (pv 0) (pa_cons pe_int pa_nil))))
      (pss_cons (ps_set (i := 5) sc_law_tree.nd rfl (.inl rfl) (pe_ix ix_list (pe_lst (pa_cons pe_int (pa_cons pe_int (pa_cons pe_int (pa_cons (pe_op op_pow pe_int pe_int) pa_nil))))) (pe_c C_law_draw hr (by decide) rfl (pa_cons (pv 0) (pa_cons pe_int pa_nil))) (fun _ _ => rfl)))
      (pss_cons (ps_set (i := 6) sc_law_tree.nd rfl (.inl rfl) (pe_c C_law_names hr (by decide) rfl (pa_cons (pv 0) (pa_cons (pv 3) (pa_cons (pv 2) pa_nil)))))
      (pss_cons (ps_set (i := 7) sc_law_tree.nd rfl (.inr rfl) (pe_lst pa_nil))
      (pss_cut (ps_for PassesOwn.never rfl (pi_range2 (by rfl) T.range (pa_cons pe_int (pa_cons (pv 3) pa_nil))) (pg_name (i := 8) sc_law_tree.nd rfl (.inl rfl))
        (pss_cons (ps_set (i := 9) sc_law_tree.nd rfl (.inl rfl) (pe_ix ix_list (pe_lst (pa_cons (pe_c C_law_draw hr (by decide) rfl (pa_cons (pv 0) (pa_cons (pv 8) pa_nil))) (pa_cons (pe_op op_sub (pv 8) pe_int) (pa_cons pe_int (pa_cons (pe_callB (call_min2 rfl) (by rfl) T.min bt_min (pa_cons (pe_op op_sub (pv 8) pe_int) (pa_cons (pe_op op_fdiv (pv 8) pe_int) pa_nil))) (pa_cons (pe_callB (call_max2 rfl) (by rfl) T.max bt_max (pa_cons pe_int (pa_cons (pe_op op_sub (pv 8) pe_int) pa_nil))) pa_nil)))))) (pv 4) (fun _ _ => rfl)))
        (pss_cons (ps_set (i := 10) sc_law_tree.nd rfl (.inl rfl) (pe_lst (pa_cons (pe_ix ix_list (pv 6) (pv 9) (fun _ _ => rfl)) (pa_cons (pe_ix ix_list (pv 6) (pv 8) (fun _ _ => rfl)) pa_nil))))
        (pss_cut (ps_if (pt_cmpR op_eq (pe_c C_law_draw hr (by decide) rfl (pa_cons (pv 0) (pa_cons pe_int pa_nil))) pe_int (nomark _))
          (pss_one (ps_set (i := 10) sc_law_tree.nd rfl (.inl rfl) (pe_revL (pv 10))))
          pss_nil)
        (pss_one (ps_expr (pe_bm PySem.F.plainAttrs_list PySem.F.slot_list_append PySem.F.type_list_append mt_append (pv 7) (pa_cons (pe_tup (pa_cons (pe_ix ix_list (pv 10) pe_int (fun _ _ => rfl)) (pa_cons (pe_ix ix_list (pv 10) pe_int (fun _ _ => rfl)) (pa_cons (pe_op op_add pe_int (pe_c C_law_draw hr (by decide) rfl (pa_cons (pv 0) (pa_cons (pv 5) pa_nil)))) pa_nil)))) pa_nil))))))))
      (pss_cons (ps_set (i := 11) sc_law_tree.nd rfl (.inr rfl) (pe_callTy call_list_of (by rfl) T.list bt_list (pa_cons (pv 6) pa_nil)))
      (pss_cons (ps_set (i := 12) sc_law_tree.nd rfl (.inl rfl) (pe_tupleOf (by rfl) T.tuple (pe_lc (own := [("k", 8)]) (g := gName 8) (tt := tYes) rfl sc_law_tree.nd (pi_range1 (by rfl) T.range (pa_cons (pv 3) pa_nil)) (blkOk_by (N := N_law_tree) (sc := defScope s_law_tree) (by decide +kernel)) (fun _ _ _ _ _ => pg_name (i := 8) sc_law_tree.nd rfl (Or.inl rfl)) (fun _ _ _ _ _ => pts_nil) (fun _ _ _ _ _ => (show PE _ _ (tBM K "list" rPopAt _ _) from pe_bm PySem.F.plainAttrs_list PySem.F.slot_list_pop PySem.F.type_list_pop mt_popAt (pv 11) (pa_cons (pe_c C_law_draw hr (by decide) rfl (pa_cons (pv 0) (pa_cons (pe_callB (lenK (K := K)) (by rfl) T.len bt_len (pa_cons (pv 11) pa_nil)) pa_nil))) pa_nil))))))
      (pss_one (ps_ret (pe_tup (pa_cons (pv 12) (pa_cons (pe_tupleOf (by rfl) T.tuple (pe_lc (own := [("k", 8)]) (g := gName 8) (tt := tYes) rfl sc_law_tree.nd (pi_range1 (by rfl) T.range (pa_cons (pe_op op_sub (pv 3) pe_int) pa_nil)) (blkOk_by (N := N_law_tree) (sc := defScope s_law_tree) (by decide +kernel)) (fun _ _ _ _ _ => pg_name (i := 8) sc_law_tree.nd rfl (Or.inl rfl)) (fun _ _ _ _ _ => pts_nil) (fun _ _ _ _ _ => (show PE _ _ (tBM K "list" rPopAt _ _) from pe_bm PySem.F.plainAttrs_list PySem.F.slot_list_pop PySem.F.type_list_pop mt_popAt (pv 7) (pa_cons (pe_c C_law_draw hr (by decide) rfl (pa_cons (pv 0) (pa_cons (pe_callB (lenK (K := K)) (by rfl) T.len bt_len (pa_cons (pv 7) pa_nil)) pa_nil))) pa_nil))))) pa_nil))))))))))))), ?_⟩
    -- many
    refine ⟨_, rfl, _, rfl, d, _, most, rfl, hD, by omega, by omega, by omega, fun H1 r1 r10 r11 S1 D1 => ⟨_, _, rfl, rfl, ?_⟩⟩
    refine ⟨_, rfl, _, rfl, _, rfl, _, _, rfl, d, _, _, rfl, D1, by omega, by split <;> omega, by split <;> omega, fun H2 r2 r20 r21 S2 D2 => ⟨_, _, rfl, rfl, ?_⟩⟩
    have r22 : r2 < most := by split at r21 <;> omega
    refine ⟨(by show 3 ≤ sizeLine; decide), fun p1 np1 => ?_⟩
    refine ⟨_, rfl, d, _, 3, rfl, D2.new np1, by omega, by decide, by decide, fun H3 r3 r30 r31 S3 D3 => ?_⟩
    have hp1 := S3 p1 _ (D2.nd np1) upd_same
    have SM3 : SmX d H H3 := ((S1.trans S2).new np1).trans S3
    obtain ⟨v, hv, mv⟩ := atI_in (xs := [V.int (1 + r1), .int most, .int (1 + r2)]) r30 (by simpa using r31)
    have hs : ∃ m : Nat, v = .int m ∧ 1 ≤ m ∧ m ≤ most := by
      simp only [List.mem_cons, List.not_mem_nil, or_false] at mv
      rcases mv with e | e | e
      · exact ⟨(1 + r1).toNat, by rw [e]; congr 1 <;> omega, by omega, by omega⟩
      · exact ⟨most, e, by omega, by omega⟩
      · exact ⟨(1 + r2).toNat, by rw [e]; congr 1 <;> omega, by omega, by omega⟩
    obtain ⟨many, rfl, m1, mm⟩ := hs
    refine ⟨p1, _, r3, _, rfl, rfl, SqL.of hp1, hv, ?_⟩
    -- shape, far
    refine ⟨_, rfl, d, _, 5, rfl, D3, by omega, by decide, by decide, fun H4 shape w0 w1 S4 D4 => ?_⟩
    refine ⟨_, _, rfl, rfl, ⟨by decide, by decide, by decide⟩, (by show 4 ≤ sizeLine; decide), fun p2 np2 => ?_⟩
    refine ⟨_, rfl, d, _, 4, rfl, D4.new np2, by omega, by decide, by decide, fun H5 r5 r50 r51 S5 D5 => ?_⟩
    have hp2 := S5 p2 _ (D4.nd np2) upd_same
    have SM5 : SmX d H H5 := ((SM3.trans S4).new np2).trans S5
    obtain ⟨v, hv, mv⟩ := atI_in (xs := [V.int 1, .int 2, .int 9, .int (10 ^ (6 : Int).toNat)]) r50 (by simpa using r51)
    have hs : ∃ m : Int, v = .int m ∧ 1 ≤ m ∧ m ≤ 1000000 := by
      rw [e6] at mv
      simp only [List.mem_cons, List.not_mem_nil, or_false] at mv
      rcases mv with e | e | e | e
      · exact ⟨1, e, by omega, by omega⟩
      · exact ⟨2, e, by omega, by omega⟩
      · exact ⟨9, e, by omega, by omega⟩
      · exact ⟨1000000, e, by omega, by omega⟩
    obtain ⟨far, rfl, f1, f2⟩ := hs
    refine ⟨p2, _, r5, _, rfl, rfl, SqL.of hp2, hv, ?_⟩
    have hT5 := hT.mv SM5 ntd'
    -- names
    refine ⟨_, rfl, _, rfl, _, rfl, d, tk, _, many, tks, rfl, D5, by omega, m1, by omega, ntd', hT5, ltk, fun H6 p ls hl nd ok un np5 npd hN6 S6 D6 => ?_⟩
    have SM6 : SmX d H H6 := SM5.trans S6
    have np0 : H p = none := SM5.free np5 npd
    -- ties
    refine ⟨Nat.zero_le _, fun t nt => ?_⟩
    have ntd : t ≠ d := D6.nd nt
    have ntp : p ≠ t := ne_of_none hN6 nt
    have nt0 : H t = none := SM6.free nt ntd
    refine ⟨fun σ' H' => ∃ (x8 x9 x10 : Option V) (tvs : List V) (ts : List Tie), σ' = [some (.ref d), some (.int most), some (.ref tk), some (.int many), some (.int shape), some (.int far), some (.ref p), some (.ref t), x8, x9, x10, none, none] ∧ Grown ls ts ∧ Tr H H' d p t (n + 1250) ls tvs ts, ?_, fun σ' H' hM => ?_⟩
    · refine ⟨_, rfl, 1, many, rfl, ⟨by decide, by decide, by omega, by omega⟩, ?_⟩
      refine for_range (lo := 1) (n := ((many : Int) - 1).toNat) (fun i σ' H' => ∃ (x8 x9 x10 : Option V) (tvs : List V) (ts : List Tie), σ' = [some (.ref d), some (.int most), some (.ref tk), some (.int many), some (.int shape), some (.int far), some (.ref p), some (.ref t), x8, x9, x10, none, none] ∧ Grown (ls.take (i + 1)) ts ∧ Tr H H' d p t (n + 1110 + 3 * i) ls tvs ts) ⟨none, none, none, [], [], rfl, ?_, ?_, upd_same, .nil, SM6.new nt, (D6.new nt).mono (by omega)⟩ (fun i σ' H' hi hP => ?_) (fun σ' H' hP => ?_)
      · cases ls with
        | nil => simp at hl; omega
        | cons a r => exact Grown.one a
      · unfold NamesAt
        rw [upd_ne ntp]
        exact hN6
      · obtain ⟨x8, x9, x10, tvs, ts, rfl, hG, X0⟩ := hP
        have hi' : i + 1 < many := by omega
        -- to
        refine ⟨_, rfl, _, rfl, d, _, _, rfl, X0.dk, by omega, by omega, by omega, fun H7 a a0 a1 S7 D7 => ?_⟩
        have X7 := X0.step npd ntd S7 D7
        refine ⟨_, rfl, _, _, rfl, rfl, _, rfl, _, _, rfl, rfl, _, rfl, _, _, rfl, rfl, ⟨by decide, by decide⟩, _, _, rfl, _, rfl, _, _, rfl, rfl, _, _, rfl, (by show 5 ≤ sizeLine; decide), fun p8 np8 => ?_⟩
        have X8 := X7.new (o := .lst [V.int a, .int (1 + (i : Int) - 1), .int 0, .int (if (1 + (i : Int)) / 2 < 1 + (i : Int) - 1 then (1 + (i : Int)) / 2 else 1 + (i : Int) - 1), .int (if 1 + (i : Int) - 3 > 0 then 1 + (i : Int) - 3 else 0)]) np8
        obtain ⟨v, hv, mv⟩ := atI_in (xs := [V.int a, .int (1 + (i : Int) - 1), .int 0, .int (if (1 + (i : Int)) / 2 < 1 + (i : Int) - 1 then (1 + (i : Int)) / 2 else 1 + (i : Int) - 1), .int (if 1 + (i : Int) - 3 > 0 then 1 + (i : Int) - 3 else 0)]) w0 (by simpa using w1)
        have hs : ∃ m : Nat, v = .int m ∧ m < i + 1 := by
          simp only [List.mem_cons, List.not_mem_nil, or_false] at mv
          rcases mv with e | e | e | e | e
          · exact ⟨a.toNat, by rw [e]; congr 1 <;> omega, by omega⟩
          · exact ⟨i, by rw [e]; congr 1 <;> omega, by omega⟩
          · exact ⟨0, e, by omega⟩
          · by_cases z : (1 + (i : Int)) / 2 < 1 + (i : Int) - 1
            · rw [if_pos z] at e
              exact ⟨(1 + i) / 2, by rw [e]; congr 1 <;> omega, by omega⟩
            · rw [if_neg z] at e
              exact ⟨i, by rw [e]; congr 1 <;> omega, by omega⟩
          · by_cases z : 1 + (i : Int) - 3 > 0
            · rw [if_pos z] at e
              exact ⟨i - 2, by rw [e]; congr 1 <;> omega, by omega⟩
            · rw [if_neg z] at e
              exact ⟨0, e, by omega⟩
        obtain ⟨at', rfl, hat⟩ := hs
        refine ⟨_, rfl, p8, _, shape, _, rfl, rfl, SqL.of upd_same, hv, ?_⟩
        -- pair
        have la : at' < ls.length := by omega
        have lk : i + 1 < ls.length := by omega
        have ga : ((ls.map S).map V.str)[at']? = some (.str (S ls[at'])) := by
          rw [List.getElem?_map, List.getElem?_map, List.getElem?_eq_getElem la]
          rfl
        have gk : ((ls.map S).map V.str)[i + 1]? = some (.str (S ls[i + 1])) := by
          rw [List.getElem?_map, List.getElem?_map, List.getElem?_eq_getElem lk]
          rfl
        have ek : 1 + (i : Int) = ((i + 1 : Nat) : Int) := by omega
        refine ⟨_, rfl, _, rfl, p, _, at', _, rfl, rfl, SqL.of X8.nm, atI_nat ga, _, rfl, _, rfl, p, _, 1 + (i : Int), _, rfl, rfl, SqL.of X8.nm, by rw [ek]; exact atI_nat gk, (by show 2 ≤ sizeLine; decide), fun e1 ne1 => ?_⟩
        have X9 := X8.new (o := .lst [.str (S ls[at']), .str (S ls[i + 1])]) ne1
        have he1 : (upd (upd H7 p8 (.lst [V.int a, .int (1 + (i : Int) - 1), .int 0, .int (if (1 + (i : Int)) / 2 < 1 + (i : Int) - 1 then (1 + (i : Int)) / 2 else 1 + (i : Int) - 1), .int (if 1 + (i : Int) - 3 > 0 then 1 + (i : Int) - 3 else 0)])) e1 (.lst [.str (S ls[at']), .str (S ls[i + 1])])) e1 = some (.lst [.str (S ls[at']), .str (S ls[i + 1])]) := upd_same
        generalize upd (upd H7 p8 (.lst [V.int a, .int (1 + (i : Int) - 1), .int 0, .int (if (1 + (i : Int)) / 2 < 1 + (i : Int) - 1 then (1 + (i : Int)) / 2 else 1 + (i : Int) - 1), .int (if 1 + (i : Int) - 3 > 0 then 1 + (i : Int) - 3 else 0)])) e1 (.lst [.str (S ls[at']), .str (S ls[i + 1])]) = H9 at X9 he1
        have ed1 : e1 ≠ d := X8.dk.nd ne1
        refine ⟨fun σ'' H'' => ∃ (e : Addr) (xa xb : Nm), σ'' = [some (.ref d), some (.int most), some (.ref tk), some (.int many), some (.int shape), some (.int far), some (.ref p), some (.ref t), some (.int (1 + (i : Int))), some (.int at'), some (.ref e), none, none] ∧ H'' e = some (.lst [.str (S xa), .str (S xb)]) ∧ e ≠ d ∧ ((xa = ls[at'] ∧ xb = ls[i + 1]) ∨ (xa = ls[i + 1] ∧ xb = ls[at'])) ∧ Tr H H'' d p t (n + 1110 + 3 * i + 2) ls tvs ts, ?_, fun σ'' H'' hM => ?_⟩
        · refine ⟨_, rfl, d, _, 2, rfl, X9.dk, by omega, by decide, by decide, fun H10 b b0 b1 S10 D10 => ?_⟩
          have X10 := X9.step npd ntd S10 D10
          have he10 := S10 e1 _ ed1 he1
          refine ⟨rfl, _, rfl, ite2 (fun e => ?_) (fun e => ?_)⟩
          · refine ⟨_, rfl, e1, _, rfl, SqL.of he10, fun e2 ne2 => ?_⟩
            exact ⟨e2, ls[i + 1], ls[at'], rfl, upd_same, X10.dk.nd ne2, .inr ⟨rfl, rfl⟩, X10.new ne2⟩
          · exact ⟨e1, ls[at'], ls[i + 1], rfl, he10, ed1, .inl ⟨rfl, rfl⟩, X10⟩
        obtain ⟨e, xa, xb, rfl, he, ed, hab, X10⟩ := hM
        -- ties.append
        refine ⟨_, rfl, .inl ⟨rfl, _, SqL.of X10.tt⟩, _, rfl, e, _, 0, _, rfl, rfl, SqL.of he, rfl, _, rfl, e, _, 1, _, rfl, rfl, SqL.of he, rfl, ?_⟩
        refine ⟨_, rfl, _, rfl, d, _, far, rfl, X10.dk, by omega, by omega, by omega, fun H11 lg l0 l1 S11 D11 => ⟨_, _, rfl, rfl, ?_⟩⟩
        have X11 := X10.step npd ntd S11 D11
        refine ⟨(by show 3 ≤ sizeLine; decide), fun e4 ne4 => ?_⟩
        have X12 := X11.new (o := .tup [.str (S xa), .str (S xb), .int (1 + lg)]) ne4
        have tl : tvs.length = ts.length := by
          have := DtAll.len X12.al
          rwa [List.length_map] at this
        have gl := hG.len
        rw [List.length_take] at gl
        refine ⟨t, tvs, _, rfl, rfl, X12.tt, sz_lt (by omega), ?_⟩
        have tk' : TK (upd H11 e4 (.tup [.str (S xa), .str (S xb), .int (1 + lg)])) (upd (upd H11 e4 (.tup [.str (S xa), .str (S xb), .int (1 + lg)])) t (.lst (tvs ++ [.ref e4]))) := TK.mut X12.tt
        refine ⟨_, _, _, tvs ++ [.ref e4], ts ++ [(xa, xb, 1 + lg)], rfl, ?_, ?_, upd_same, ?_, X12.sm.put nt0, (X12.dk.put ntd).mono (by omega)⟩
        · have e5 : ls.take (i + 1 + 1) = ls.take (i + 1) ++ [ls[i + 1]] := by
            rw [List.take_add_one, List.getElem?_eq_getElem lk]
            rfl
          rw [e5]
          refine Grown.leaf (a := ls[at']) (k := 1 + lg) hG ?_ ?_ ?_ (by omega) (by omega)
          · exact List.mem_take_iff_getElem.mpr ⟨at', by omega, rfl⟩
          · intro hm
            obtain ⟨j, hj, ej⟩ := List.mem_take_iff_getElem.mp hm
            have := (List.getElem_inj nd).mp ej
            omega
          · rcases hab with ⟨z1, z2⟩ | ⟨z1, z2⟩ <;> rw [z1, z2]
            · exact .inl rfl
            · exact .inr rfl
        · unfold NamesAt
          rw [upd_ne ntp]
          exact X12.nm
        · rw [List.map_append]
          exact DtAll.app (DtAll.keep tk' X12.al) (.cons (.tup (tk'.tup _ _ upd_same) (.cons (.str _) (.cons (.str _) (.cons (.int _) .nil)))) .nil)
      · obtain ⟨x8, x9, x10, tvs, ts, rfl, hG, X0⟩ := hP
        refine ⟨_, _, _, tvs, ts, rfl, ?_, X0.mono (by omega)⟩
        rwa [List.take_of_length_le (by omega)] at hG
    · obtain ⟨x8, x9, x10, tvs, ts, rfl, hG, X0⟩ := hM
      -- left
      refine ⟨_, rfl, p, _, rfl, .inl (SqL.of X0.nm), fun lf nlf => ?_⟩
      have X1 := X0.new (o := .lst ((ls.map S).map V.str)) nlf
      have lfd := X0.dk.nd nlf
      have lf0 : H lf = none := X0.sm.free nlf lfd
      have lfp : lf ≠ p := (ne_of_none X0.nm nlf).symm
      have lft : lf ≠ t := (ne_of_none X0.tt nlf).symm
      -- places
      refine ⟨_, rfl, (many : Int), rfl, by omega, by omega, fun D nD => ?_⟩
      have Dd := X1.dk.nd nD
      have D0 : H D = none := X1.sm.free nD Dd
      have Dp' : D ≠ p := (ne_of_none X1.nm nD).symm
      have DNt : D ≠ t := (ne_of_none X1.tt nD).symm
      have Dlf : D ≠ lf := (ne_of_none upd_same nD).symm
      refine lc_range (lo := 0) (n := (many : Int).toNat) (fun i H'' => ∃ l1 l2 : List Nm, l1.length = i ∧ (l1 ++ l2).Perm ls ∧ H'' D = some (.lst ((l1.map S).map V.str)) ∧ H'' lf = some (.lst ((l2.map S).map V.str)) ∧ Tr H H'' d p t (n + 1250 + i) ls tvs ts)
        ⟨[], ls, rfl, List.Perm.refl _, upd_same, by rw [upd_ne Dlf.symm]; exact upd_same, X1.new nD⟩ (fun i H'' hi hP => ?_) (fun H'' hP => ?_)
      · obtain ⟨l1, l2, hl1, pm, hD, hlf, X2⟩ := hP
        have ll := pm.length_eq
        rw [List.length_append] at ll
        refine ⟨rfl, _, rfl, .inl ⟨rfl, _, SqL.of hlf⟩, _, rfl, _, rfl, .ref lf, _, rfl, .inl ⟨_, SqL.of hlf, rfl⟩, d, _, _, rfl, X2.dk, by omega, by rw [List.length_map, List.length_map]; omega, by rw [List.length_map, List.length_map]; omega, fun H3 r r0 r1 S3 D3 => ?_⟩
        have X3 := X2.step npd ntd S3 D3
        have hD3 := S3 D _ Dd hD
        have hlf3 := S3 lf _ lfd hlf
        rw [List.length_map, List.length_map] at r1
        have hx : l2[r.toNat]? = some (l2[r.toNat]'(by omega)) := List.getElem?_eq_getElem (by omega)
        generalize l2[r.toNat]'(by omega) = x at hx
        have hx' : ((l2.map S).map V.str)[r.toNat]? = some (.str (S x)) := by
          rw [List.getElem?_map, List.getElem?_map, hx]
          rfl
        refine ⟨lf, _, r, r.toNat, .str (S x), rfl, rfl, hlf3, by omega, by omega, seq_ix r0 (by rw [List.length_map, List.length_map]; exact r1), hx', ?_⟩
        have X4 := X3.put (o := .lst (((l2.map S).map V.str).eraseIdx r.toNat)) lfp lft lfd lf0 hlf3
        have hD4 : (upd H3 lf (.lst (((l2.map S).map V.str).eraseIdx r.toNat))) D = some (.lst ((l1.map S).map V.str)) := by
          rw [upd_ne Dlf]
          exact hD3
        refine ⟨_, hD4, by rw [List.length_map, List.length_map]; exact sz_lt (by omega), l1 ++ [x], l2.eraseIdx r.toNat, by rw [List.length_append, hl1]; rfl, perm_pick pm hx, ?_, ?_, X4.put Dp' DNt Dd D0 hD4⟩
        · rw [upd_same, List.map_append, List.map_append]
          rfl
        · rw [upd_ne Dlf.symm, upd_same, map_erase, map_erase]
      · obtain ⟨l1, l2, hl1, pm, hD, hlf, X2⟩ := hP
        have ll := pm.length_eq
        rw [List.length_append] at ll
        have e2 : l2 = [] := List.length_eq_zero_iff.mp (by omega)
        subst e2
        rw [List.append_nil] at pm
        have gl := hG.len
        refine .inl ⟨D, _, rfl, SqL.of hD, fun q1 nq1 => ?_⟩
        have X2' := (X2.new (o := .tup ((l1.map S).map V.str)) nq1).mono (m := n + 1280) (by omega)
        have hq1 : (upd H'' q1 (.tup ((l1.map S).map V.str))) q1 = some (.tup ((l1.map S).map V.str)) := upd_same
        generalize upd H'' q1 (.tup ((l1.map S).map V.str)) = H20 at X2' hq1
        have q1d : q1 ≠ d := X2.dk.nd nq1
        -- mixed
        refine ⟨_, rfl, _, rfl, _, _, rfl, rfl, (many : Int) - 1, rfl, by omega, by omega, fun G nG => ?_⟩
        have Gd := X2'.dk.nd nG
        have G0 : H G = none := X2'.sm.free nG Gd
        have Gp : G ≠ p := (ne_of_none X2'.nm nG).symm
        have Gt : G ≠ t := (ne_of_none X2'.tt nG).symm
        have Gq : G ≠ q1 := (ne_of_none hq1 nG).symm
        have tq : t ≠ q1 := ne_of X2'.tt hq1 (by intro z; cases z)
        refine lc_range (lo := 0) (n := ((many : Int) - 1).toNat) (fun i H'' => ∃ (ts1 ts2 : List Tie) (vs1 vs2 : List V), ts1.length = i ∧ (ts1 ++ ts2).Perm ts ∧ H'' q1 = some (.tup ((l1.map S).map V.str)) ∧ H'' G = some (.lst vs1) ∧ DtAll H'' vs1 (ts1.map tieD) ∧ Tr H H'' d p t (n + 1280 + i) ls vs2 ts2)
          ⟨[], ts, [], tvs, rfl, List.Perm.refl _, by rw [upd_ne Gq.symm]; exact hq1, upd_same, .nil, X2'.new nG⟩ (fun i H3 hi hP => ?_) (fun H3 hP => ?_)
        · obtain ⟨ts1, ts2, vs1, vs2, hl1', pm', hD3, hG3, hA3, X3⟩ := hP
          have ll' := pm'.length_eq
          rw [List.length_append] at ll'
          have v2 : vs2.length = ts2.length := by
            have := DtAll.len X3.al
            rwa [List.length_map] at this
          have v1 : vs1.length = ts1.length := by
            have := DtAll.len hA3
            rwa [List.length_map] at this
          refine ⟨rfl, _, rfl, .inl ⟨rfl, _, SqL.of X3.tt⟩, _, rfl, _, rfl, .ref t, _, rfl, .inl ⟨_, SqL.of X3.tt, rfl⟩, d, _, _, rfl, X3.dk, by omega, by omega, by omega, fun H4 r r0 r1 S4 D4 => ?_⟩
          have X4 := X3.step npd ntd S4 D4
          have hD4 := S4 q1 _ q1d hD3
          have hG4 := S4 G _ Gd hG3
          have hA4 := DtAll.keep (X3.dk.tk S4) hA3
          have hy : vs2[r.toNat]? = some (vs2[r.toNat]'(by omega)) := List.getElem?_eq_getElem (by omega)
          generalize vs2[r.toNat]'(by omega) = y at hy
          obtain ⟨dy, hdy, hDy⟩ := DtAll.get X4.al hy
          have hx : ts2[r.toNat]? = some (ts2[r.toNat]'(by omega)) := List.getElem?_eq_getElem (by omega)
          generalize ts2[r.toNat]'(by omega) = x at hx
          have edy : dy = tieD x := by
            rw [List.getElem?_map, hx] at hdy
            exact (Option.some.inj hdy).symm
          subst edy
          refine ⟨t, _, r, r.toNat, y, rfl, rfl, X4.tt, by omega, by omega, seq_ix r0 r1, hy, ?_⟩
          have X5 := X4.take (k := r.toNat) ntp ntd nt0
          have hG5 : (upd H4 t (.lst (vs2.eraseIdx r.toNat))) G = some (.lst vs1) := by
            rw [upd_ne Gt]
            exact hG4
          have hD5 : (upd H4 t (.lst (vs2.eraseIdx r.toNat))) q1 = some (.tup ((l1.map S).map V.str)) := by
            rw [upd_ne tq.symm]
            exact hD4
          have tk' : TK H4 (upd (upd H4 t (.lst (vs2.eraseIdx r.toNat))) G (.lst (vs1 ++ [y]))) := (TK.mut X4.tt).trans (TK.mut hG5)
          refine ⟨_, hG5, sz_lt (by omega), ts1 ++ [x], ts2.eraseIdx r.toNat, vs1 ++ [y], vs2.eraseIdx r.toNat, by rw [List.length_append, hl1']; rfl, perm_pick pm' hx, by rw [upd_ne Gq.symm]; exact hD5, upd_same, ?_, X5.put Gp Gt Gd G0 hG5⟩
          rw [List.map_append]
          exact DtAll.app (DtAll.keep tk' hA4) (.cons (Dt.keep tk' hDy) .nil)
        · obtain ⟨ts1, ts2, vs1, vs2, hl1', pm', hD3, hG3, hA3, X3⟩ := hP
          have ll' := pm'.length_eq
          rw [List.length_append] at ll'
          have e2 : ts2 = [] := List.length_eq_zero_iff.mp (by omega)
          subst e2
          rw [List.append_nil] at pm'
          refine .inl ⟨G, vs1, rfl, SqL.of hG3, fun q2 nq2 => ?_⟩
          have X7 := X3.new (o := .tup vs1) nq2
          refine ⟨(by show 2 ≤ sizeLine; decide), fun q3 nq3 => ?_⟩
          have X8 := X7.new (o := .tup [.ref q1, .ref q2]) nq3
          have tk1 : TK H3 (upd (upd H3 q2 (.tup vs1)) q3 (.tup [.ref q1, .ref q2])) := (TK.new nq2).trans (TK.new nq3)
          have tk2 : TK (upd H3 q2 (.tup vs1)) (upd (upd H3 q2 (.tup vs1)) q3 (.tup [.ref q1, .ref q2])) := TK.new nq3
          have it : IsTree l1 ts1 := ⟨ls, ts, hG, pm, pm'⟩
          exact q _ q3 l1 ts1 it (fun x hx => ok x (pm.mem_iff.mp hx)) (fun x hx => un x (pm.mem_iff.mp hx)) (by rw [pm.length_eq]; omega) (.tup upd_same (.cons (.tup (tk1.tup _ _ hD3) (dt_strs _ l1)) (.cons (.tup (tk2.tup _ _ upd_same) (DtAll.keep tk1 hA3)) .nil))) X8.sm (X8.dk.mono (by omega))
end
end Far

namespace Far
open PySem PySem.Spec PyProof.Rows L2
open C8 (pss_cut tCut)
open SX (S)
theorem inK {X : Cx} {K : PySem.W.Frag} (e : X.K = K := by rfl) : OpR X (compareOp .In) (rIn K false) := by
  subst e
  exact op_in_seq
theorem notInK {X : Cx} {K : PySem.W.Frag} (e : X.K = K := by rfl) : OpR X (compareOp .NotIn) (rIn K true) := by
  subst e
  exact op_notIn_seq
/-- a comprehension over a text's signs -/
theorem lc_str {x : Str} {g : TG} {tt : TT} {te : TE} {vs : List Nat} {σ : L2.St} {H1 : Hp} {D : Addr} {Qd : Hp → Prop} (Pv : Nat → Hp → Prop) (h0 : Pv 0 (upd H1 D (.lst [])))
    (hs : ∀ i c H, x.cps[i]? = some c → Pv i H → g (.str ⟨#[c]⟩) (wipe σ vs) H fun σ2 H2 => wipe σ2 vs = wipe σ vs ∧ tt σ2 H2 fun b H3 =>
      if b = true then te σ2 H3 fun y H4 => ∃ acc, H4 D = some (.lst acc) ∧ acc.length < sizeLine ∧ Pv (i + 1) (upd H4 D (.lst (acc ++ [y]))) else Pv (i + 1) H3) (hd : ∀ H, Pv x.cps.size H → Qd H) :
    ∃ W : Nat → Nat → Hp → Prop, (∃ m, W 0 m (upd H1 D (.lst []))) ∧ ∀ i m H, W i m H →
      ((Its x).stop i H ∧ Qd H) ∨ ((Its x).go i H ∧ ∃ Nx : Hp → Prop, (∀ H', Nx H' → ∃ m', m' < m ∧ W (i + 1) m' H') ∧ ∀ v H', (Its x).yld i H v H' → g v (wipe σ vs) H' fun σ2 H2 => wipe σ2 vs = wipe σ vs ∧ tt σ2 H2 fun b H3 =>
        if b = true then te σ2 H3 fun y H4 => ∃ acc, H4 D = some (.lst acc) ∧ acc.length < sizeLine ∧ Nx (upd H4 D (.lst (acc ++ [y]))) else Nx H3) := by
  refine ⟨fun i m H => m = x.cps.size - i ∧ i ≤ x.cps.size ∧ Pv i H, ⟨x.cps.size, by simp, Nat.zero_le _, h0⟩, fun i m H ⟨em, hi, p⟩ => ?_⟩
  by_cases lt : i < x.cps.size
  · refine .inr ⟨lt, Pv (i + 1), fun H' p' => ⟨x.cps.size - (i + 1), by omega, rfl, lt, p'⟩, fun v H' ⟨e, c, hc, ev⟩ => ?_⟩
    rw [e, ev]
    exact hs i c H hc p
  · have e : i = x.cps.size := by omega
    rw [e] at p
    exact .inl ⟨by show x.cps.size ≤ i; omega, hd H p⟩
theorem at_name {pl : List Nm} {i : Nat} {v : V} (hi : ((pl.map S).map V.str)[i]? = some v) : ∃ x, pl[i]? = some x ∧ x ∈ pl ∧ v = .str (S x) ∧ pl.take (i + 1) = pl.take i ++ [x] := by
  rw [List.getElem?_map, List.getElem?_map] at hi
  cases el : pl[i]? with
  | none => rw [el] at hi; cases hi
  | some x => rw [el] at hi; exact ⟨x, rfl, List.mem_of_getElem? el, (Option.some.inj hi).symm, by rw [List.take_add_one, el]; rfl⟩
abbrev s_law_is_place : Stmt := topS 19
abbrev N_law_is_place : List Str := ["error", "name"]
theorem sc_law_is_place : FnScope N_law_is_place ["error", "name"] (defScope s_law_is_place) := ⟨rfl, rfl, rfl, by decide +kernel, rfl, by decide +kernel, by decide +kernel⟩
section
variable {P : Program} {w : World} {K : PySem.W.Frag} {mg : Str → Option Value} {base : Heap} {J C aA aT : Addr}
def spIsPlace (C : Addr) : Sp := fun vs H Q _ => ∃ (a dd : Addr) (l : Nm), vs = [.ref a, .str (S l)] ∧ Caught H a C dd [("name", .str (S l))] ∧ ∀ H', Same H H' → Q (.bl true) H'
theorem ok_is_place {f : Addr} {fd : FuncData} (F : Fun K "_law_is_place" "_law_is_place" s_law_is_place f fd) (T : TxtI mg) (G : KindJ K mg J C aA aT) (C_law_same : Cal P w K mg base 2 "_law_same" (spSame 1)) : FnOk P w K mg base CX0 3 f fd ["error", "name"] (spIsPlace C) := by
  refine F.ok sc_law_is_place (fun vs H Q E h => ?_) (fun cdv A outer s H vs Q E hr h => ?_)
  · obtain ⟨a, dd, l, rfl, _⟩ := h
    rfl
  · obtain ⟨a, dd, l, rfl, hC, q⟩ := h
    refine ⟨_, (pss_cut (ps_if (PW.pt (pw_or (pt_val (pe_callB (call_isAT (K := K)) (by rfl) T.isinstance bt_isinstance (pa_cons (pv 0) (pa_cons (pe_tup (pa_cons (pe_glob (v := .ref aA) rfl G.gNoAsk rfl) (pa_cons (pe_glob (v := .ref J) rfl G.gNoJoin rfl) (pa_cons (pe_glob (v := .ref aT) rfl G.gNoTree rfl) pa_nil)))) pa_nil)))) (pw_or1 (pt_not (pt_val (pe_callB (call_isA (K := K)) (by rfl) T.isinstance bt_isinstance (pa_cons (pv 0) (pa_cons (pe_bltn (v := .ty "ValueError") (by rfl) T.ValueError bt_ValueError rfl) pa_nil))))))))
        (pss_one (ps_ret pe_bl))
        pss_nil)
      (pss_one (ps_ret (pe_and (pe_callB (call_isA (K := K)) (by rfl) T.isinstance bt_isinstance (pa_cons (pv 0) (pa_cons (pe_glob (v := .ref C) rfl G.gNoPlace rfl) pa_nil))) (pe_one (pe_c C_law_same hr (by decide) rfl (pa_cons (pe_cf (pv 0)) (pa_cons (pv 1) pa_nil)))))))), ?_⟩
    refine ⟨fun σ' H' => σ' = [some (.ref a), some (.str (S l))] ∧ Same H H', ?_, fun σ' H' hM => ?_⟩
    · refine ⟨_, rfl, (by show 3 ≤ sizeLine; decide), fun p np => ?_⟩
      have S1 := same_new (o := .tup [.ref aA, .ref J, .ref aT]) (Same.refl H) np
      refine ⟨a, C, p, _, _, false, rfl, .inl ⟨dd, _, hC.same S1⟩, G.excC, upd_same, .cons (.own _) (.cons (.own _) (.cons (.own _) .nil)), kit_none G.cA G.cJ G.cT, ?_⟩
      refine ⟨_, rfl, iteF ?_⟩
      exact ⟨_, rfl, a, C, .ty "ValueError", .type "ValueError", true, rfl, .inl ⟨dd, _, hC.same S1⟩, G.excC, .ty _, G.cV, _, rfl, iteF ⟨rfl, S1⟩⟩
    · obtain ⟨rfl, S1⟩ := hM
      refine ⟨_, rfl, a, C, .ref C, .ref C, true, rfl, .inl ⟨dd, _, hC.same S1⟩, G.excC, .own _, kit_self, _, rfl, iteT ?_⟩
      exact ⟨_, rfl, a, C, dd, _, .str (S l), rfl, hC.same S1, G.xf, G.no, rfl, _, rfl, .str (S l), .str (S l), .str (S l), rfl, .str _, .str _, .str _ _, fun H' S' => q _ (S1.trans S')⟩
end
/-! ### a name that is none -/
def zz : List Nm := (abc.cps.toList).map fun c => [122, 122, c]
def zy : List Nm := (abc.cps.toList).map fun c => [122, c, 121]
theorem zz_nd : (zz ++ zy.eraseIdx 25).Nodup := by decide +kernel
theorem ex_strange {pl : List Nm} (h : pl.length ≤ 50) : ∃ x ∈ zz ++ zy, x ∉ pl := by
  refine Classical.byContradiction fun no => ?_
  have := nodup_sub_len (zz ++ zy.eraseIdx 25) pl zz_nd fun x hx => Classical.byContradiction fun nx => no ⟨x, by
    rcases List.mem_append.mp hx with z | z
    · exact List.mem_append_left _ z
    · exact List.mem_append_right _ (List.mem_of_mem_eraseIdx z), nx⟩
  have e : (zz ++ zy.eraseIdx 25).length = 51 := by decide +kernel
  omega
theorem zz_ok : ∀ x ∈ zz ++ zy, x.length ≤ 8 ∧ ∀ c ∈ x, 97 ≤ c ∧ c ≤ 122 := by decide +kernel
theorem S_nil (x : Nm) : decide (V.str (S x) = V.str (Str.ofString "")) = decide (x = []) := by
  have e : (Str.ofString "") = S [] := rfl
  rw [e]
  by_cases h : x = []
  · rw [h]
    simp
  · rw [decide_eq_false h]
    exact decide_eq_false fun z => h (SX.S_inj (V.str.inj z))
abbrev s_law_strange : Stmt := topS 16
abbrev N_law_strange : List Str := ["deck", "places", "letters", "name", "at", "sign", "some", "one"]
theorem sc_law_strange : FnScope N_law_strange ["deck", "places"] (defScope s_law_strange) := ⟨rfl, rfl, rfl, by decide +kernel, rfl, by decide +kernel, by decide +kernel⟩
section
variable {P : Program} {w : World} {K : PySem.W.Frag} {mg : Str → Option Value} {base : Heap}
def spStrange : Sp := fun vs H Q _ => ∃ (d a : Addr) (n : Nat) (pl : List Nm), vs = [.ref d, .ref a] ∧ SeedAt H d n ∧ n < 95000 ∧ TupAt H a ((pl.map S).map V.str) ∧ (∀ l ∈ pl, NameOk l) ∧ pl ≠ [] ∧ pl.length ≤ 30 ∧
  ∀ (H' : Hp) (l : Nm), NameOk l → l ∉ pl → SmX d H H' → SeedAt H' d (n + 10) → Q (.str (S l)) H'
theorem TupAt.nd {H : Hp} {a d : Addr} {xs : List V} {n : Nat} (h : TupAt H a xs) (D : SeedAt H d n) : a ≠ d := by
  obtain ⟨ys, e⟩ := D.lst
  rcases h with h | ⟨o, _, h⟩ <;> exact ne_of h e (by intro z; cases z)
theorem TupAt.mv {H H' : Hp} {a d : Addr} {xs : List V} (h : TupAt H a xs) (s : SmX d H H') (n : a ≠ d) : TupAt H' a xs := h.elim (fun h => .inl (s a _ n h)) fun ⟨o, e, h⟩ => .inr ⟨o, e, s a _ n h⟩
theorem ok_strange {f : Addr} {fd : FuncData} (F : Fun K "_law_strange" "_law_strange" s_law_strange f fd) (T : TxtG mg) (C_law_draw : Cal P w K mg base 1 "_law_draw" spDraw) : FnOk P w K mg base CX0 2 f fd ["deck", "places"] spStrange := by
  refine F.ok sc_law_strange (fun vs H Q E h => ?_) (fun cdv A outer s H vs Q E hr h => ?_)
  · obtain ⟨d, a, n, pl, rfl, _⟩ := h
    rfl
  · obtain ⟨d, a, n, pl, rfl, hD, hn, hT, ok, ne, pll, q⟩ := h
    have nad := hT.nd hD
    have pl0 : 0 < pl.length := List.length_pos_iff.mpr ne
    refine ⟨_, (pss_cons (ps_set (i := 2) sc_law_strange.nd rfl (.inl rfl) pe_str)
      (pss_cons (ps_set (i := 3) sc_law_strange.nd rfl (.inl rfl) (pe_ix ix_tup (pv 1) (pe_c C_law_draw hr (by decide) rfl (pa_cons (pv 0) (pa_cons (pe_callB call_len_seq (by rfl) T.len bt_len (pa_cons (pv 1) pa_nil)) pa_nil))) (fun _ _ => rfl)))
      (pss_cons (ps_set (i := 4) sc_law_strange.nd rfl (.inl rfl) (pe_c C_law_draw hr (by decide) rfl (pa_cons (pv 0) (pa_cons (pe_callB call_len (by rfl) T.len bt_len (pa_cons (pv 3) pa_nil)) pa_nil))))
      (pss_cons (ps_set (i := 5) sc_law_strange.nd rfl (.inl rfl) (pe_ix ix_str (pv 2) (pe_c C_law_draw hr (by decide) rfl (pa_cons (pv 0) (pa_cons pe_int pa_nil))) (fun _ _ => rfl)))
      (pss_cons (ps_set (i := 6) sc_law_strange.nd rfl (.inl rfl) (pe_lst (pa_cons (pe_op op_add_str (pe_op op_add_str (pe_slice C8.sl_txt (pv 3) po_none (po_some (pv 4))) (pv 5)) (pe_slice C8.sl_txt (pv 3) (po_some (pe_op op_add (pv 4) pe_int)) po_none)) (pa_cons (pe_slice C8.sl_txt (pe_op op_add_str (pv 3) (pv 5)) po_none (po_some pe_int)) (pa_cons (pe_slice C8.sl_txt (pv 3) po_none (po_some (pe_un un_neg pe_int))) (pa_cons (pe_revS (pv 3)) (pa_cons (pv 5) (pa_cons (pe_op op_add_str (pe_slice C8.sl_txt (pv 3) (po_some pe_int) po_none) (pv 5)) pa_nil))))))))
      (pss_cons (ps_set (i := 6) sc_law_strange.nd rfl (.inl rfl) (pe_op op_cat (pe_op op_cat (pe_slice sl_list (pv 6) (po_some (pe_c C_law_draw hr (by decide) rfl (pa_cons (pv 0) (pa_cons pe_int pa_nil)))) po_none) (pe_lc (own := [("one", 7)]) (g := gName 7) (tt := tYes) rfl sc_law_strange.nd (pi_str (pv 2)) (blkOk_by (N := N_law_strange) (sc := defScope s_law_strange) (by decide +kernel)) (fun _ _ _ _ _ => pg_name (i := 7) sc_law_strange.nd rfl (Or.inl rfl)) (fun _ _ _ _ _ => pts_nil) (fun _ _ _ _ _ => (pe_op op_add_str pe_str (pv 7))))) (pe_lc (own := [("one", 7)]) (g := gName 7) (tt := tYes) rfl sc_law_strange.nd (pi_str (pv 2)) (blkOk_by (N := N_law_strange) (sc := defScope s_law_strange) (by decide +kernel)) (fun _ _ _ _ _ => pg_name (i := 7) sc_law_strange.nd rfl (Or.inl rfl)) (fun _ _ _ _ _ => pts_nil) (fun _ _ _ _ _ => (pe_op op_add_str (pe_op op_add_str pe_str (pv 7)) pe_str)))))
      (pss_one (ps_ret (pe_ix ix_list (pe_lc (own := [("one", 7)]) (g := gName 7)  rfl sc_law_strange.nd (pi_list (pv 6)) (blkOk_by (N := N_law_strange) (sc := defScope s_law_strange) (by decide +kernel)) (fun _ _ _ _ _ => pg_name (i := 7) sc_law_strange.nd rfl (Or.inl rfl)) (fun _ _ _ _ _ => pts_one (PW.pt (pw_and (pt_cmpR op_ne (pv 7) pe_str (nomark _)) (pw_and1 (pt_cmpR (notInK (K := K)) (pv 7) (pv 1) rfl))))) (fun _ _ _ _ _ => (pv 7))) pe_int (fun _ _ => rfl)))))))))), ?_⟩
    -- name
    refine ⟨_, rfl, _, rfl, _, rfl, a, _, rfl, .inr hT.sq, d, n, _, rfl, hD, by omega, by rw [List.length_map, List.length_map]; omega, by rw [List.length_map, List.length_map]; omega, fun H1 r r0 r1 S1 D1 => ?_⟩
    obtain ⟨v, hv, mv⟩ := atI_in r0 r1
    obtain ⟨l, hl, rfl⟩ := strs_at mv
    have hT1 := hT.mv S1 nad
    refine ⟨a, _, r, _, rfl, rfl, hT1.sq, hv, ?_⟩
    obtain ⟨k1, k8, kc⟩ := ok l hl
    -- at
    refine ⟨_, rfl, _, rfl, .str (S l), l.length, rfl, ⟨by rw [SX.S_len]; exact sz_le (by omega), (SX.S_len _).symm⟩, d, _, _, rfl, D1, by omega, by omega, by omega, fun H2 at' a0 a1 S2 D2 => ?_⟩
    -- sign
    refine ⟨_, rfl, _, rfl, d, _, 26, rfl, D2, by omega, by decide, by decide, fun H3 r3 r30 r31 S3 D3 => ?_⟩
    obtain ⟨g, hg, mg'⟩ := atI_in (xs := abc.cps.toList) r30 (by rw [abc_len]; exact r31)
    refine ⟨abc, r3, g, rfl, rfl, by decide, hg, ?_⟩
    have okg := abc_ok g mg'
    have SM3 := (S1.trans S2).trans S3
    -- some
    refine ⟨_, rfl, _, rfl, at', rfl, S l, rfl, by rw [SX.S_len]; exact sz_le (by omega), ?_⟩
    refine ⟨_, rfl, S (l.take at'.toNat), S [g], congrArg V.str (SX.slice_to a0), rfl, by rw [SX.S_len, SX.S_len, List.length_take, List.length_singleton]; exact sz_le (by omega), ?_⟩
    refine ⟨_, rfl, _, rfl, at', 1, rfl, rfl, at' + 1, rfl, S l, rfl, by rw [SX.S_len]; exact sz_le (by omega), S (l.take at'.toNat ++ [g]), S (l.drop (at' + 1).toNat), congrArg V.str (SX.S_cat _ _), congrArg V.str (SX.slice_from (by omega)), by rw [SX.S_len, SX.S_len, List.length_append, List.length_take, List.length_drop, List.length_singleton]; exact sz_le (by omega), ?_⟩
    refine ⟨_, rfl, _, rfl, S l, S [g], rfl, rfl, by rw [SX.S_len, SX.S_len]; exact sz_le (by simp; omega), 8, rfl, S (l ++ [g]), congrArg V.str (SX.S_cat _ _), by rw [SX.S_len]; exact sz_le (by simp; omega), ?_⟩
    refine ⟨_, rfl, _, rfl, -1, rfl, S l, rfl, by rw [SX.S_len]; exact sz_le (by omega), ?_⟩
    refine ⟨_, rfl, S l, rfl, by rw [SX.S_len]; exact sz_le (by omega), ?_⟩
    refine ⟨_, rfl, _, rfl, 1, rfl, S l, rfl, by rw [SX.S_len]; exact sz_le (by omega), ?_⟩
    refine ⟨_, rfl, S (l.drop 1), S [g], congrArg V.str (SX.slice_from (by decide)), rfl, by rw [SX.S_len, SX.S_len, List.length_drop]; exact sz_le (by simp; omega), ?_⟩
    rw [SX.S_cat, SX.S_cat, SX.slice_to (show (0 : Int) ≤ 8 by decide), revS_S, SX.slice_butlast (by intro z; rw [z] at k1; exact absurd k1 (by decide))]
    refine ⟨(by show 6 ≤ sizeLine; decide), fun p np => ?_⟩
    have all6 : ∃ six : List Nm, six.length = 6 ∧ (∀ x ∈ six, x.length ≤ 8 ∧ ∀ c ∈ x, 97 ≤ c ∧ c ≤ 122) ∧ [V.str (S (l.take at'.toNat ++ [g] ++ l.drop (at' + 1).toNat)), .str (S ((l ++ [g]).take (8 : Int).toNat)), .str (S (l.take (l.length - 1))), .str (S l.reverse), .str (S [g]), .str (S (l.drop 1 ++ [g]))] = (six.map S).map V.str := by
      refine ⟨[l.take at'.toNat ++ [g] ++ l.drop (at' + 1).toNat, (l ++ [g]).take (8 : Int).toNat, l.take (l.length - 1), l.reverse, [g], l.drop 1 ++ [g]], rfl, fun x hx => ?_, rfl⟩
      simp only [List.mem_cons, List.not_mem_nil, or_false] at hx
      rcases hx with e | e | e | e | e | e <;> subst e
      · refine ⟨by simp; omega, fun c hc => ?_⟩
        rcases List.mem_append.mp hc with z | z
        · rcases List.mem_append.mp z with z | z
          · exact kc c (List.mem_of_mem_take z)
          · rw [List.mem_singleton.mp z]
            exact okg
        · exact kc c (List.mem_of_mem_drop z)
      · refine ⟨by rw [List.length_take]; show min 8 _ ≤ 8; omega, fun c hc => ?_⟩
        rcases List.mem_append.mp (List.mem_of_mem_take hc) with z | z
        · exact kc c z
        · rw [List.mem_singleton.mp z]
          exact okg
      · exact ⟨by rw [List.length_take]; omega, fun c hc => kc c (List.mem_of_mem_take hc)⟩
      · exact ⟨by rw [List.length_reverse]; omega, fun c hc => kc c (List.mem_reverse.mp hc)⟩
      · exact ⟨by simp, fun c hc => by rw [List.mem_singleton.mp hc]; exact okg⟩
      · refine ⟨by simp; omega, fun c hc => ?_⟩
        rcases List.mem_append.mp hc with z | z
        · exact kc c (List.mem_of_mem_drop z)
        · rw [List.mem_singleton.mp z]
          exact okg
    obtain ⟨six, l6, ok6, e6⟩ := all6
    rw [e6]
    have pd : p ≠ d := D3.nd np
    have D4 := D3.new (o := .lst ((six.map S).map V.str)) np
    have SM4 := SM3.new (o := .lst ((six.map S).map V.str)) np
    have hp4 : (upd H3 p (.lst ((six.map S).map V.str))) p = some (.lst ((six.map S).map V.str)) := upd_same
    generalize upd H3 p (.lst ((six.map S).map V.str)) = H4 at D4 SM4 hp4
    -- some, more
    refine ⟨_, rfl, _, rfl, d, _, 6, rfl, D4, by omega, by decide, by decide, fun H5 r5 r50 r51 S5 D5 => ?_⟩
    have hp5 := S5 p _ pd hp4
    have SM5 := SM4.trans S5
    refine ⟨r5, rfl, p, _, rfl, SqL.of hp5, fun p2 np2 => ?_⟩
    have ecut : ∃ s2 : List Nm, s2.length ≤ 6 ∧ (∀ x ∈ s2, x.length ≤ 8 ∧ ∀ c ∈ x, 97 ≤ c ∧ c ≤ 122) ∧ cutV ((six.map S).map V.str) (some r5) none = (s2.map S).map V.str := by
      unfold cutV
      refine ⟨(six.drop _).take _, ?_, fun x hx => ok6 x (List.mem_of_mem_drop (List.mem_of_mem_take hx)), by rw [List.map_take, List.map_take, List.map_drop, List.map_drop]⟩
      rw [List.length_take, List.length_drop]
      omega
    obtain ⟨s2, l2, ok2, e2⟩ := ecut
    rw [e2]
    have D6 := D5.new (o := .lst ((s2.map S).map V.str)) np2
    have SM6 := SM5.new (o := .lst ((s2.map S).map V.str)) np2
    have p2d := D5.nd np2
    have hp6 : (upd H5 p2 (.lst ((s2.map S).map V.str))) p2 = some (.lst ((s2.map S).map V.str)) := upd_same
    generalize upd H5 p2 (.lst ((s2.map S).map V.str)) = H6 at D6 SM6 hp6
    refine ⟨_, rfl, _, rfl, fun D nD => ?_⟩
    have Dd := D6.nd nD
    have Dp : p2 ≠ D := ne_of_none hp6 nD
    have D0 : H D = none := SmX.free SM6 nD Dd
    refine lc_str (x := abc) (fun i H' => H' p2 = some (.lst ((s2.map S).map V.str)) ∧ H' D = some (.lst ((((abc.cps.toList.take i).map fun c => [122, 122, c]).map S).map V.str)) ∧ SmX d H H' ∧ SeedAt H' d (n + 5)) ⟨by rw [upd_ne Dp]; exact hp6, upd_same, SM6.new nD, (D6.new nD).mono (by omega)⟩ (fun i c H' hc hP => ?_) (fun H' hP => ?_)
    · obtain ⟨h1, h2, h3, h4⟩ := hP
      have hc' : abc.cps.toList[i]? = some c := by simpa using hc
      have il : i < 26 := by rw [← abc_len]; exact (List.getElem?_eq_some_iff.mp hc').1
      refine ⟨rfl, _, rfl, S [122, 122], S [c], rfl, rfl, by rw [SX.S_len, SX.S_len]; exact sz_le (by simp), ?_⟩
      rw [SX.S_cat]
      refine ⟨_, h2, by rw [List.length_map, List.length_map, List.length_map, List.length_take]; exact sz_lt (by omega), ?_, ?_, h3.put D0, h4.put Dd⟩
      · rw [upd_ne Dp]
        exact h1
      · rw [upd_same, List.take_add_one, hc', List.map_append, List.map_append, List.map_append]
        rfl
    obtain ⟨h1, h2, h3, h4⟩ := hP
    have es : abc.cps.size = 26 := by decide +kernel
    rw [es, List.take_of_length_le (by rw [abc_len]; omega)] at h2
    have h2 : H' D = some (.lst ((zz.map S).map V.str)) := h2
    have lz : zz.length = 26 := by decide +kernel
    have ly : zy.length = 26 := by decide +kernel
    refine ⟨p2, D, _, _, rfl, rfl, h1, h2, by rw [List.length_map, List.length_map, List.length_map, List.length_map]; exact sz_le (by omega), fun p3 np3 => ?_⟩
    have D7 := h4.new (o := .lst ((s2.map S).map V.str ++ (zz.map S).map V.str)) np3
    have SM7 := h3.new (o := .lst ((s2.map S).map V.str ++ (zz.map S).map V.str)) np3
    have p3d := h4.nd np3
    have hp7 : (upd H' p3 (.lst ((s2.map S).map V.str ++ (zz.map S).map V.str))) p3 = some (.lst ((s2.map S).map V.str ++ (zz.map S).map V.str)) := upd_same
    generalize upd H' p3 (.lst ((s2.map S).map V.str ++ (zz.map S).map V.str)) = H7 at D7 SM7 hp7
    clear h1 h2 h3 h4
    refine ⟨_, rfl, _, rfl, fun G nG => ?_⟩
    have Gd := D7.nd nG
    have Gp : p3 ≠ G := ne_of_none hp7 nG
    have G0 : H G = none := SmX.free SM7 nG Gd
    refine lc_str (x := abc) (fun i H' => H' p3 = some (.lst ((s2.map S).map V.str ++ (zz.map S).map V.str)) ∧ H' G = some (.lst ((((abc.cps.toList.take i).map fun c => [122, c, 121]).map S).map V.str)) ∧ SmX d H H' ∧ SeedAt H' d (n + 5)) ⟨by rw [upd_ne Gp]; exact hp7, upd_same, SM7.new nG, (D7.new nG).mono (by omega)⟩ (fun i c H' hc hP => ?_) (fun H' hP => ?_)
    · obtain ⟨h1, h2, h3, h4⟩ := hP
      have hc' : abc.cps.toList[i]? = some c := by simpa using hc
      have il : i < 26 := by rw [← abc_len]; exact (List.getElem?_eq_some_iff.mp hc').1
      refine ⟨rfl, _, rfl, S [122], S [c], rfl, rfl, by rw [SX.S_len, SX.S_len]; exact sz_le (by simp), S ([122] ++ [c]), S [121], congrArg V.str (SX.S_cat _ _), rfl, by rw [SX.S_len, SX.S_len]; exact sz_le (by simp), ?_⟩
      rw [SX.S_cat]
      refine ⟨_, h2, by rw [List.length_map, List.length_map, List.length_map, List.length_take]; exact sz_lt (by omega), ?_, ?_, h3.put G0, h4.put Gd⟩
      · rw [upd_ne Gp]
        exact h1
      · rw [upd_same, List.take_add_one, hc', List.map_append, List.map_append, List.map_append]
        rfl
    obtain ⟨h1, h2, h3, h4⟩ := hP
    rw [es, List.take_of_length_le (by rw [abc_len]; omega)] at h2
    have h2 : H' G = some (.lst ((zy.map S).map V.str)) := h2
    refine ⟨p3, G, _, _, rfl, rfl, h1, h2, by rw [List.length_append, List.length_map, List.length_map, List.length_map, List.length_map, List.length_map, List.length_map]; exact sz_le (by omega), fun p4 np4 => ?_⟩
    have eL : (s2.map S).map V.str ++ (zz.map S).map V.str ++ (zy.map S).map V.str = ((s2 ++ (zz ++ zy)).map S).map V.str := by
      rw [List.map_append, List.map_append, List.map_append, List.map_append, List.append_assoc]
    rw [eL]
    have D8 := h4.new (o := .lst (((s2 ++ (zz ++ zy)).map S).map V.str)) np4
    have SM8 := h3.new (o := .lst (((s2 ++ (zz ++ zy)).map S).map V.str)) np4
    have hp8 : (upd H' p4 (.lst (((s2 ++ (zz ++ zy)).map S).map V.str))) p4 = some (.lst (((s2 ++ (zz ++ zy)).map S).map V.str)) := upd_same
    generalize upd H' p4 (.lst (((s2 ++ (zz ++ zy)).map S).map V.str)) = H8 at D8 SM8 hp8
    clear h1 h2 h3 h4 eL
    have oL : ∀ x ∈ s2 ++ (zz ++ zy), x.length ≤ 8 ∧ ∀ c ∈ x, 97 ≤ c ∧ c ≤ 122 := fun x hx => by
      rcases List.mem_append.mp hx with z | z
      · exact ok2 x z
      · exact zz_ok x z
    have lL : (s2 ++ (zz ++ zy)).length ≤ 58 := by
      rw [List.length_append, List.length_append, lz, ly]
      omega
    have xL : ∃ x ∈ s2 ++ (zz ++ zy), x ≠ [] ∧ x ∉ pl := by
      obtain ⟨x, hx, nx⟩ := ex_strange (pl := pl) (by omega)
      refine ⟨x, List.mem_append_right _ hx, fun z => ?_, nx⟩
      have : ∀ x ∈ zz ++ zy, x ≠ [] := by decide +kernel
      exact this x hx z
    generalize s2 ++ (zz ++ zy) = L at hp8 oL lL xL D8 SM8
    have hT8 := hT.mv SM8 nad
    -- those that are none
    refine ⟨_, rfl, p4, rfl, ⟨_, SqL.of hp8⟩, fun B nB => ?_⟩
    have Bd := D8.nd nB
    have Bp : p4 ≠ B := ne_of_none hp8 nB
    have B0 : H B = none := SmX.free SM8 nB Bd
    have Ba : a ≠ B := hT8.ne nB
    refine lc_list (K := K) (a := p4) (xs := (L.map S).map V.str) (fun i H' => H' p4 = some (.lst ((L.map S).map V.str)) ∧ TupAt H' a ((pl.map S).map V.str) ∧ H' B = some (.lst ((((L.take i).filter fun x => !decide (x = []) && !decide (x ∈ pl)).map S).map V.str)) ∧ SmX d H H' ∧ SeedAt H' d (n + 5)) ⟨by rw [upd_ne Bp]; exact hp8, hT8.updN Ba, upd_same, SM8.new nB, D8.new nB⟩ (fun i H' _ hP => SqL.of hP.1) (fun i v H' hi hP => ?_) (fun H' hP => ?_)
    · obtain ⟨h1, hT', h2, h3, h4⟩ := hP
      obtain ⟨x, hx, mx, rfl, et⟩ := at_name hi
      have il := (List.getElem?_eq_some_iff.mp hx).1
      refine ⟨rfl, _, rfl, rfl, _, rfl, ?_⟩
      rw [S_nil]
      by_cases c1 : x = []
      · rw [decide_eq_true c1]
        refine iteF (iteF ⟨h1, hT', ?_, h3, h4⟩)
        rw [et, List.filter_append, List.filter_cons_of_neg (by simp [c1])]
        simpa using h2
      · rw [decide_eq_false c1]
        refine iteT ?_
        refine ⟨_, rfl, _, rfl, a, _, rfl, .inr hT'.sq, rfl, flat_strs pl, _, rfl, ?_⟩
        rw [inV_strs]
        by_cases c2 : x ∈ pl
        · rw [decide_eq_true c2]
          refine iteF ⟨h1, hT', ?_, h3, h4⟩
          rw [et, List.filter_append, List.filter_cons_of_neg (by simp [c2])]
          simpa using h2
        · rw [decide_eq_false c2]
          refine iteT ?_
          refine ⟨_, rfl, _, h2, ?_, ?_, hT'.updN Ba, ?_, h3.put B0, h4.put Bd⟩
          · rw [List.length_map, List.length_map]
            refine sz_lt ?_
            have := List.length_filter_le (fun x => !decide (x = []) && !decide (x ∈ pl)) (L.take i)
            rw [List.length_take] at this
            omega
          · rw [upd_ne Bp]
            exact h1
          · rw [upd_same, et, List.filter_append, List.filter_cons_of_pos (by simp [c1, c2]), List.map_append, List.map_append]
            rfl
    · obtain ⟨h1, hT', h2, h3, h4⟩ := hP
      rw [List.length_map, List.length_map, List.take_length] at h2
      obtain ⟨x, hx, x1, x2⟩ := xL
      have mf : x ∈ L.filter fun x => !decide (x = []) && !decide (x ∈ pl) := List.mem_filter.mpr ⟨hx, by simp [x1, x2]⟩
      cases ef : L.filter fun x => !decide (x = []) && !decide (x ∈ pl) with
      | nil =>
        rw [ef] at mf
        cases mf
      | cons y r =>
        rw [ef] at h2
        have my : y ∈ L.filter fun x => !decide (x = []) && !decide (x ∈ pl) := by
          rw [ef]
          exact List.mem_cons_self
        obtain ⟨y1, y2⟩ := List.mem_filter.mp my
        simp at y2
        refine ⟨B, _, 0, .str (S y), rfl, rfl, SqL.of h2, atI_nat (j := 0) rfl, ?_⟩
        have oy := oL y y1
        exact q _ y ⟨by have := List.length_pos_iff.mpr y2.1; omega, oy.1, oy.2⟩ y2.2 h3 (h4.mono (by omega))
end
end Far

namespace Far
open PySem PySem.Spec PyProof.Rows L2
open C8 (pss_cut tCut)
open SX (S)
abbrev s_law_shared : Stmt := topS 20
abbrev N_law_shared : List Str := ["deck", "one", "other", "found", "k", "name", "own", "places", "ties", "here", "there", "length", "place"]
theorem sc_law_shared : FnScope N_law_shared ["deck", "one", "other"] (defScope s_law_shared) := ⟨rfl, rfl, rfl, by decide +kernel, rfl, by decide +kernel, by decide +kernel⟩
section
variable {P : Program} {w : World} {K : PySem.W.Frag} {mg : Str → Option Value} {base : Heap}
/-- another name in the place of own -/
def ren (own name x : Nm) : Nm := if x = own then name else x
def renT (own name : Nm) (t : Tie) : Tie := (ren own name t.1, ren own name t.2.1, t.2.2)
theorem ren_at (own name x : Nm) : atI [V.str (S x), .str (S name)] (if decide (V.str (S x) = V.str (S own)) = true then 1 else 0) = some (.str (S (ren own name x))) := by
  unfold ren
  by_cases h : x = own
  · rw [if_pos h, if_pos (by rw [h]; exact decide_eq_true rfl)]
    rfl
  · rw [if_neg h, if_neg fun z => h (SX.S_inj (V.str.inj (of_decide_eq_true z)))]
    rfl
theorem last_at {pl : List Nm} (ne : pl ≠ []) : ∃ y, y ∈ pl ∧ atI ((pl.map S).map V.str) (-1) = some (.str (S y)) := by
  obtain ⟨L, b, rfl⟩ := (List.eq_nil_or_concat pl).resolve_left ne
  exact ⟨b, by simp, by rw [List.concat_eq_append, List.map_append, List.map_append]; exact atI_last _ _⟩
theorem SeedAt.same {H H' : Hp} {d : Addr} {n : Nat} (h : SeedAt H d n) (s : Same H H') : SeedAt H' d n := by
  obtain ⟨a, f, k, h1, h2⟩ := h
  exact ⟨a, f, k, s _ _ h1, h2⟩
theorem SmX.of {d : Addr} {H H' : Hp} (s : Same H H') : SmX d H H' := fun b o _ h => s b o h
def spShared : Sp := fun vs H Q _ => ∃ (d : Addr) (v v' : V) (n : Nat) (pl pl' : List Nm) (ts ts' : List Tie), vs = [.ref d, v, v'] ∧ SeedAt H d n ∧ n < 95000 ∧ Dt H v (treeD pl ts) ∧ Dt H v' (treeD pl' ts') ∧ pl ≠ [] ∧ pl' ≠ [] ∧ pl.length ≤ 30 ∧ pl'.length ≤ 30 ∧ ts'.length ≤ 30 ∧ (∀ x ∈ pl, x ∉ pl') ∧
  ∀ (H' : Hp) (u : V) (ql : List Nm) (us : List Tie), Dt H' u (treeD ql us) → ql.length ≤ 30 → us.length ≤ 30 → (∃ x ∈ pl, x ∈ ql) → SmX d H H' → SeedAt H' d (n + 20) → Q u H'
theorem SeedAt.tkd {H H' : Hp} {d : Addr} {n : Nat} (h : SeedAt H d n) (s : SmX d H H') : TK H H' := h.tk s
theorem tie_at {H : Hp} {i : Nat} {vs : List V} {ts : List Tie} {v : V} (h : DtAll H vs (ts.map tieD)) (hi : vs[i]? = some v) : ∃ (t : Tie) (p : Addr), ts[i]? = some t ∧ v = .ref p ∧ H p = some (.tup [.str (S t.1), .str (S t.2.1), .int t.2.2]) := by
  obtain ⟨d, hd, hv⟩ := DtAll.get h hi
  rw [List.getElem?_map] at hd
  cases e : ts[i]? with
  | none =>
    rw [e] at hd
    cases hd
  | some t =>
    rw [e] at hd
    have ed : d = tieD t := (Option.some.inj hd).symm
    subst ed
    cases hv with
    | tup ha hs =>
      cases hs with
      | cons a hs =>
        cases hs with
        | cons b hs =>
          cases hs with
          | cons c hs =>
            cases hs
            cases a
            cases b
            cases c
            exact ⟨t, _, rfl, rfl, ha⟩
    | tupZ e =>
      rename_i pl0 o0 e1 e2 e3
      have := congrArg List.length e
      cases pl0 with
      | nil => cases this
      | cons x r =>
        have e := e
        injection e with e1 e2
        cases r with
        | nil => cases e2
        | cons y r =>
          injection e2 with e3 e4
          cases r with
          | nil => cases e4
          | cons z r =>
            injection e4 with e5 e6
            cases e5
theorem ok_shared {f : Addr} {fd : FuncData} (F : Fun K "_law_shared" "_law_shared" s_law_shared f fd) (T : TxtG mg) (C_law_draw : Cal P w K mg base 1 "_law_draw" spDraw) : FnOk P w K mg base CX0 2 f fd ["deck", "one", "other"] spShared := by
  refine F.ok sc_law_shared (fun vs H Q E h => ?_) (fun cdv A outer s H vs Q E hr h => ?_)
  · obtain ⟨d, v, v', n, pl, pl', ts, ts', rfl, _⟩ := h
    rfl
  · obtain ⟨d, v, v', n, pl, pl', ts, ts', rfl, hD, hn, hd, hd', ne, ne', l1, l2, l3, dis, q⟩ := h
    obtain ⟨t, a, b, vs, rfl, ht, ha, hb, hA⟩ := dt_tree hd
    have pl0 : 0 < pl.length := List.length_pos_iff.mpr ne
    have td : t ≠ d := TupAt.nd (.inl ht) hD
    have ad : a ≠ d := ha.nd hD
    refine ⟨_, (pss_cons (ps_set (i := 3) sc_law_shared.nd rfl (.inl rfl) (pv 2))
      (pss_cut (ps_for PassesOwn.never rfl (pi_range1 (by rfl) T.range (pa_cons (pe_op op_add pe_int (pe_c C_law_draw hr (by decide) rfl (pa_cons (pv 0) (pa_cons pe_int pa_nil)))) pa_nil)) (pg_name (i := 4) sc_law_shared.nd rfl (.inl rfl))
        (pss_cons (ps_set (i := 5) sc_law_shared.nd rfl (.inr rfl) (pe_ix ix_list (pe_lst (pa_cons (pe_ix ix_tup (pe_ix ix_tup (pv 1) pe_int (fun _ _ => rfl)) (pe_c C_law_draw hr (by decide) rfl (pa_cons (pv 0) (pa_cons (pe_callB call_len_seq (by rfl) T.len bt_len (pa_cons (pe_ix ix_tup (pv 1) pe_int (fun _ _ => rfl)) pa_nil)) pa_nil))) (fun _ _ => rfl)) (pa_cons (pe_ix ix_tup (pe_ix ix_tup (pv 1) pe_int (fun _ _ => rfl)) (pe_un un_neg pe_int) (fun _ _ => rfl)) pa_nil))) (pe_c C_law_draw hr (by decide) rfl (pa_cons (pv 0) (pa_cons pe_int pa_nil))) (fun _ _ => rfl)))
        (pss_cons (ps_set (i := 6) sc_law_shared.nd rfl (.inr rfl) (pe_ix ix_list (pe_lst (pa_cons (pe_ix ix_tup (pe_ix ix_tup (pv 3) pe_int (fun _ _ => rfl)) (pe_c C_law_draw hr (by decide) rfl (pa_cons (pv 0) (pa_cons (pe_callB call_len_seq (by rfl) T.len bt_len (pa_cons (pe_ix ix_tup (pv 3) pe_int (fun _ _ => rfl)) pa_nil)) pa_nil))) (fun _ _ => rfl)) (pa_cons (pe_ix ix_tup (pe_ix ix_tup (pv 3) pe_int (fun _ _ => rfl)) (pe_un un_neg pe_int) (fun _ _ => rfl)) pa_nil))) (pe_c C_law_draw hr (by decide) rfl (pa_cons (pv 0) (pa_cons pe_int pa_nil))) (fun _ _ => rfl)))
        (pss_one (ps_if (pt_cmpR op_notIn_seq (pv 5) (pe_ix ix_tup (pv 3) pe_int (fun _ _ => rfl)) rfl)
          (pss_cons (ps_set (i := 7) sc_law_shared.nd rfl (.inl rfl) (pe_tupleOf (by rfl) T.tuple (pe_lc (own := [("place", 12)]) (g := gName 12) (tt := tYes) rfl sc_law_shared.nd (pi_tup (pe_ix ix_tup (pv 3) pe_int (fun _ _ => rfl))) (blkOk_by (N := N_law_shared) (sc := defScope s_law_shared) (by decide +kernel)) (fun _ _ _ _ _ => pg_name (i := 12) sc_law_shared.nd rfl (Or.inl rfl)) (fun _ _ _ _ _ => pts_nil) (fun _ _ _ _ _ => (pe_ix (ixl (K := K)) (pe_lst (pa_cons (pv 12) (pa_cons (pv 5) pa_nil))) (pe_callTy call_int1 (by rfl) T.int bt_int (pa_cons (pe_cmpR op_eq (pv 12) (pv 6) (nomark _)) pa_nil)) (fun _ _ => rfl))))))
          (pss_cons (ps_set (i := 8) sc_law_shared.nd rfl (.inl rfl) (pe_lst pa_nil))
          (pss_cut (ps_for PassesOwn.never rfl (pi_tup (pe_ix ix_tup (pv 3) pe_int (fun _ _ => rfl))) (pg_tup rfl (pgs_cons (pg_name (i := 9) sc_law_shared.nd rfl (.inl rfl)) (pgs_cons (pg_name (i := 10) sc_law_shared.nd rfl (.inl rfl)) (pgs_cons (pg_name (i := 11) sc_law_shared.nd rfl (.inl rfl)) pgs_nil))))
            (pss_one (ps_expr (pe_bm PySem.F.plainAttrs_list PySem.F.slot_list_append PySem.F.type_list_append mt_append (pv 8) (pa_cons (pe_tup (pa_cons (pe_ix ix_list (pe_lst (pa_cons (pv 9) (pa_cons (pv 5) pa_nil))) (pe_callTy call_int1 (by rfl) T.int bt_int (pa_cons (pe_cmpR op_eq (pv 9) (pv 6) (nomark _)) pa_nil)) (fun _ _ => rfl)) (pa_cons (pe_ix ix_list (pe_lst (pa_cons (pv 10) (pa_cons (pv 5) pa_nil))) (pe_callTy call_int1 (by rfl) T.int bt_int (pa_cons (pe_cmpR op_eq (pv 10) (pv 6) (nomark _)) pa_nil)) (fun _ _ => rfl)) (pa_cons (pv 11) pa_nil)))) pa_nil)))))
          (pss_one (ps_set (i := 3) sc_law_shared.nd rfl (.inl rfl) (pe_tup (pa_cons (pv 7) (pa_cons (pe_tupleOf (by rfl) T.tuple (pv 8)) pa_nil))))))))
          pss_nil)))))
      (pss_one (ps_ret (pv 3))))), ?_⟩
    refine ⟨_, rfl, ?_⟩
    have Inv0 : True := trivial
    refine ⟨fun σ' H' => ∃ (u : V) (ql : List Nm) (us : List Tie) (x4 x5 x6 x7 x8 x9 x10 x11 : Option V), σ' = [some (.ref d), some (.ref t), some v', some u, x4, x5, x6, x7, x8, x9, x10, x11, none] ∧ Dt H' u (treeD ql us) ∧ ql ≠ [] ∧ ql.length ≤ 30 ∧ us.length ≤ 30 ∧ (∃ x ∈ pl, x ∈ ql) ∧ SmX d H H' ∧ SeedAt H' d (n + 20), ?_, fun σ' H' hM => ?_⟩
    · refine ⟨_, rfl, d, n, 2, rfl, hD, by omega, by decide, by decide, fun H1 r r0 r1 S1 D1 => ⟨_, _, rfl, rfl, 1 + r, rfl, by omega, by omega, ?_⟩⟩
      refine for_range (lo := 0) (n := (1 + r).toNat) (fun i σ' H' => ∃ (u : V) (ql : List Nm) (us : List Tie) (x4 x5 x6 x7 x8 x9 x10 x11 : Option V), σ' = [some (.ref d), some (.ref t), some v', some u, x4, x5, x6, x7, x8, x9, x10, x11, none] ∧ Dt H' u (treeD ql us) ∧ ql ≠ [] ∧ ql.length ≤ 30 ∧ us.length ≤ 30 ∧ (0 < i → ∃ x ∈ pl, x ∈ ql) ∧ (i = 0 → ql = pl') ∧ SmX d H H' ∧ SeedAt H' d (n + 1 + 6 * i)) ⟨v', pl', ts', none, none, none, none, none, none, none, none, rfl, Dt.keep (hD.tk S1) hd', ne', l2, l3, fun z => absurd z (Nat.lt_irrefl _), fun _ => rfl, S1, D1⟩ (fun i σ' H' hi hP => ?_) (fun σ' H' hP => ?_)
      · obtain ⟨u, ql, us, x4, x5, x6, x7, x8, x9, x10, x11, rfl, hu, qne, ql1, us1, sh, ini, SM, DD⟩ := hP
        have hi2 : i < 2 := by omega
        obtain ⟨t', a', b', vs', rfl, ht', ha', hb', hA'⟩ := dt_tree hu
        have ql0 : 0 < ql.length := List.length_pos_iff.mpr qne
        have t'd : t' ≠ d := TupAt.nd (.inl ht') DD
        have a'd : a' ≠ d := ha'.nd DD
        have b'd : b' ≠ d := TupAt.nd (.inl hb') DD
        have ht1 := SM t _ td ht
        have ha1 := ha.mv SM ad
        -- name
        refine ⟨_, rfl, t, _, 0, .ref a, rfl, rfl, SqT.of ht1, atI_nat (j := 0) rfl, _, rfl, _, rfl, t, _, 0, .ref a, rfl, rfl, SqT.of ht1, atI_nat (j := 0) rfl, a, _, rfl, .inr ha1.sq, d, _, _, rfl, DD, by omega, by rw [List.length_map, List.length_map]; omega, by rw [List.length_map, List.length_map]; omega, fun H2 r2 r20 r21 S2 D2 => ?_⟩
        obtain ⟨v, hv, mv⟩ := atI_in r20 r21
        obtain ⟨y1, my1, rfl⟩ := strs_at mv
        have ht2 := S2 t _ td ht1
        have ha2 := ha1.mv S2 ad
        refine ⟨a, _, r2, _, rfl, rfl, ha2.sq, hv, ?_⟩
        obtain ⟨y2, my2, hy2⟩ := last_at ne
        refine ⟨_, rfl, t, _, 0, .ref a, rfl, rfl, SqT.of ht2, atI_nat (j := 0) rfl, _, rfl, a, _, -1, _, rfl, rfl, ha2.sq, hy2, (by show 2 ≤ sizeLine; decide), fun p np => ?_⟩
        refine ⟨_, rfl, d, _, 2, rfl, D2.new np, by omega, by decide, by decide, fun H3 r3 r30 r31 S3 D3 => ?_⟩
        have hp3 := S3 p _ (D2.nd np) upd_same
        obtain ⟨v, hv, mv⟩ := atI_in (xs := [V.str (S y1), .str (S y2)]) r30 (by simpa using r31)
        obtain ⟨name, rfl, mname⟩ : ∃ l : Nm, v = .str (S l) ∧ l ∈ pl := by
          simp only [List.mem_cons, List.not_mem_nil, or_false] at mv
          rcases mv with e | e
          · exact ⟨y1, e, my1⟩
          · exact ⟨y2, e, my2⟩
        refine ⟨p, _, r3, _, rfl, rfl, SqL.of hp3, hv, ?_⟩
        have SM3 : SmX d H H3 := ((SM.trans S2).new np).trans S3
        have SX3 : SmX d H' H3 := (S2.new np).trans S3
        -- own
        have ht3 := SX3 t' _ t'd ht'
        have ha3 := ha'.mv SX3 a'd
        refine ⟨_, rfl, t', _, 0, .ref a', rfl, rfl, SqT.of ht3, atI_nat (j := 0) rfl, _, rfl, _, rfl, t', _, 0, .ref a', rfl, rfl, SqT.of ht3, atI_nat (j := 0) rfl, a', _, rfl, .inr ha3.sq, d, _, _, rfl, D3, by omega, by rw [List.length_map, List.length_map]; omega, by rw [List.length_map, List.length_map]; omega, fun H4 r4 r40 r41 S4 D4 => ?_⟩
        obtain ⟨v, hv, mv⟩ := atI_in r40 r41
        obtain ⟨z1, mz1, rfl⟩ := strs_at mv
        have ht4 := S4 t' _ t'd ht3
        have ha4 := ha3.mv S4 a'd
        refine ⟨a', _, r4, _, rfl, rfl, ha4.sq, hv, ?_⟩
        obtain ⟨z2, mz2, hz2⟩ := last_at qne
        refine ⟨_, rfl, t', _, 0, .ref a', rfl, rfl, SqT.of ht4, atI_nat (j := 0) rfl, _, rfl, a', _, -1, _, rfl, rfl, ha4.sq, hz2, (by show 2 ≤ sizeLine; decide), fun p5 np5 => ?_⟩
        refine ⟨_, rfl, d, _, 2, rfl, D4.new np5, by omega, by decide, by decide, fun H6 r6 r60 r61 S6 D6 => ?_⟩
        have hp6 := S6 p5 _ (D4.nd np5) upd_same
        obtain ⟨v, hv, mv⟩ := atI_in (xs := [V.str (S z1), .str (S z2)]) r60 (by simpa using r61)
        obtain ⟨own, rfl, mown⟩ : ∃ l : Nm, v = .str (S l) ∧ l ∈ ql := by
          simp only [List.mem_cons, List.not_mem_nil, or_false] at mv
          rcases mv with e | e
          · exact ⟨z1, e, mz1⟩
          · exact ⟨z2, e, mz2⟩
        refine ⟨p5, _, r6, _, rfl, rfl, SqL.of hp6, hv, ?_⟩
        have SM6 : SmX d H H6 := ((SM3.trans S4).new np5).trans S6
        have SX6 : SmX d H' H6 := ((SX3.trans S4).new np5).trans S6
        have ht6 := SX6 t' _ t'd ht'
        have ha6 := ha'.mv SX6 a'd
        have tk6 : TK H' H6 := DD.tk SX6
        -- the if
        refine ⟨_, rfl, _, rfl, t', _, 0, .ref a', rfl, rfl, SqT.of ht6, atI_nat (j := 0) rfl, a', _, rfl, .inr ha6.sq, rfl, flat_strs ql, _, rfl, ?_⟩
        rw [inV_strs]
        by_cases c : name ∈ ql
        · rw [decide_eq_true c]
          exact iteF ⟨.ref t', ql, us, _, _, _, _, _, _, _, _, rfl, Dt.keep tk6 hu, qne, ql1, us1, fun _ => ⟨name, mname, c⟩, fun z => by omega, SM6, D6.mono (by omega)⟩
        · rw [decide_eq_false c]
          refine iteT ?_
          -- places
          refine ⟨_, rfl, t', _, 0, .ref a', rfl, rfl, SqT.of ht6, atI_nat (j := 0) rfl, a', rfl, ⟨_, ha6.sq⟩, fun D nD => ?_⟩
          have Dd := D6.nd nD
          have D0 : H D = none := SmX.free SM6 nD Dd
          refine lc_tup (K := K) (a := a') (xs := (ql.map S).map V.str) (fun i H'' => Same H6 H'' ∧ H'' D = some (.lst ((((ql.take i).map (ren own name)).map S).map V.str))) ⟨same_new (Same.refl H6) nD, upd_same⟩ (fun i H'' _ hP => (ha6.same hP.1).sq) (fun j v H'' hj hP => ?_) (fun H'' hP => ?_)
          · obtain ⟨S7, hDD⟩ := hP
            obtain ⟨x, hx, mx, rfl, et⟩ := at_name hj
            refine ⟨rfl, _, rfl, _, rfl, (by show 2 ≤ sizeLine; decide), fun e ne => ?_⟩
            have De : D ≠ e := ne_of_none hDD ne
            refine ⟨_, rfl, _, rfl, rfl, .inr ⟨_, rfl, e, _, _, _, rfl, rfl, SqL.of upd_same, ren_at own name x, ?_⟩⟩
            refine ⟨_, by rw [upd_ne De]; exact hDD, by rw [List.length_map, List.length_map, List.length_map, List.length_take]; exact sz_lt (by omega), same_put (same_new S7 ne) nD, ?_⟩
            rw [upd_same, et, List.map_append, List.map_append, List.map_append]
            rfl
          obtain ⟨S7, hDD⟩ := hP
          rw [List.length_map, List.length_map, List.take_length] at hDD
          refine .inl ⟨D, _, rfl, SqL.of hDD, fun q1 nq1 => ?_⟩
          have S8 := same_new (o := .tup (((ql.map (ren own name)).map S).map V.str)) S7 nq1
          have hq1 : (upd H'' q1 (.tup (((ql.map (ren own name)).map S).map V.str))) q1 = some (.tup (((ql.map (ren own name)).map S).map V.str)) := upd_same
          generalize upd H'' q1 (.tup (((ql.map (ren own name)).map S).map V.str)) = H8 at S8 hq1
          -- ties
          refine ⟨Nat.zero_le _, fun tq ntq => ?_⟩
          have S9 := same_new (o := .lst []) S8 ntq
          have tq1 : q1 ≠ tq := ne_of_none hq1 ntq
          have tqd : tq ≠ d := (D6.same S8).nd ntq
          have tq6 : H6 tq = none := S8.free ntq
          have nb : b' ≠ tq := ne_of_none (S8 _ _ (SX6 _ _ b'd hb')) ntq
          have vl' : vs'.length = us.length := by
            have := DtAll.len hA'
            rwa [List.length_map] at this
          refine ⟨fun σ2 H2 => ∃ (x9 x10 x11 : Option V) (ws : List V), σ2 = [some (.ref d), some (.ref t), some v', some (.ref t'), some (.int (0 + (i : Int))), some (.str (S name)), some (.str (S own)), some (.ref q1), some (.ref tq), x9, x10, x11, none] ∧ Same H6 H2 ∧ H2 q1 = some (.tup (((ql.map (ren own name)).map S).map V.str)) ∧ H2 tq = some (.lst ws) ∧ DtAll H2 ws ((us.map (renT own name)).map tieD), ?_, fun σ2 H2 hM => ?_⟩
          · refine ⟨_, rfl, t', _, 1, .ref b', rfl, rfl, SqT.of (S9 _ _ ht6), atI_nat (j := 1) rfl, b', rfl, ⟨_, SqT.of (S9 _ _ (SX6 _ _ b'd hb'))⟩, for_tup (K := K) (a := b') (xs := vs') (fun j σ2 H2 => ∃ (x9 x10 x11 : Option V) (ws : List V), σ2 = [some (.ref d), some (.ref t), some v', some (.ref t'), some (.int (0 + (i : Int))), some (.str (S name)), some (.str (S own)), some (.ref q1), some (.ref tq), x9, x10, x11, none] ∧ Same H6 H2 ∧ H2 q1 = some (.tup (((ql.map (ren own name)).map S).map V.str)) ∧ H2 tq = some (.lst ws) ∧ DtAll H2 ws (((us.take j).map (renT own name)).map tieD)) ⟨_, _, _, [], rfl, S9, by rw [upd_ne tq1]; exact hq1, upd_same, .nil⟩ (fun j σ2 H2 _ hP => ?_) (fun j v σ2 H2 hj hP => ?_) (fun σ2 H2 hP => ?_)⟩
            · obtain ⟨_, _, _, _, _, S10, _⟩ := hP
              exact SqT.of (S10 _ _ (SX6 _ _ b'd hb'))
            · obtain ⟨x9, x10, x11, ws, rfl, S10, hq, hw, hW⟩ := hP
              obtain ⟨t3, p3, ht3, rfl, hp3⟩ := tie_at (DtAll.keep (tk6.trans (TK.of S10)) hA') hj
              have jl := (List.getElem?_eq_some_iff.mp ht3).1
              refine ⟨p3, _, rfl, SqT.of hp3, rfl, _, _, rfl, _, _, rfl, _, _, rfl, rfl, ?_⟩
              refine ⟨_, rfl, .inl ⟨rfl, _, SqL.of hw⟩, _, rfl, _, rfl, (by show 2 ≤ sizeLine; decide), fun e1 ne1 => ?_⟩
              refine ⟨_, rfl, _, rfl, rfl, .inr ⟨_, rfl, e1, _, _, _, rfl, rfl, SqL.of upd_same, ren_at own name t3.1, ?_⟩⟩
              refine ⟨_, rfl, _, rfl, (by show 2 ≤ sizeLine; decide), fun e2 ne2 => ?_⟩
              refine ⟨_, rfl, _, rfl, rfl, .inr ⟨_, rfl, e2, _, _, _, rfl, rfl, SqL.of upd_same, ren_at own name t3.2.1, ?_⟩⟩
              refine ⟨_, rfl, (by show 3 ≤ sizeLine; decide), fun e3 ne3 => ?_⟩
              have S11 := same_new (o := .tup [.str (S (ren own name t3.1)), .str (S (ren own name t3.2.1)), .int t3.2.2]) (same_new (o := .lst [.str (S t3.2.1), .str (S name)]) (same_new (o := .lst [.str (S t3.1), .str (S name)]) (Same.refl H2) ne1) ne2) ne3
              have he3 : (upd (upd (upd H2 e1 (.lst [.str (S t3.1), .str (S name)])) e2 (.lst [.str (S t3.2.1), .str (S name)])) e3 (.tup [.str (S (ren own name t3.1)), .str (S (ren own name t3.2.1)), .int t3.2.2])) e3 = some (.tup [.str (S (ren own name t3.1)), .str (S (ren own name t3.2.1)), .int t3.2.2]) := upd_same
              generalize upd (upd (upd H2 e1 (.lst [.str (S t3.1), .str (S name)])) e2 (.lst [.str (S t3.2.1), .str (S name)])) e3 (.tup [.str (S (ren own name t3.1)), .str (S (ren own name t3.2.1)), .int t3.2.2]) = H11 at S11 he3
              have wl : ws.length = j := by
                have := DtAll.len hW
                rw [List.length_map, List.length_map, List.length_take] at this
                omega
              refine ⟨tq, ws, _, rfl, rfl, S11 _ _ hw, sz_lt (by omega), ?_⟩
              have tk11 : TK H11 (upd H11 tq (.lst (ws ++ [.ref e3]))) := TK.mut (S11 _ _ hw)
              refine ⟨_, _, _, _, rfl, same_put (S10.trans S11) tq6, by rw [upd_ne tq1]; exact S11 _ _ hq, upd_same, ?_⟩
              rw [List.take_add_one, ht3, List.map_append, List.map_append]
              exact DtAll.app (DtAll.keep ((TK.of S11).trans tk11) hW) (.cons (.tup (tk11.tup _ _ he3) (.cons (.str _) (.cons (.str _) (.cons (.int _) .nil)))) .nil)
            · obtain ⟨x9, x10, x11, ws, rfl, S10, hq, hw, hW⟩ := hP
              rw [List.take_of_length_le (by omega)] at hW
              exact ⟨_, _, _, ws, rfl, S10, hq, hw, hW⟩
          obtain ⟨x9, x10, x11, ws, rfl, S10, hq, hw, hW⟩ := hM
          refine ⟨_, rfl, _, rfl, .inl ⟨tq, _, rfl, SqL.of hw, fun q2 nq2 => ⟨(by show 2 ≤ sizeLine; decide), fun q3 nq3 => ?_⟩⟩⟩
          have tk2 : TK H2 (upd (upd H2 q2 (.tup ws)) q3 (.tup [.ref q1, .ref q2])) := (TK.new nq2).trans (TK.new nq3)
          have tk3 : TK (upd H2 q2 (.tup ws)) (upd (upd H2 q2 (.tup ws)) q3 (.tup [.ref q1, .ref q2])) := TK.new nq3
          have S12 := same_new (o := .tup [.ref q1, .ref q2]) (same_new (o := .tup ws) S10 nq2) nq3
          refine ⟨.ref q3, ql.map (ren own name), us.map (renT own name), _, _, _, _, _, _, _, _, rfl, .tup upd_same (.cons (.tup (tk2.tup _ _ hq) (dt_strs _ _)) (.cons (.tup (tk3.tup _ _ upd_same) (DtAll.keep tk2 hW)) .nil)), by simpa using qne, by rw [List.length_map]; exact ql1, by rw [List.length_map]; exact us1, fun _ => ⟨name, mname, List.mem_map.mpr ⟨own, mown, if_pos rfl⟩⟩, fun z => by omega, SM6.trans (SmX.of S12), (D6.same S12).mono (by omega)⟩
      · obtain ⟨u, ql, us, x4, x5, x6, x7, x8, x9, x10, x11, rfl, hu, qne, ql1, us1, sh, ini, SM, DD⟩ := hP
        exact ⟨u, ql, us, _, _, _, _, _, _, _, _, rfl, hu, qne, ql1, us1, sh (by omega), SM, DD.mono (by omega)⟩
    · obtain ⟨u, ql, us, x4, x5, x6, x7, x8, x9, x10, x11, rfl, hu, qne, ql1, us1, sh, SM, DD⟩ := hM
      exact ⟨_, rfl, q _ u ql us hu ql1 us1 sh SM DD⟩
end
end Far

namespace Far
open PySem PySem.Spec PyProof.Rows L2
open C8 (pss_cut tCut)
open SX (S)
theorem eqv_same {d : PyData} (h : SeqAt.shaped d = true) : PyData.eqv d d = true := SeqAt.eqv_refl d (by
  unfold SeqAt.shaped at h
  simp at h
  exact h.1)
theorem ties_lay : ∀ {ts : List Tie}, (∀ e ∈ ts, NameOk e.1 ∧ NameOk e.2.1) → PyData.canLayAll0 (ts.map tieD) = true ∧ PyData.depthAll (ts.map tieD) ≤ 1
  | [], _ => ⟨rfl, Nat.zero_le _⟩
  | e :: r, h => by
    obtain ⟨h1, h2⟩ := ties_lay fun x hx => h x (List.mem_cons.mpr (.inr hx))
    obtain ⟨a, b⟩ := h e (List.mem_cons.mpr (.inl rfl))
    refine ⟨?_, ?_⟩
    · show ((PyData.strOk (S e.1) && (PyData.strOk (S e.2.1) && (true && true))) && PyData.canLayAll0 (r.map tieD)) = true
      rw [strOk_S a, strOk_S b, h1]
      rfl
    · show max (max 0 (max 0 (max 0 0)) + 1) (PyData.depthAll (r.map tieD)) ≤ 1
      omega
theorem shaped_tree {pl : List Nm} {ts : List Tie} (h1 : ∀ l ∈ pl, NameOk l) (h2 : ∀ e ∈ ts, NameOk e.1 ∧ NameOk e.2.1) : SeqAt.shaped (treeD pl ts) = true := by
  have a : PyData.canLayAll0 (pl.map strD) = true := lay_strs h1
  have b : PyData.depthAll (pl.map strD) = 0 := dep_strs pl
  obtain ⟨c, e⟩ := ties_lay h2
  show ((PyData.canLayAll0 (pl.map strD) && (PyData.canLayAll0 (ts.map tieD) && true)) && decide (max (PyData.depthAll (pl.map strD) + 1) (max (PyData.depthAll (ts.map tieD) + 1) 0) + 1 ≤ 64)) = true
  rw [a, b, c, decide_eq_true (by omega)]
  rfl
theorem plain_tree {pl : List Nm} {ts : List Tie} (h1 : pl.length ≤ 1000) (h2 : ts.length ≤ 1000) : Plain 4 (treeD pl ts) := by
  refine .tup (fun d hd => ?_) (by show 2 ≤ 1000; decide)
  simp only [List.mem_cons, List.not_mem_nil, or_false] at hd
  rcases hd with e | e <;> subst e
  · exact .tup (fun d hd => by obtain ⟨x, _, rfl⟩ := List.mem_map.mp hd; exact .str _ _) (by rw [List.length_map]; exact h1)
  · refine .tup (fun d hd => ?_) (by rw [List.length_map]; exact h2)
    obtain ⟨x, _, rfl⟩ := List.mem_map.mp hd
    refine .tup (fun d hd => ?_) (by show 3 ≤ 1000; decide)
    simp only [List.mem_cons, List.not_mem_nil, or_false] at hd
    rcases hd with e | e | e <;> subst e
    · exact .str _ _
    · exact .str _ _
    · exact .int _ _
abbrev s_law_refused_right : Stmt := topS 21
abbrev N_law_refused_right : List Str := ["deck", "one", "other", "first", "second", "strange", "wrong", "shared", "here", "there"]
theorem sc_law_refused_right : FnScope N_law_refused_right ["deck", "one", "other", "first", "second"] (defScope s_law_refused_right) := ⟨rfl, rfl, rfl, by decide +kernel, rfl, by decide +kernel, by decide +kernel⟩
section
variable {P : Program} {w : World} {K : PySem.W.Frag} {mg : Str → Option Value} {base : Heap} {J C aA aT : Addr}
def spRR : Sp := fun vs H Q _ => ∃ (d : Addr) (v v' : V) (n : Nat) (pl pl' : List Nm) (ts ts' : List Tie) (u x : Nm), vs = [.ref d, v, v', .str (S u), .str (S x)] ∧ SeedAt H d n ∧ n < 90000 ∧ Dt H v (treeD pl ts) ∧ Dt H v' (treeD pl' ts') ∧ (∀ y ∈ pl, NameOk y) ∧ (∀ y ∈ pl', NameOk y) ∧ u ∈ pl ∧ x ∈ pl' ∧ pl.length ≤ 30 ∧ pl'.length ≤ 30 ∧ ts.length ≤ 30 ∧ ts'.length ≤ 30 ∧ (∀ y ∈ pl, y ∉ pl') ∧
  ∀ H' : Hp, SmX d H H' → SeedAt H' d (n + 40) → Q (.bl true) H'
theorem ok_rr {f : Addr} {fd : FuncData} (F : Fun K "_law_refused_right" "_law_refused_right" s_law_refused_right f fd) (C_law_strange : Cal P w K mg base 2 "_law_strange" spStrange) (C_law_shared : Cal P w K mg base 2 "_law_shared" spShared) (C_law_caught : Cal P w K mg base 4 "_law_caught" (spCaught J C)) (C_law_is_place : Cal P w K mg base 3 "_law_is_place" (spIsPlace C)) (C_law_is_join : Cal P w K mg base 1 "_law_is_join" (spIsJoin J)) : FnOk P w K mg base CX0 5 f fd ["deck", "one", "other", "first", "second"] spRR := by
  refine F.ok sc_law_refused_right (fun vs H Q E h => ?_) (fun cdv A outer s H vs Q E hr h => ?_)
  · obtain ⟨d, v, v', n, pl, pl', ts, ts', u, x, rfl, _⟩ := h
    rfl
  · obtain ⟨d, v, v', n, pl, pl', ts, ts', u, x, rfl, hD, hn, hd, hd', ok, ok', mu, mx, l1, l2, l3, l4, dis, q⟩ := h
    obtain ⟨t, a, b, vs, rfl, ht, ha, hb, hA⟩ := dt_tree hd
    obtain ⟨t', a', b', vs', rfl, ht', ha', hb', hA'⟩ := dt_tree hd'
    have ne : pl ≠ [] := fun z => by rw [z] at mu; cases mu
    have ne' : pl' ≠ [] := fun z => by rw [z] at mx; cases mx
    have td : t ≠ d := TupAt.nd (.inl ht) hD
    have t'd : t' ≠ d := TupAt.nd (.inl ht') hD
    have ad : a ≠ d := ha.nd hD
    have a'd : a' ≠ d := ha'.nd hD
    refine ⟨_, (pss_cons (ps_set (i := 5) sc_law_refused_right.nd rfl (.inl rfl) (pe_c C_law_strange hr (by decide) rfl (pa_cons (pv 0) (pa_cons (pe_ix ix_tup (pv 1) pe_int (fun _ _ => rfl)) pa_nil))))
      (pss_cons (ps_set (i := 6) sc_law_refused_right.nd rfl (.inl rfl) (pe_c C_law_strange hr (by decide) rfl (pa_cons (pv 0) (pa_cons (pe_ix ix_tup (pv 2) pe_int (fun _ _ => rfl)) pa_nil))))
      (pss_cut (ps_if (pt_not (pt_val (pe_c C_law_is_place hr (by decide) rfl (pa_cons (pe_c C_law_caught hr (by decide) rfl (pa_cons (pv 1) (pa_cons (pv 2) (pa_cons (pv 5) (pa_cons (pv 4) (pa_cons pe_int pa_nil)))))) (pa_cons (pv 5) pa_nil)))))
        (pss_one (ps_ret pe_bl))
        pss_nil)
      (pss_cut (ps_if (pt_not (pt_val (pe_c C_law_is_place hr (by decide) rfl (pa_cons (pe_c C_law_caught hr (by decide) rfl (pa_cons (pv 1) (pa_cons (pv 2) (pa_cons (pv 3) (pa_cons (pv 6) (pa_cons pe_int pa_nil)))))) (pa_cons (pv 6) pa_nil)))))
        (pss_one (ps_ret pe_bl))
        pss_nil)
      (pss_cut (ps_if (pt_not (pt_val (pe_c C_law_is_place hr (by decide) rfl (pa_cons (pe_c C_law_caught hr (by decide) rfl (pa_cons (pv 1) (pa_cons (pv 2) (pa_cons (pv 5) (pa_cons (pv 6) (pa_cons pe_int pa_nil)))))) (pa_cons (pv 5) pa_nil)))))
        (pss_one (ps_ret pe_bl))
        pss_nil)
      (pss_cons (ps_set (i := 7) sc_law_refused_right.nd rfl (.inl rfl) (pe_c C_law_shared hr (by decide) rfl (pa_cons (pv 0) (pa_cons (pv 1) (pa_cons (pv 2) pa_nil)))))
      (pss_cut (ps_for PassesOwn.never rfl (pi_list (pe_lst (pa_cons (pv 3) (pa_cons (pv 5) pa_nil)))) (pg_name (i := 8) sc_law_refused_right.nd rfl (.inl rfl))
        (pss_one (ps_for PassesOwn.never rfl (pi_list (pe_lst (pa_cons (pv 4) (pa_cons (pv 6) pa_nil)))) (pg_name (i := 9) sc_law_refused_right.nd rfl (.inl rfl))
          (pss_one (ps_if (pt_not (pt_val (pe_c C_law_is_join hr (by decide) rfl (pa_cons (pe_c C_law_caught hr (by decide) rfl (pa_cons (pv 1) (pa_cons (pv 7) (pa_cons (pv 8) (pa_cons (pv 9) (pa_cons pe_int pa_nil)))))) pa_nil))))
            (pss_one (ps_ret pe_bl))
            pss_nil)))))
      (pss_one (ps_ret (pe_c C_law_is_join hr (by decide) rfl (pa_cons (pe_c C_law_caught hr (by decide) rfl (pa_cons (pv 1) (pa_cons (pv 1) (pa_cons (pv 3) (pa_cons (pv 3) (pa_cons pe_int pa_nil)))))) pa_nil))))))))))), ?_⟩
    refine ⟨_, rfl, _, rfl, t, _, 0, .ref a, rfl, rfl, SqT.of ht, atI_nat (j := 0) rfl, d, a, n, pl, rfl, hD, by omega, ha, ok, ne, l1, fun H1 y oky ny S1 D1 => ?_⟩
    refine ⟨_, rfl, _, rfl, t', _, 0, .ref a', rfl, rfl, SqT.of (S1 _ _ t'd ht'), atI_nat (j := 0) rfl, d, a', _, pl', rfl, D1, by omega, ha'.mv S1 a'd, ok', ne', l2, fun H2 z okz nz S2 D2 => ?_⟩
    have SM2 := S1.trans S2
    have hd2 := Dt.keep (hD.tk SM2) hd
    have hd2' := Dt.keep (hD.tk SM2) hd'
    -- a strange one
    refine ⟨fun σ' H' => σ' = [some (.ref d), some (.ref t), some (.ref t'), some (.str (S u)), some (.str (S x)), some (.str (S y)), some (.str (S z)), none, none, none] ∧ Same H2 H', ?_, fun σ' H3 hM => ?_⟩
    · refine ⟨_, rfl, _, rfl, _, rfl, _, rfl, .ref t, .ref t', pl, pl', ts, ts', y, x, 5, rfl, hd2, hd2', ok, oky, ok' x mx, ne, by omega, by omega, by omega, by omega, fun h => ny h.2.1, fun ⟨k, k1, k2⟩ => absurd k2 (dis k k1), fun _ l bad H' e dd S3 hC => ?_⟩
      have el : l = y := by
        rcases bad with ⟨_, e⟩ | ⟨e, _⟩
        · exact e
        · exact absurd e ny
      subst el
      exact ⟨_, rfl, e, dd, l, rfl, hC, fun H4 S4 => ⟨_, rfl, iteF ⟨rfl, S3.trans S4⟩⟩⟩
    obtain ⟨rfl, S3⟩ := hM
    refine ⟨fun σ' H' => σ' = [some (.ref d), some (.ref t), some (.ref t'), some (.str (S u)), some (.str (S x)), some (.str (S y)), some (.str (S z)), none, none, none] ∧ Same H3 H', ?_, fun σ' H4 hM => ?_⟩
    · refine ⟨_, rfl, _, rfl, _, rfl, _, rfl, .ref t, .ref t', pl, pl', ts, ts', u, z, 5, rfl, Dt.keep (TK.of S3) hd2, Dt.keep (TK.of S3) hd2', ok, ok u mu, okz, ne, by omega, by omega, by omega, by omega, fun h => nz h.2.2, fun ⟨k, k1, k2⟩ => absurd k2 (dis k k1), fun _ l bad H' e dd S4 hC => ?_⟩
      have el : l = z := by
        rcases bad with ⟨e, _⟩ | ⟨_, _, e⟩
        · exact absurd mu e
        · exact e
      subst el
      exact ⟨_, rfl, e, dd, l, rfl, hC, fun H5 S5 => ⟨_, rfl, iteF ⟨rfl, S4.trans S5⟩⟩⟩
    obtain ⟨rfl, S4⟩ := hM
    have S34 := S3.trans S4
    refine ⟨fun σ' H' => σ' = [some (.ref d), some (.ref t), some (.ref t'), some (.str (S u)), some (.str (S x)), some (.str (S y)), some (.str (S z)), none, none, none] ∧ Same H4 H', ?_, fun σ' H5 hM => ?_⟩
    · refine ⟨_, rfl, _, rfl, _, rfl, _, rfl, .ref t, .ref t', pl, pl', ts, ts', y, z, 5, rfl, Dt.keep (TK.of S34) hd2, Dt.keep (TK.of S34) hd2', ok, oky, okz, ne, by omega, by omega, by omega, by omega, fun h => nz h.2.2, fun ⟨k, k1, k2⟩ => absurd k2 (dis k k1), fun _ l bad H' e dd S5 hC => ?_⟩
      have el : l = y := by
        rcases bad with ⟨_, e⟩ | ⟨e, _⟩
        · exact e
        · exact absurd e ny
      subst el
      exact ⟨_, rfl, e, dd, l, rfl, hC, fun H6 S6 => ⟨_, rfl, iteF ⟨rfl, S5.trans S6⟩⟩⟩
    obtain ⟨rfl, S5⟩ := hM
    have S35 := S34.trans S5
    have D5 := D2.same S35
    -- shared
    refine ⟨_, rfl, _, rfl, _, rfl, d, .ref t, .ref t', _, pl, pl', ts, ts', rfl, D5, by omega, Dt.keep (TK.of S35) hd2, Dt.keep (TK.of S35) hd2', ne, ne', l1, l2, l4, dis, fun H6 w' ql us hw q1 u1 sh S6 D6 => ?_⟩
    have SM6 : SmX d H H6 := (SM2.trans (SmX.of S35)).trans S6
    have hd6 := Dt.keep (hD.tk SM6) hd
    have D6' : SeedAt H6 d (n + 40) := D6
    refine ⟨fun σ' H' => ∃ x8 x9, σ' = [some (.ref d), some (.ref t), some (.ref t'), some (.str (S u)), some (.str (S x)), some (.str (S y)), some (.str (S z)), some w', x8, x9] ∧ Same H6 H', ?_, fun σ' H7 hM => ?_⟩
    · refine ⟨_, rfl, _, rfl, (by show 2 ≤ sizeLine; decide), fun p np => ?_⟩
      have hp : (upd H6 p (.lst [.str (S u), .str (S y)])) p = some (.lst [.str (S u), .str (S y)]) := upd_same
      have S7 := same_new (o := .lst [.str (S u), .str (S y)]) (Same.refl H6) np
      generalize upd H6 p (.lst [.str (S u), .str (S y)]) = H7 at hp S7
      refine ⟨p, rfl, ⟨_, SqL.of hp⟩, for_list (K := K) (a := p) (xs := [V.str (S u), .str (S y)]) (fun i σ' H' => (∃ x8 x9, σ' = [some (.ref d), some (.ref t), some (.ref t'), some (.str (S u)), some (.str (S x)), some (.str (S y)), some (.str (S z)), some w', x8, x9]) ∧ Same H7 H') ⟨⟨_, _, rfl⟩, Same.refl _⟩ (fun i σ' H' _ hP => SqL.of (hP.2 _ _ hp)) (fun i v σ' H' hi hP => ?_) (fun σ' H' hP => ?_)⟩
      · obtain ⟨⟨x8, x9, rfl⟩, S8⟩ := hP
        have mv := List.mem_of_getElem? hi
        obtain ⟨here, rfl, okh⟩ : ∃ l : Nm, v = .str (S l) ∧ NameOk l := by
          simp only [List.mem_cons, List.not_mem_nil, or_false] at mv
          rcases mv with e | e
          · exact ⟨u, e, ok u mu⟩
          · exact ⟨y, e, oky⟩
        refine ⟨_, rfl, _, rfl, (by show 2 ≤ sizeLine; decide), fun p2 np2 => ?_⟩
        have hp2 : (upd H' p2 (.lst [.str (S x), .str (S z)])) p2 = some (.lst [.str (S x), .str (S z)]) := upd_same
        have S9 := same_new (o := .lst [.str (S x), .str (S z)]) (Same.refl H') np2
        generalize upd H' p2 (.lst [.str (S x), .str (S z)]) = H9 at hp2 S9
        refine ⟨p2, rfl, ⟨_, SqL.of hp2⟩, for_list (K := K) (a := p2) (xs := [V.str (S x), .str (S z)]) (fun i σ' H' => (∃ x9, σ' = [some (.ref d), some (.ref t), some (.ref t'), some (.str (S u)), some (.str (S x)), some (.str (S y)), some (.str (S z)), some w', some (.str (S here)), x9]) ∧ Same H9 H') ⟨⟨_, rfl⟩, Same.refl _⟩ (fun i σ' H' _ hP => SqL.of (hP.2 _ _ hp2)) (fun i v σ' H'' hi hP => ?_) (fun σ' H'' hP => ?_)⟩
        · obtain ⟨⟨x9, rfl⟩, S10⟩ := hP
          have mv := List.mem_of_getElem? hi
          obtain ⟨there, rfl, okt⟩ : ∃ l : Nm, v = .str (S l) ∧ NameOk l := by
            simp only [List.mem_cons, List.not_mem_nil, or_false] at mv
            rcases mv with e | e
            · exact ⟨x, e, ok' x mx⟩
            · exact ⟨z, e, okz⟩
          have S6x := ((S7.trans S8).trans S9).trans S10
          refine ⟨_, rfl, _, rfl, _, rfl, _, rfl, .ref t, w', pl, ql, ts, us, here, there, 5, rfl, Dt.keep (TK.of S6x) hd6, Dt.keep (TK.of S6x) hw, ok, okh, okt, ne, by omega, by omega, by omega, by omega, fun h => by obtain ⟨k, k1, k2⟩ := sh; exact h.1 k k1 k2, fun _ H11 e S11 he => ?_, fun h => by obtain ⟨k, k1, k2⟩ := sh; exact absurd k2 (h k k1)⟩
          exact ⟨e, rfl, he, fun H12 S12 => ⟨_, rfl, iteF ⟨⟨_, rfl⟩, (S10.trans S11).trans S12⟩⟩⟩
        · obtain ⟨⟨x9, rfl⟩, S10⟩ := hP
          exact ⟨⟨_, _, rfl⟩, (S8.trans S9).trans S10⟩
      · obtain ⟨⟨x8, x9, rfl⟩, S8⟩ := hP
        exact ⟨_, _, rfl, S7.trans S8⟩
    obtain ⟨x8, x9, rfl, S7⟩ := hM
    refine ⟨_, rfl, _, rfl, _, rfl, _, rfl, .ref t, .ref t, pl, pl, ts, ts, u, u, 1, rfl, Dt.keep (TK.of S7) hd6, Dt.keep (TK.of S7) hd6, ok, ok u mu, ok u mu, ne, by omega, by omega, by omega, by omega, fun h => h.1 u mu mu, fun _ H11 e S11 he => ?_, fun h => absurd mu (h u mu)⟩
    exact ⟨e, rfl, he, fun H12 S12 => q _ (SM6.trans (SmX.of ((S7.trans S11).trans S12))) (D6'.same ((S7.trans S11).trans S12))⟩
end
end Far

namespace Far
open PySem PySem.Spec PyProof.Rows L2
open C8 (pss_cut tCut)
open SX (S)
abbrev s_law : Stmt := topS 22
abbrev N_law : List Str := ["script", "deck", "turn", "one", "other", "first", "second", "length", "due"]
theorem sc_law : FnScope N_law ["script"] (defScope s_law) := ⟨rfl, rfl, rfl, by decide +kernel, rfl, by decide +kernel, by decide +kernel⟩
section
variable {P : Program} {w : World} {K : PySem.W.Frag} {mg : Str → Option Value} {base : Heap} {J C : Addr}
def spLaw (K : PySem.W.Frag) : Sp := fun vs H Q _ => ∃ (a : Addr) (ns : List Int), vs = [.ref a] ∧ SqL K H a (ns.map V.int) ∧ ns.length ≤ 63 ∧ (∀ z ∈ ns, Builtin.Int.intBits z ≤ 1048576) ∧ ∀ H', Q (.bl true) H'
theorem ok_law {f : Addr} {fd : FuncData} (F : Fun K "law" "law" s_law f fd) (T : TxtG mg) (C_law_deck : Cal P w K mg base 1 "_law_deck" (spDeck K)) (C_law_draw : Cal P w K mg base 1 "_law_draw" spDraw) (C_law_tree : Cal P w K mg base 3 "_law_tree" spTree) (C_law_same : Cal P w K mg base 5 "_law_same" (spSame 4)) (Cjoined : CalX P w K mg base 3 "joined" (spJoinX J C)) (C_law_refused_right : Cal P w K mg base 5 "_law_refused_right" spRR) : FnOk P w K mg base CX0 6 f fd ["script"] (spLaw K) := by
  refine F.ok sc_law (fun vs H Q E h => ?_) (fun cdv A outer s H vs Q E hr h => ?_)
  · obtain ⟨a, ns, rfl, _⟩ := h
    rfl
  · obtain ⟨a0, ns, rfl, hS, hl, hb, q⟩ := h
    have e6 : (10 : Int) ^ (6 : Int).toNat = 1000000 := by decide
    refine ⟨_, (pss_cons (ps_set (i := 1) sc_law.nd rfl (.inl rfl) (pe_c C_law_deck hr (by decide) rfl (pa_cons (pv 0) pa_nil)))
      (pss_cut (ps_for PassesOwn.never rfl (pi_range1 (by rfl) T.range (pa_cons pe_int pa_nil)) (pg_name (i := 2) sc_law.nd rfl (.inl rfl))
        (pss_cons (ps_set (i := 3) sc_law.nd rfl (.inl rfl) (pe_c C_law_tree hr (by decide) rfl (pa_cons (pv 1) (pa_cons pe_int (pa_cons (pe_lst pa_nil) pa_nil)))))
        (pss_cons (ps_set (i := 4) sc_law.nd rfl (.inl rfl) (pe_c C_law_tree hr (by decide) rfl (pa_cons (pv 1) (pa_cons pe_int (pa_cons (pe_ix ix_tup (pv 3) pe_int (fun _ _ => rfl)) pa_nil)))))
        (pss_cons (ps_set (i := 5) sc_law.nd rfl (.inl rfl) (pe_ix ix_tup (pe_ix ix_tup (pv 3) pe_int (fun _ _ => rfl)) (pe_c C_law_draw hr (by decide) rfl (pa_cons (pv 1) (pa_cons (pe_callB call_len_seq (by rfl) T.len bt_len (pa_cons (pe_ix ix_tup (pv 3) pe_int (fun _ _ => rfl)) pa_nil)) pa_nil))) (fun _ _ => rfl)))
        (pss_cons (ps_set (i := 6) sc_law.nd rfl (.inl rfl) (pe_ix ix_tup (pe_ix ix_tup (pv 4) pe_int (fun _ _ => rfl)) (pe_c C_law_draw hr (by decide) rfl (pa_cons (pv 1) (pa_cons (pe_callB call_len_seq (by rfl) T.len bt_len (pa_cons (pe_ix ix_tup (pv 4) pe_int (fun _ _ => rfl)) pa_nil)) pa_nil))) (fun _ _ => rfl)))
        (pss_cons (ps_set (i := 7) sc_law.nd rfl (.inl rfl) (pe_ix ix_list (pe_lst (pa_cons pe_int (pa_cons (pe_op op_add pe_int (pe_c C_law_draw hr (by decide) rfl (pa_cons (pv 1) (pa_cons pe_int pa_nil)))) (pa_cons (pe_op op_add pe_int (pe_c C_law_draw hr (by decide) rfl (pa_cons (pv 1) (pa_cons (pe_op op_pow pe_int pe_int) pa_nil)))) pa_nil)))) (pe_c C_law_draw hr (by decide) rfl (pa_cons (pv 1) (pa_cons pe_int pa_nil))) (fun _ _ => rfl)))
        (pss_cons (ps_set (i := 8) sc_law.nd rfl (.inl rfl) (pe_tup (pa_cons (pe_op op_catA (pe_ix ix_tup (pv 3) pe_int (fun _ _ => rfl)) (pe_ix ix_tup (pv 4) pe_int (fun _ _ => rfl))) (pa_cons (pe_op op_catA (pe_op op_catA (pe_ix ix_tup (pv 3) pe_int (fun _ _ => rfl)) (pe_ix ix_tup (pv 4) pe_int (fun _ _ => rfl))) (pe_tup (pa_cons (pe_tup (pa_cons (pv 5) (pa_cons (pv 6) (pa_cons (pv 7) pa_nil)))) pa_nil))) pa_nil))))
        (pss_cut (ps_if (pt_not (pt_val (pe_c C_law_same hr (by decide) rfl (pa_cons (pe_cX takes0 Cjoined hr (by decide) rfl (pa_cons (pv 3) (pa_cons (pv 4) (pa_cons (pv 5) (pa_cons (pv 6) (pa_cons (pv 7) pa_nil)))))) (pa_cons (pv 8) pa_nil)))))
          (pss_one (ps_ret pe_bl))
          pss_nil)
        (pss_one (ps_if (PW.pt (pw_or (pt_cmpR (op_neD (hd_of hr (by decide))) (pe_cX takes0 Cjoined hr (by decide) rfl (pa_cons (pv 3) (pa_cons (pv 4) (pa_cons (pv 5) (pa_cons (pv 6) (pa_cons (pv 7) pa_nil)))))) (pv 8) (nomark _)) (pw_or1 (pt_not (pt_val (pe_c C_law_refused_right hr (by decide) rfl (pa_cons (pv 1) (pa_cons (pv 3) (pa_cons (pv 4) (pa_cons (pv 5) (pa_cons (pv 6) pa_nil)))))))))))
          (pss_one (ps_ret pe_bl))
          pss_nil))))))))))
      (pss_one (ps_ret (pe_cmpR (op_eqD (hd_of hr (by decide))) (pe_cX takes0 Cjoined hr (by decide) rfl (pa_cons (pe_tup (pa_cons (pe_tup (pa_cons pe_str pa_nil)) (pa_cons (pe_tup pa_nil) pa_nil))) (pa_cons (pe_tup (pa_cons (pe_tup (pa_cons pe_str pa_nil)) (pa_cons (pe_tup pa_nil) pa_nil))) (pa_cons pe_str (pa_cons pe_str (pa_cons pe_int pa_nil)))))) (pe_tup (pa_cons (pe_tup (pa_cons pe_str (pa_cons pe_str pa_nil))) (pa_cons (pe_tup (pa_cons (pe_tup (pa_cons pe_str (pa_cons pe_str (pa_cons pe_int pa_nil)))) pa_nil)) pa_nil))) (nomark _)))))), ?_⟩
    refine ⟨_, rfl, a0, ns, rfl, hS, hl, hb, fun H0 d S0 d0 D0 => ?_⟩
    refine ⟨fun σ' H' => True, ?_, fun σ' H' _ => ?_⟩
    · refine ⟨6, rfl, by decide, by decide, for_range (lo := 0) (n := (6 : Int).toNat) (fun i σ' H' => (∃ x2 x3 x4 x5 x6 x7 x8, σ' = [some (.ref a0), some (.ref d), x2, x3, x4, x5, x6, x7, x8]) ∧ SeedAt H' d (4000 * i)) ⟨⟨_, _, _, _, _, _, _, rfl⟩, D0⟩ (fun i σ' H' hi hP => ?_) (fun σ' H' hP => trivial)⟩
      obtain ⟨⟨x2, x3, x4, x5, x6, x7, x8, rfl⟩, D1⟩ := hP
      have hi : i < 6 := hi
      -- one, other
      refine ⟨_, rfl, Nat.zero_le _, fun p np => ?_⟩
      refine ⟨d, p, _, 30, [], rfl, D1.new np, by omega, by decide, by decide, D1.nd np, .inl upd_same, by decide, fun H2 t pl ts it ok un pll hd S2 D2 => ?_⟩
      obtain ⟨t, a, b, vs, et, ht, ha, hb', hA⟩ := dt_tree hd
      cases et
      have td : t ≠ d := TupAt.nd (.inl ht) D2
      have ad : a ≠ d := ha.nd D2
      have bd : b ≠ d := TupAt.nd (.inl hb') D2
      refine ⟨_, rfl, _, rfl, t, _, 0, .ref a, rfl, rfl, SqT.of ht, atI_nat (j := 0) rfl, d, a, _, 30, pl, rfl, D2, by omega, by decide, by decide, ad, .inr ha, by omega, fun H3 t' pl' ts' it' ok' un' pll' hd' S3 D3 => ?_⟩
      obtain ⟨t', a', b', vs', et, ht', ha', hb'', hA'⟩ := dt_tree hd'
      cases et
      have t'd : t' ≠ d := TupAt.nd (.inl ht') D3
      have a'd : a' ≠ d := ha'.nd D3
      have b'd : b' ≠ d := TupAt.nd (.inl hb'') D3
      have ne : pl ≠ [] := fun z => by have := it.len; rw [z] at this; simp at this
      have ne' : pl' ≠ [] := fun z => by have := it'.len; rw [z] at this; simp at this
      have pl0 : 0 < pl.length := List.length_pos_iff.mpr ne
      have pl0' : 0 < pl'.length := List.length_pos_iff.mpr ne'
      have tl := it.len
      have tl' := it'.len
      have dis : ∀ y ∈ pl, y ∉ pl' := fun y h1 h2 => un' y h2 h1
      -- first
      have ht3 := S3 t _ td ht
      have ha3 := ha.mv S3 ad
      refine ⟨_, rfl, t, _, 0, .ref a, rfl, rfl, SqT.of ht3, atI_nat (j := 0) rfl, _, rfl, _, rfl, t, _, 0, .ref a, rfl, rfl, SqT.of ht3, atI_nat (j := 0) rfl, a, _, rfl, .inr ha3.sq, d, _, _, rfl, D3, by omega, by rw [List.length_map, List.length_map]; omega, by rw [List.length_map, List.length_map]; omega, fun H4 r4 r40 r41 S4 D4 => ?_⟩
      obtain ⟨v, hv, mv⟩ := atI_in r40 r41
      obtain ⟨u, mu, rfl⟩ := strs_at mv
      refine ⟨a, _, r4, _, rfl, rfl, (ha3.mv S4 ad).sq, hv, ?_⟩
      -- second
      have ht4 := S4 t' _ t'd ht'
      have ha4 := ha'.mv S4 a'd
      refine ⟨_, rfl, t', _, 0, .ref a', rfl, rfl, SqT.of ht4, atI_nat (j := 0) rfl, _, rfl, _, rfl, t', _, 0, .ref a', rfl, rfl, SqT.of ht4, atI_nat (j := 0) rfl, a', _, rfl, .inr ha4.sq, d, _, _, rfl, D4, by omega, by rw [List.length_map, List.length_map]; omega, by rw [List.length_map, List.length_map]; omega, fun H5 r5 r50 r51 S5 D5 => ?_⟩
      obtain ⟨v, hv, mv⟩ := atI_in r50 r51
      obtain ⟨x, mx, rfl⟩ := strs_at mv
      refine ⟨a', _, r5, _, rfl, rfl, (ha4.mv S5 a'd).sq, hv, ?_⟩
      -- length
      refine ⟨_, rfl, d, _, 9, rfl, D5, by omega, by decide, by decide, fun H6 r6 r60 r61 S6 D6 => ⟨_, _, rfl, rfl, ?_⟩⟩
      refine ⟨_, rfl, _, _, rfl, rfl, ⟨by decide, by decide, by decide⟩, d, _, _, rfl, D6, by omega, by decide, by decide, fun H7 r7 r70 r71 S7 D7 => ⟨_, _, rfl, rfl, ?_⟩⟩
      refine ⟨(by show 3 ≤ sizeLine; decide), fun p7 np7 => ?_⟩
      refine ⟨_, rfl, d, _, 3, rfl, D7.new np7, by omega, by decide, by decide, fun H8 r8 r80 r81 S8 D8 => ?_⟩
      have hp8 := S8 p7 _ (D7.nd np7) upd_same
      obtain ⟨v, hv, mv⟩ := atI_in (xs := [V.int 1, .int (1 + r6), .int (1 + r7)]) r80 (by simpa using r81)
      obtain ⟨k, rfl⟩ : ∃ k : Int, v = .int k := by
        simp only [List.mem_cons, List.not_mem_nil, or_false] at mv
        rcases mv with e | e | e <;> exact ⟨_, e⟩
      refine ⟨p7, _, r8, _, rfl, rfl, SqL.of hp8, hv, ?_⟩
      have SX8 : SmX d H3 H8 := ((((S4.trans S5).trans S6).trans S7).new np7).trans S8
      have SY8 : SmX d H2 H8 := S3.trans SX8
      have hd8 := Dt.keep (D2.tk SY8) hd
      have hd8' := Dt.keep (D3.tk SX8) hd'
      have ht8 := SY8 t _ td ht
      have ht8' := SX8 t' _ t'd ht'
      have ha8 := ha.mv SY8 ad
      have ha8' := ha'.mv SX8 a'd
      have hb8 := SY8 b _ bd hb'
      have hb8' := SX8 b' _ b'd hb''
      have hA8 := DtAll.keep (D2.tk SY8) hA
      have hA8' := DtAll.keep (D3.tk SX8) hA'
      have vl : vs.length = ts.length := by
        have := DtAll.len hA
        rwa [List.length_map] at this
      have vl' : vs'.length = ts'.length := by
        have := DtAll.len hA'
        rwa [List.length_map] at this
      -- due
      refine ⟨_, rfl, t, _, 0, .ref a, rfl, rfl, SqT.of ht8, atI_nat (j := 0) rfl, _, rfl, t', _, 0, .ref a', rfl, rfl, SqT.of ht8', atI_nat (j := 0) rfl, ?_⟩
      refine cat_any ha8 ha8' (by rw [List.length_map, List.length_map, List.length_map, List.length_map]; exact sz_le (by omega)) fun p1 H9 S9 hp1 => ?_
      refine ⟨_, rfl, t, _, 1, .ref b, rfl, rfl, SqT.of (S9 _ _ ht8), atI_nat (j := 1) rfl, _, rfl, t', _, 1, .ref b', rfl, rfl, SqT.of (S9 _ _ ht8'), atI_nat (j := 1) rfl, ?_⟩
      refine cat_any0 (S9 _ _ hb8) (S9 _ _ hb8') (by exact sz_le (by omega)) fun p2 H10 S10 hp2 => ?_
      refine ⟨_, rfl, _, rfl, _, rfl, (by show 3 ≤ sizeLine; decide), fun p3 n3 => ⟨(by show 1 ≤ sizeLine; decide), fun p4 n4 => ?_⟩⟩
      have S11 := same_new (o := .tup [.ref p3]) (same_new (o := .tup [.str (S u), .str (S x), .int k]) (Same.refl H10) n3) n4
      have hp3 : (upd (upd H10 p3 (.tup [.str (S u), .str (S x), .int k])) p4 (.tup [.ref p3])) p3 = some (.tup [.str (S u), .str (S x), .int k]) := by
        rw [upd_ne (ne_of_none upd_same n4)]
        exact upd_same
      refine cat_any0 (S11 _ _ hp2) upd_same (by rw [List.length_append]; exact sz_le (by simp; omega)) fun p5 H12 S12 hp5 => ?_
      refine ⟨(by show 2 ≤ sizeLine; decide), fun r nr => ?_⟩
      have S13 := (S10.trans S11).trans S12
      have tkr : TK H12 (upd H12 r (.tup [.ref p1, .ref p5])) := TK.new nr
      have S9x : Same H8 (upd H12 r (.tup [.ref p1, .ref p5])) := same_new (S9.trans S13) nr
      have all5 : DtAll (upd H12 r (.tup [.ref p1, .ref p5])) (vs ++ vs' ++ [.ref p3]) ((ts ++ ts' ++ [(u, x, k)]).map tieD) := by
        rw [List.map_append, List.map_append]
        refine DtAll.app (DtAll.app (DtAll.keep (TK.of S9x) hA8) (DtAll.keep (TK.of S9x) hA8')) (.cons (.tup (tkr.tup _ _ (S12 _ _ hp3)) (.cons (.str _) (.cons (.str _) (.cons (.int _) .nil)))) .nil)
      have nm : TupAt (upd H12 r (.tup [.ref p1, .ref p5])) p1 (((pl ++ pl').map S).map V.str) := by
        rw [List.map_append, List.map_append]
        exact (hp1.same S13).upd nr
      have due : Dt (upd H12 r (.tup [.ref p1, .ref p5])) (.ref r) (treeD (pl ++ pl') (ts ++ ts' ++ [(u, x, k)])) :=
        .tup upd_same (.cons (names_dt nm (by simp [ne])) (.cons (.tup (tkr.tup _ _ hp5) all5) .nil))
      generalize upd H12 r (.tup [.ref p1, .ref p5]) = H13 at S9x due
      have D13 := D8.same S9x
      have pt : Plain 4 (treeD (pl ++ pl') (ts ++ ts' ++ [(u, x, k)])) := plain_tree (by rw [List.length_append]; omega) (by simp; omega)
      have sh : SeqAt.shaped (treeD (pl ++ pl') (ts ++ ts' ++ [(u, x, k)])) = true := by
        refine shaped_tree (fun l hl => ?_) (fun e he => ?_)
        · rcases List.mem_append.mp hl with z | z
          · exact ok l z
          · exact ok' l z
        · rcases List.mem_append.mp he with z | z
          · rcases List.mem_append.mp z with z | z
            · have := it.ties e z
              exact ⟨ok _ this.1, ok _ this.2.1⟩
            · have := it'.ties e z
              exact ⟨ok' _ this.1, ok' _ this.2.1⟩
          · rw [List.mem_singleton.mp z]
            exact ⟨ok u mu, ok' x mx⟩
      have noj : ¬ ∃ y ∈ pl, y ∈ pl' := fun ⟨y, h1, h2⟩ => dis y h1 h2
      have nop : ∀ l, ¬ ((u ∉ pl ∧ l = u) ∨ (u ∈ pl ∧ x ∉ pl' ∧ l = x)) := fun l h => by
        rcases h with ⟨h, _⟩ | ⟨_, h, _⟩
        · exact h mu
        · exact h mx
      refine ⟨fun σ' H' => σ' = [some (.ref a0), some (.ref d), some (.int (0 + (i : Int))), some (.ref t), some (.ref t'), some (.str (S u)), some (.str (S x)), some (.int k), some (.ref r)] ∧ Same H13 H', ?_, fun σ' H14 hM => ?_⟩
      · refine ⟨_, rfl, _, rfl, _, rfl, _, rfl, _, rfl, .ref t, .ref t', pl, pl', ts, ts', u, x, k, rfl, Dt.keep (TK.of S9x) hd8, Dt.keep (TK.of S9x) hd8', ok, ok u mu, ok' x mx, ne, by omega, by omega, by omega, by omega, fun _ _ _ H14 r2 S14 hr2 => ?_, fun h => absurd h noj, fun _ l h => absurd h (nop l)⟩
        exact ⟨_, rfl, .ref r2, .ref r, _, rfl, hr2, Dt.keep (TK.of S14) due, pt, fun H15 S15 => ⟨_, rfl, iteF ⟨rfl, S14.trans S15⟩⟩⟩
      obtain ⟨rfl, S14⟩ := hM
      refine ⟨_, rfl, _, rfl, _, rfl, _, rfl, _, rfl, .ref t, .ref t', pl, pl', ts, ts', u, x, k, rfl, Dt.keep (TK.of (S9x.trans S14)) hd8, Dt.keep (TK.of (S9x.trans S14)) hd8', ok, ok u mu, ok' x mx, ne, by omega, by omega, by omega, by omega, fun _ _ _ H15 r2 S15 hr2 => ?_, fun h => absurd h noj, fun _ l h => absurd h (nop l)⟩
      refine ⟨_, rfl, _, _, Dt.dp hr2, Dt.dp (Dt.keep (TK.of (S14.trans S15)) due), sh, sh, ?_⟩
      rw [eqv_same sh]
      refine ⟨_, rfl, iteF ?_⟩
      have S15x := (S9x.trans S14).trans S15
      refine ⟨_, rfl, _, rfl, _, rfl, _, rfl, _, rfl, d, .ref t, .ref t', _, pl, pl', ts, ts', u, x, rfl, D8.same S15x, by omega, Dt.keep (TK.of S15x) hd8, Dt.keep (TK.of S15x) hd8', ok, ok', mu, mx, pll, pll', by omega, by omega, dis, fun H16 S16 D16 => ⟨_, rfl, iteF ⟨⟨_, _, _, _, _, _, _, rfl⟩, D16.mono (by omega)⟩⟩⟩
    · -- the end
      refine ⟨(by show 1 ≤ sizeLine; decide), fun p1 np1 => ⟨Nat.zero_le _, fun p2 np2 => ⟨(by show 2 ≤ sizeLine; decide), fun p3 np3 => ?_⟩⟩⟩
      have h3 : Dt (upd (upd (upd H' p1 (.tup [.str (Str.ofString "a")])) p2 (.tup [])) p3 (.tup [.ref p1, .ref p2])) (.ref p3) (treeD [[97]] []) := .tup upd_same (.cons (.tup (((TK.new np2).trans (TK.new np3)).tup _ _ upd_same) (.cons (.str _) .nil)) (.cons (.tup ((TK.new np3).tup _ _ upd_same) .nil) .nil))
      generalize upd (upd (upd H' p1 (.tup [.str (Str.ofString "a")])) p2 (.tup [])) p3 (.tup [.ref p1, .ref p2]) = H3 at h3
      refine ⟨(by show 1 ≤ sizeLine; decide), fun p4 np4 => ⟨Nat.zero_le _, fun p5 np5 => ⟨(by show 2 ≤ sizeLine; decide), fun p6 np6 => ?_⟩⟩⟩
      have h6 : Dt (upd (upd (upd H3 p4 (.tup [.str (Str.ofString "b")])) p5 (.tup [])) p6 (.tup [.ref p4, .ref p5])) (.ref p6) (treeD [[98]] []) := .tup upd_same (.cons (.tup (((TK.new np5).trans (TK.new np6)).tup _ _ upd_same) (.cons (.str _) .nil)) (.cons (.tup ((TK.new np6).tup _ _ upd_same) .nil) .nil))
      have h36 := Dt.keep (((TK.new np4).trans (TK.new np5)).trans (TK.new (o := .tup [.ref p4, .ref p5]) np6)) h3
      generalize upd (upd (upd H3 p4 (.tup [.str (Str.ofString "b")])) p5 (.tup [])) p6 (.tup [.ref p4, .ref p5]) = H6 at h6 h36
      have oka : NameOk [97] := ⟨by decide, by decide, by decide⟩
      have okb : NameOk [98] := ⟨by decide, by decide, by decide⟩
      refine ⟨.ref p3, .ref p6, [[97]], [[98]], [], [], [97], [98], 7, rfl, h36, h6, (fun y hy => by rw [List.mem_singleton.mp hy]; exact oka), oka, okb, by decide, by decide, by decide, by decide, by decide, fun _ _ _ H7 r S7 hr7 => ?_, fun ⟨y, h1, h2⟩ => by rw [List.mem_singleton.mp h1] at h2; exact absurd h2 (by decide), fun _ l h => by rcases h with ⟨h, _⟩ | ⟨_, h, _⟩ <;> exact absurd h (by decide)⟩
      refine ⟨(by show 2 ≤ sizeLine; decide), fun q1 nq1 => ⟨(by show 3 ≤ sizeLine; decide), fun q2 nq2 => ⟨(by show 1 ≤ sizeLine; decide), fun q3 nq3 => ⟨(by show 2 ≤ sizeLine; decide), fun q4 nq4 => ?_⟩⟩⟩⟩
      have t3 := TK.new (o := .tup [.ref q1, .ref q3]) nq4
      have t2 := (TK.new (o := .tup [.ref q2]) nq3).trans t3
      have t1 := (TK.new (o := .tup [.str (Str.ofString "a"), .str (Str.ofString "b"), .int 7]) nq2).trans t2
      have t0 := (TK.new (o := .tup [.str (Str.ofString "a"), .str (Str.ofString "b")]) nq1).trans t1
      refine ⟨_, treeD [[97], [98]] [([97], [98], 7)], Dt.dp (Dt.keep t0 hr7), Dt.dp (.tup upd_same (.cons (.tup (t1.tup _ _ upd_same) (.cons (.str _) (.cons (.str _) .nil))) (.cons (.tup (t3.tup _ _ upd_same) (.cons (.tup (t2.tup _ _ upd_same) (.cons (.str _) (.cons (.str _) (.cons (.int _) .nil)))) .nil)) .nil))), by decide +kernel, by decide +kernel, ?_⟩
      rw [show (treeD ([[97]] ++ [[98]]) ([] ++ [] ++ [([97], [98], 7)])).eqv (treeD [[97], [98]] [([97], [98], 7)]) = true by decide +kernel]
      exact q _
end
end Far

namespace Far
open PySem PySem.Spec PyProof.Rows L2
theorem same_none {P : Program} {w : World} {K : PySem.W.Frag} {mg : Str → Option Value} {base : Heap} {f : Addr} {fd : FuncData} : FnOk P w K mg base CX0 1 f fd ["found", "due"] (spSame 0) :=
  ⟨fun vs H Q E h => by obtain ⟨u, v, d, rfl, _⟩ := h; rfl, fun A outer s H args us vs Q E hr e b v h => by obtain ⟨_, _, _, _, _, _, hp, _⟩ := h; cases hp⟩
theorem kit_own {K : PySem.W.Frag} {t : Value} {C : Addr} {b : Bool} {cd : ClassData} (ne : (t == Value.ref C) = false) (h1 : PySem.W.clsIn K C = some cd) (h2 : PySem.W.typeIn K (.ref C) = some (.type "type")) (h3 : PySem.W.subIn K t (.ref C) = some b) : PySem.W.kitOne K t (.ref C) = some b := by
  unfold PySem.W.kitOne PySem.W.kitCls
  rw [if_neg (by rw [ne]; decide)]
  show (if ((PySem.W.clsIn K C).isSome && PySem.W.typeIn K (.ref C) == some (.type "type")) = true then PySem.W.subIn K t (.ref C) else none) = some b
  rw [if_pos (by rw [h1, h2]; rfl)]
  exact h3
theorem kit_ve {K : PySem.W.Frag} {a : Addr} (h : PySem.W.subIn K (.ref a) (.type "ValueError") = some true) : PySem.W.kitOne K (.ref a) (.type "ValueError") = some true := by
  unfold PySem.W.kitOne PySem.W.kitCls
  rw [if_neg (by show ¬ (Value.ref a == Value.type "ValueError") = true; intro z; cases (eq_of_beq z))]
  show (if PySem.W.kitMeta "ValueError" = true then PySem.W.subIn K (.ref a) (.type "ValueError") else none) = some true
  rw [if_pos (by decide +kernel)]
  exact h
theorem exm_own {K : PySem.W.Frag} {t : Value} {C : Addr} {b : Bool} {cd : ClassData} (h0 : PySem.W.subIn K (.ref C) (.type "BaseException") = some true) (h1 : PySem.W.clsIn K C = some cd) (h2 : PySem.W.typeIn K (.ref C) = some (.type "type")) (h3 : PySem.W.subIn K t (.ref C) = some b) : PySem.W.exmOne K t (.ref C) = some b := by
  unfold PySem.W.exmOne PySem.W.kitCls
  rw [if_pos (by rw [h0]; rfl)]
  show (if ((PySem.W.clsIn K C).isSome && PySem.W.typeIn K (.ref C) == some (.type "type")) = true then PySem.W.subIn K t (.ref C) else none) = some b
  rw [if_pos (by rw [h1, h2]; rfl)]
  exact h3
theorem all_mk {l : PySem.W.OpenLaw} {w : World} {K : PySem.W.Frag} {h : Heap} {mg : Str → Option Value} {fa f1 f2 f3 f4 f5 f6 f7 f8 f9 f10 f11 f12 f13 f14 : Addr} (X : K.In h) (G : h.Ns mainGlobals mg) (hfa : mg "law" = some (.ref fa))
    {od1 od2 od3 od4 od5 od6 od7 od8 od9 od10 od11 od12 od13 od14 an1 an2 an3 an4 an5 an6 an7 an8 an9 an10 an11 an12 an13 an14 : Option Addr} {sl1 sl2 sl3 sl4 sl5 sl6 sl7 sl8 sl9 sl10 sl11 sl12 sl13 sl14 : Array (Option Value)} {oc1 oc2 oc3 oc4 oc5 oc6 oc7 oc8 oc9 oc10 oc11 oc12 oc13 oc14 kV1 kV2 kV3 kV4 kV5 kV6 kV7 kV8 kV9 kV10 kV11 kV12 kV13 kV14 dc1 dc2 dc3 dc4 dc5 dc6 dc7 dc8 dc9 dc10 dc11 dc12 dc13 dc14 pm1 pm2 pm3 pm4 pm5 pm6 pm7 pm8 pm9 pm10 pm11 pm12 pm13 pm14 cd1 cd2 cd3 cd4 cd5 cd6 cd7 cd8 cd9 cd10 cd11 cd12 cd13 cd14 ct1 ct2 ct3 ct4 ct5 ct6 ct7 ct8 ct9 ct10 ct11 ct12 ct13 ct14 : Value}
    {aN aA aJ aT aF : Addr} {clN clA clJ clT clF : ClassData} {fNI NN : Addr} {nmN qN : Str} {bsN bmN subN : List Value} {snN : List Str} {abN : Bool} {colN : Option Bool} {ddN odNI anNI : Option Addr} {jN0 jN1 jN2 jN3 jN5 : Option Value} {ocNI kVNI dcNI pmNI cdNI ctNI : Value} {slNI : Array (Option Value)}
    (a1 : PySem.W.nsIn K mainGlobals "_law_deck" = some (some (.ref f1))) (l1 : K.lookup f1 = some ⟨oc1, od1, .func (PySem.W.fnOf "_law_deck" "_law_deck" (defArgs s_law_deck) (defBody s_law_deck) (defScope s_law_deck) .none kV1 dc1 pm1 an1 cd1 ct1), sl1⟩) (c1 : PySem.W.codeIn K cd1 "_law_deck" = true) (k1 : PySem.W.keepIn K (.ref f1) = true)
    (a2 : PySem.W.nsIn K mainGlobals "_law_draw" = some (some (.ref f2))) (l2 : K.lookup f2 = some ⟨oc2, od2, .func (PySem.W.fnOf "_law_draw" "_law_draw" (defArgs s_law_draw) (defBody s_law_draw) (defScope s_law_draw) .none kV2 dc2 pm2 an2 cd2 ct2), sl2⟩) (c2 : PySem.W.codeIn K cd2 "_law_draw" = true) (k2 : PySem.W.keepIn K (.ref f2) = true)
    (a3 : PySem.W.nsIn K mainGlobals "_law_same" = some (some (.ref f3))) (l3 : K.lookup f3 = some ⟨oc3, od3, .func (PySem.W.fnOf "_law_same" "_law_same" (defArgs s_law_same) (defBody s_law_same) (defScope s_law_same) .none kV3 dc3 pm3 an3 cd3 ct3), sl3⟩) (c3 : PySem.W.codeIn K cd3 "_law_same" = true) (k3 : PySem.W.keepIn K (.ref f3) = true)
    (a4 : PySem.W.nsIn K mainGlobals "_law_names" = some (some (.ref f4))) (l4 : K.lookup f4 = some ⟨oc4, od4, .func (PySem.W.fnOf "_law_names" "_law_names" (defArgs s_law_names) (defBody s_law_names) (defScope s_law_names) .none kV4 dc4 pm4 an4 cd4 ct4), sl4⟩) (c4 : PySem.W.codeIn K cd4 "_law_names" = true) (k4 : PySem.W.keepIn K (.ref f4) = true)
    (a5 : PySem.W.nsIn K mainGlobals "_law_tree" = some (some (.ref f5))) (l5 : K.lookup f5 = some ⟨oc5, od5, .func (PySem.W.fnOf "_law_tree" "_law_tree" (defArgs s_law_tree) (defBody s_law_tree) (defScope s_law_tree) .none kV5 dc5 pm5 an5 cd5 ct5), sl5⟩) (c5 : PySem.W.codeIn K cd5 "_law_tree" = true) (k5 : PySem.W.keepIn K (.ref f5) = true)
    (a6 : PySem.W.nsIn K mainGlobals "_law_strange" = some (some (.ref f6))) (l6 : K.lookup f6 = some ⟨oc6, od6, .func (PySem.W.fnOf "_law_strange" "_law_strange" (defArgs s_law_strange) (defBody s_law_strange) (defScope s_law_strange) .none kV6 dc6 pm6 an6 cd6 ct6), sl6⟩) (c6 : PySem.W.codeIn K cd6 "_law_strange" = true) (k6 : PySem.W.keepIn K (.ref f6) = true)
    (a7 : PySem.W.nsIn K mainGlobals "_check_unlike" = some (some (.ref f7))) (l7 : K.lookup f7 = some ⟨oc7, od7, .func (PySem.W.fnOf "_check_unlike" "_check_unlike" (defArgs s_check_unlike) (defBody s_check_unlike) (defScope s_check_unlike) .none kV7 dc7 pm7 an7 cd7 ct7), sl7⟩) (c7 : PySem.W.codeIn K cd7 "_check_unlike" = true) (k7 : PySem.W.keepIn K (.ref f7) = true)
    (a8 : PySem.W.nsIn K mainGlobals "joined" = some (some (.ref f8))) (l8 : K.lookup f8 = some ⟨oc8, od8, .func (PySem.W.fnOf "joined" "joined" (defArgs s_joined) (defBody s_joined) (defScope s_joined) .none kV8 dc8 pm8 an8 cd8 ct8), sl8⟩) (c8 : PySem.W.codeIn K cd8 "joined" = true) (k8 : PySem.W.keepIn K (.ref f8) = true)
    (a9 : PySem.W.nsIn K mainGlobals "_law_caught" = some (some (.ref f9))) (l9 : K.lookup f9 = some ⟨oc9, od9, .func (PySem.W.fnOf "_law_caught" "_law_caught" (defArgs s_law_caught) (defBody s_law_caught) (defScope s_law_caught) .none kV9 dc9 pm9 an9 cd9 ct9), sl9⟩) (c9 : PySem.W.codeIn K cd9 "_law_caught" = true) (k9 : PySem.W.keepIn K (.ref f9) = true)
    (a10 : PySem.W.nsIn K mainGlobals "_law_is_join" = some (some (.ref f10))) (l10 : K.lookup f10 = some ⟨oc10, od10, .func (PySem.W.fnOf "_law_is_join" "_law_is_join" (defArgs s_law_is_join) (defBody s_law_is_join) (defScope s_law_is_join) .none kV10 dc10 pm10 an10 cd10 ct10), sl10⟩) (c10 : PySem.W.codeIn K cd10 "_law_is_join" = true) (k10 : PySem.W.keepIn K (.ref f10) = true)
    (a11 : PySem.W.nsIn K mainGlobals "_law_is_place" = some (some (.ref f11))) (l11 : K.lookup f11 = some ⟨oc11, od11, .func (PySem.W.fnOf "_law_is_place" "_law_is_place" (defArgs s_law_is_place) (defBody s_law_is_place) (defScope s_law_is_place) .none kV11 dc11 pm11 an11 cd11 ct11), sl11⟩) (c11 : PySem.W.codeIn K cd11 "_law_is_place" = true) (k11 : PySem.W.keepIn K (.ref f11) = true)
    (a12 : PySem.W.nsIn K mainGlobals "_law_shared" = some (some (.ref f12))) (l12 : K.lookup f12 = some ⟨oc12, od12, .func (PySem.W.fnOf "_law_shared" "_law_shared" (defArgs s_law_shared) (defBody s_law_shared) (defScope s_law_shared) .none kV12 dc12 pm12 an12 cd12 ct12), sl12⟩) (c12 : PySem.W.codeIn K cd12 "_law_shared" = true) (k12 : PySem.W.keepIn K (.ref f12) = true)
    (a13 : PySem.W.nsIn K mainGlobals "_law_refused_right" = some (some (.ref f13))) (l13 : K.lookup f13 = some ⟨oc13, od13, .func (PySem.W.fnOf "_law_refused_right" "_law_refused_right" (defArgs s_law_refused_right) (defBody s_law_refused_right) (defScope s_law_refused_right) .none kV13 dc13 pm13 an13 cd13 ct13), sl13⟩) (c13 : PySem.W.codeIn K cd13 "_law_refused_right" = true) (k13 : PySem.W.keepIn K (.ref f13) = true)
    (a14 : PySem.W.nsIn K mainGlobals "law" = some (some (.ref f14))) (l14 : K.lookup f14 = some ⟨oc14, od14, .func (PySem.W.fnOf "law" "law" (defArgs s_law) (defBody s_law) (defScope s_law) .none kV14 dc14 pm14 an14 cd14 ct14), sl14⟩) (c14 : PySem.W.codeIn K cd14 "law" = true) (k14 : PySem.W.keepIn K (.ref f14) = true)
    (zValueError : PySem.W.nsIn K mainGlobals "ValueError" = some none)
    (zabs : PySem.W.nsIn K mainGlobals "abs" = some none)
    (zbool : PySem.W.nsIn K mainGlobals "bool" = some none)
    (zint : PySem.W.nsIn K mainGlobals "int" = some none)
    (zisinstance : PySem.W.nsIn K mainGlobals "isinstance" = some none)
    (zlen : PySem.W.nsIn K mainGlobals "len" = some none)
    (zlist : PySem.W.nsIn K mainGlobals "list" = some none)
    (zmax : PySem.W.nsIn K mainGlobals "max" = some none)
    (zmin : PySem.W.nsIn K mainGlobals "min" = some none)
    (zrange : PySem.W.nsIn K mainGlobals "range" = some none)
    (zstr : PySem.W.nsIn K mainGlobals "str" = some none)
    (ztuple : PySem.W.nsIn K mainGlobals "tuple" = some none)
    (zzip : PySem.W.nsIn K mainGlobals "zip" = some none)
    (gNoPlace : PySem.W.nsIn K mainGlobals "NoPlace" = some (some (.ref aN)))
    (cN : PySem.W.clsIn K aN = some clN)
    (yN : PySem.W.typeIn K (.ref aN) = some (.type "type"))
    (gNoAsk : PySem.W.nsIn K mainGlobals "NoAsk" = some (some (.ref aA)))
    (cA : PySem.W.clsIn K aA = some clA)
    (yA : PySem.W.typeIn K (.ref aA) = some (.type "type"))
    (gNoJoin : PySem.W.nsIn K mainGlobals "NoJoin" = some (some (.ref aJ)))
    (cJ : PySem.W.clsIn K aJ = some clJ)
    (yJ : PySem.W.typeIn K (.ref aJ) = some (.type "type"))
    (gNoTree : PySem.W.nsIn K mainGlobals "NoTree" = some (some (.ref aT)))
    (cT : PySem.W.clsIn K aT = some clT)
    (yT : PySem.W.typeIn K (.ref aT) = some (.type "type"))
    (gFarError : PySem.W.nsIn K mainGlobals "FarError" = some (some (.ref aF)))
    (cF : PySem.W.clsIn K aF = some clF)
    (yF : PySem.W.typeIn K (.ref aF) = some (.type "type"))
    (bF : PySem.W.subIn K (.ref aF) (.type "BaseException") = some true)
    (hno : PySem.W.specialIn K (.builtin "object.__class__") "__get__" = some (some (.builtin "getset_descriptor.__get__")))
    (hto : PySem.W.takesIn K (.builtin "object.__class__") = some true)
    (exN : PySem.W.subIn K (.ref aN) (.type "BaseException") = some true)
    (sVN : PySem.W.subIn K (.ref aN) (.type "ValueError") = some true)
    (gaN : PySem.W.findIn K (.ref aN) "__getattribute__" = some (some (.builtin "BaseException.__getattribute__")))
    (ggN : PySem.W.findIn K (.ref aN) "__getattr__" = some none)
    (hdN : PySem.W.hasDictIn K aN = true)
    (haN : PySem.W.findIn K (.ref aN) "__class__" = some (some (.builtin "object.__class__")))
    (hmN : PySem.W.mroIn K aN (.type "object") = some true)
    (kN : PySem.W.keepIn K (.ref aN) = true)
    (sNA : PySem.W.subIn K (.ref aN) (.ref aA) = some false)
    (nNA : (Value.ref aN == Value.ref aA) = false)
    (sNJ : PySem.W.subIn K (.ref aN) (.ref aJ) = some false)
    (nNJ : (Value.ref aN == Value.ref aJ) = false)
    (sNT : PySem.W.subIn K (.ref aN) (.ref aT) = some false)
    (nNT : (Value.ref aN == Value.ref aT) = false)
    (sNF : PySem.W.subIn K (.ref aN) (.ref aF) = some true)
    (nNF : (Value.ref aN == Value.ref aF) = false)
    (lN : K.lookup aN = some (excClassObj nmN qN aN NN bsN bmN true snN subN abN colN ddN jN0 jN1 jN2 jN3 jN5 "ValueError.__new__"))
    (rN : PySem.HandSPX.refsVE bmN = true)
    (saN : PySem.W.findIn K (.ref aN) "__setattr__" = some (some (.builtin "object.__setattr__")))
    (iN : PySem.W.findIn K (.ref aN) "__init__" = some (some (.ref fNI)))
    (lNI : K.lookup fNI = some ⟨ocNI, odNI, .func (PySem.W.fnOf "__init__" "NoPlace.__init__" (defArgs s_np_init) (defBody s_np_init) (defScope s_np_init) .none kVNI dcNI pmNI anNI cdNI ctNI), slNI⟩)
    (cNI : PySem.W.codeIn K cdNI "NoPlace.__init__" = true)
    (kNI : PySem.W.keepIn K (.ref fNI) = true)
    (tNI : PySem.W.typeIn K (.ref fNI) = some (.type "function"))
    (noN : PySem.W.findIn K (.ref aN) "name" = some none)
    (rdF : PySem.W.readsIn K aF (.type "type") = true)
    (gaF : PySem.W.specialIn K (.ref aF) "__getattribute__" = some (some (.builtin "type.__getattribute__")))
    (vF : PySem.W.findCls K (.ref aF) (.type "type") "__init__" = some (.val (.builtin "ValueError.__init__")))
    (exJ : PySem.W.subIn K (.ref aJ) (.type "BaseException") = some true)
    (sVJ : PySem.W.subIn K (.ref aJ) (.type "ValueError") = some true)
    (gaJ : PySem.W.findIn K (.ref aJ) "__getattribute__" = some (some (.builtin "BaseException.__getattribute__")))
    (ggJ : PySem.W.findIn K (.ref aJ) "__getattr__" = some none)
    (hdJ : PySem.W.hasDictIn K aJ = true)
    (haJ : PySem.W.findIn K (.ref aJ) "__class__" = some (some (.builtin "object.__class__")))
    (hmJ : PySem.W.mroIn K aJ (.type "object") = some true)
    (kJ : PySem.W.keepIn K (.ref aJ) = true)
    (sJN : PySem.W.subIn K (.ref aJ) (.ref aN) = some false)
    (nJN : (Value.ref aJ == Value.ref aN) = false)
    (sJA : PySem.W.subIn K (.ref aJ) (.ref aA) = some false)
    (nJA : (Value.ref aJ == Value.ref aA) = false)
    (sJT : PySem.W.subIn K (.ref aJ) (.ref aT) = some false)
    (nJT : (Value.ref aJ == Value.ref aT) = false)
    (sJF : PySem.W.subIn K (.ref aJ) (.ref aF) = some true)
    (nJF : (Value.ref aJ == Value.ref aF) = false)
    (xJ : PySem.W.excIn K aJ [.type "ValueError", .type "Exception", .type "BaseException", .type "object"] "ValueError.__new__" = true) :
    ∃ fd : FuncData, (∀ (s : Shared) (v : Value), BindsTo s fd ⟨[v], []⟩ [("script", v)]) ∧ ∀ base : Heap, K.In base → base.Ns mainGlobals mg → FnOk l.prog w K mg base CX0 6 fa fd ["script"] (spLaw K) := by
  have e := hfa.symm.trans (PySem.W.mg_of X G a14)
  cases e
  have F1 := fun_mk (st := s_law_deck) l1 c1 k1
  have b1 := F1.binds (ps := ["script"]) fun _ _ _ _ _ _ us hl => match us, hl with | [_], _ => rfl
  have F2 := fun_mk (st := s_law_draw) l2 c2 k2
  have b2 := F2.binds (ps := ["deck", "most"]) fun _ _ _ _ _ _ us hl => match us, hl with | [_, _], _ => rfl
  have F3 := fun_mk (st := s_law_same) l3 c3 k3
  have b3 := F3.binds (ps := ["found", "due"]) fun _ _ _ _ _ _ us hl => match us, hl with | [_, _], _ => rfl
  have F4 := fun_mk (st := s_law_names) l4 c4 k4
  have b4 := F4.binds (ps := ["deck", "many", "taken"]) fun _ _ _ _ _ _ us hl => match us, hl with | [_, _, _], _ => rfl
  have F5 := fun_mk (st := s_law_tree) l5 c5 k5
  have b5 := F5.binds (ps := ["deck", "most", "taken"]) fun _ _ _ _ _ _ us hl => match us, hl with | [_, _, _], _ => rfl
  have F6 := fun_mk (st := s_law_strange) l6 c6 k6
  have b6 := F6.binds (ps := ["deck", "places"]) fun _ _ _ _ _ _ us hl => match us, hl with | [_, _], _ => rfl
  have F7 := fun_mk (st := s_check_unlike) l7 c7 k7
  have b7 := F7.binds (ps := ["one", "other"]) fun _ _ _ _ _ _ us hl => match us, hl with | [_, _], _ => rfl
  have F8 := fun_mk (st := s_joined) l8 c8 k8
  have b8 := F8.binds (ps := ["one", "other", "first", "second", "length"]) fun _ _ _ _ _ _ us hl => match us, hl with | [_, _, _, _, _], _ => rfl
  have F9 := fun_mk (st := s_law_caught) l9 c9 k9
  have b9 := F9.binds (ps := ["one", "other", "first", "second", "length"]) fun _ _ _ _ _ _ us hl => match us, hl with | [_, _, _, _, _], _ => rfl
  have F10 := fun_mk (st := s_law_is_join) l10 c10 k10
  have b10 := F10.binds (ps := ["error"]) fun _ _ _ _ _ _ us hl => match us, hl with | [_], _ => rfl
  have F11 := fun_mk (st := s_law_is_place) l11 c11 k11
  have b11 := F11.binds (ps := ["error", "name"]) fun _ _ _ _ _ _ us hl => match us, hl with | [_, _], _ => rfl
  have F12 := fun_mk (st := s_law_shared) l12 c12 k12
  have b12 := F12.binds (ps := ["deck", "one", "other"]) fun _ _ _ _ _ _ us hl => match us, hl with | [_, _, _], _ => rfl
  have F13 := fun_mk (st := s_law_refused_right) l13 c13 k13
  have b13 := F13.binds (ps := ["deck", "one", "other", "first", "second"]) fun _ _ _ _ _ _ us hl => match us, hl with | [_, _, _, _, _], _ => rfl
  have F14 := fun_mk (st := s_law) l14 c14 k14
  have T0 : TxtG mg := ⟨PySem.W.mg_none_of X G zlen, PySem.W.mg_none_of X G zmax, PySem.W.mg_none_of X G zmin, PySem.W.mg_none_of X G zint, PySem.W.mg_none_of X G zrange, PySem.W.mg_none_of X G zlist, PySem.W.mg_none_of X G ztuple, PySem.W.mg_none_of X G zabs⟩
  have TI : TxtI mg := ⟨PySem.W.mg_none_of X G zisinstance, PySem.W.mg_none_of X G zValueError⟩
  have TS : TxtS mg := ⟨PySem.W.mg_none_of X G zisinstance, PySem.W.mg_none_of X G ztuple, PySem.W.mg_none_of X G zstr, PySem.W.mg_none_of X G zint, PySem.W.mg_none_of X G zbool, PySem.W.mg_none_of X G zlen, PySem.W.mg_none_of X G zzip⟩
  have ECN : ExcC K aN := ⟨gaN, ggN, exN, hdN, haN, hno, hto, hmN⟩
  have KNA := kit_own nNA cA yA sNA
  have KNJ := kit_own nNJ cJ yJ sNJ
  have KNT := kit_own nNT cT yT sNT
  have KNF := kit_own nNF cF yF sNF
  have KNV := kit_ve sVN
  have XN : PySem.W.exmOne K (.ref aN) (.ref aF) = some true := exm_own bF cF yF sNF
  have FIN := fun_mk (st := s_np_init) lNI cNI kNI
  have bIN := FIN.binds (ps := ["self", "name"]) fun _ _ _ _ _ _ us hl => match us, hl with | [_, _], _ => rfl
  have NP : NpC K mg aN fNI aF := ⟨⟨⟨_, _, _, _, _, _, _, _, _, _, _, _, _, _, _, lN, rN⟩, saN, exN, yN, kN⟩, iN, tNI, ⟨gaN, ggN, exN, hdN⟩, ECN, noN, PySem.W.mg_of X G gNoPlace, PySem.W.mg_of X G gFarError, rdF, gaF, vF⟩
  have ECJ : ExcC K aJ := ⟨gaJ, ggJ, exJ, hdJ, haJ, hno, hto, hmJ⟩
  have KJN := kit_own nJN cN yN sJN
  have KJA := kit_own nJA cA yA sJA
  have KJT := kit_own nJT cT yT sJT
  have KJF := kit_own nJF cF yF sJF
  have KJV := kit_ve sVJ
  have XJ : PySem.W.exmOne K (.ref aJ) (.ref aF) = some true := exm_own bF cF yF sJF
  have NJ : NjC K mg aJ := ⟨xJ, PySem.W.mg_of X G gNoJoin, kJ, exJ, yJ⟩
  have KJ : KindJ K mg aJ aN aA aT := ⟨PySem.W.mg_of X G gNoAsk, PySem.W.mg_of X G gNoPlace, PySem.W.mg_of X G gNoTree, PySem.W.mg_of X G gNoJoin, ECJ, ECN, ⟨gaN, ggN, exN, hdN⟩, noN, KJA, KJN, KJT, KJV, KNA, KNJ, KNT, KNV⟩
  have C_law_deck : ∀ base : Heap, Cal l.prog w K mg base 1 "_law_deck" (spDeck K) := fun base => ⟨f1, _, _, ok_deck F1 T0, PySem.W.mg_of X G a1, k1, b1⟩
  have C_law_draw : ∀ base : Heap, Cal l.prog w K mg base 1 "_law_draw" spDraw := fun base => ⟨f2, _, _, ok_draw F2 T0, PySem.W.mg_of X G a2, k2, b2⟩
  have C_same0 : ∀ base : Heap, Cal l.prog w K mg base 1 "_law_same" (spSame 0) := fun base => ⟨f3, _, _, same_none, PySem.W.mg_of X G a3, k3, b3⟩
  have C_same1 : ∀ base : Heap, Cal l.prog w K mg base 2 "_law_same" (spSame 1) := fun base => ⟨f3, _, _, ok_same (by decide) F3 TS (C_same0 base), PySem.W.mg_of X G a3, k3, b3⟩
  have C_same2 : ∀ base : Heap, Cal l.prog w K mg base 3 "_law_same" (spSame 2) := fun base => ⟨f3, _, _, ok_same (by decide) F3 TS (C_same1 base), PySem.W.mg_of X G a3, k3, b3⟩
  have C_same3 : ∀ base : Heap, Cal l.prog w K mg base 4 "_law_same" (spSame 3) := fun base => ⟨f3, _, _, ok_same (by decide) F3 TS (C_same2 base), PySem.W.mg_of X G a3, k3, b3⟩
  have C_same4 : ∀ base : Heap, Cal l.prog w K mg base 5 "_law_same" (spSame 4) := fun base => ⟨f3, _, _, ok_same (by decide) F3 TS (C_same3 base), PySem.W.mg_of X G a3, k3, b3⟩
  have C_law_names : ∀ base : Heap, Cal l.prog w K mg base 2 "_law_names" spNames := fun base => ⟨f4, _, _, ok_names F4 T0 (C_law_draw base), PySem.W.mg_of X G a4, k4, b4⟩
  have C_law_tree : ∀ base : Heap, Cal l.prog w K mg base 3 "_law_tree" spTree := fun base => ⟨f5, _, _, ok_tree F5 T0 (C_law_draw base) (C_law_names base), PySem.W.mg_of X G a5, k5, b5⟩
  have C_law_strange : ∀ base : Heap, Cal l.prog w K mg base 2 "_law_strange" spStrange := fun base => ⟨f6, _, _, ok_strange F6 T0 (C_law_draw base), PySem.W.mg_of X G a6, k6, b6⟩
  have C_check_unlike : ∀ base : Heap, CalX l.prog w K mg base 1 "_check_unlike" (spUnlikeX aJ) := fun base => ⟨⟨f7, _, _, ok_check_unlike NJ F7, PySem.W.mg_of X G a7, k7, b7⟩⟩
  have Cjoined : ∀ base : Heap, CalX l.prog w K mg base 3 "joined" (spJoinX aJ aN) := fun base => ⟨⟨f8, _, _, ok_joined NP (ok_np_init NP FIN) bIN (C_check_unlike base) F8, PySem.W.mg_of X G a8, k8, b8⟩⟩
  have C_law_caught : ∀ base : Heap, Cal l.prog w K mg base 4 "_law_caught" (spCaught aJ aN) := fun base => ⟨f9, _, _, ok_caught F9 (PySem.W.mg_of X G gFarError) XJ XN (Cjoined base), PySem.W.mg_of X G a9, k9, b9⟩
  have C_law_is_join : ∀ base : Heap, Cal l.prog w K mg base 1 "_law_is_join" (spIsJoin aJ) := fun base => ⟨f10, _, _, ok_is_join F10 TI KJ, PySem.W.mg_of X G a10, k10, b10⟩
  have C_law_is_place : ∀ base : Heap, Cal l.prog w K mg base 3 "_law_is_place" (spIsPlace aN) := fun base => ⟨f11, _, _, ok_is_place F11 TI KJ (C_same1 base), PySem.W.mg_of X G a11, k11, b11⟩
  have C_law_shared : ∀ base : Heap, Cal l.prog w K mg base 2 "_law_shared" spShared := fun base => ⟨f12, _, _, ok_shared F12 T0 (C_law_draw base), PySem.W.mg_of X G a12, k12, b12⟩
  have C_law_refused_right : ∀ base : Heap, Cal l.prog w K mg base 5 "_law_refused_right" spRR := fun base => ⟨f13, _, _, ok_rr F13 (C_law_strange base) (C_law_shared base) (C_law_caught base) (C_law_is_place base) (C_law_is_join base), PySem.W.mg_of X G a13, k13, b13⟩
  exact ⟨_, fun s v => .of_eq rfl, fun base _ _ => ok_law F14 T0 (C_law_deck base) (C_law_draw base) (C_law_tree base) (C_same4 base) (Cjoined base) (C_law_refused_right base)⟩
end Far
open PySem PySem.W PyProof.Rows in
set_option maxRecDepth 100000 in
set_option maxHeartbeats 0 in
theorem PySem.Challenge.cw_farplaces_k18_trees_joined_holds : PySem.Challenge.rw_farplaces_k18_trees_joined.Holds := by
  w_on; o_law; k_head; (case hw => w_witness2)
  k_fill
  refine L2.walk_ofB (l := PySem.Challenge.rw_farplaces_k18_trees_joined) (n := 63) (k := 6) (x := "script") (CX := fun _ => L2.CX0) (sp := fun w => Far.spLaw _) rfl (by decide) rfl ⟨rfl, by decide, by decide⟩ (fun w h Y => PySem.W.kIn_of Y) ?F (fun _ _ a ns hl hb _ hS => ⟨a, ns, rfl, hS, hl, hb, fun _ => rfl⟩) (fun _ _ _ _ _ h => h)
  case F =>
    intro w mg fa h KX G hmg
    refine' Far.all_mk KX G hmg ?a1 ?l1 ?c1 ?k1 ?a2 ?l2 ?c2 ?k2 ?a3 ?l3 ?c3 ?k3 ?a4 ?l4 ?c4 ?k4 ?a5 ?l5 ?c5 ?k5 ?a6 ?l6 ?c6 ?k6 ?a7 ?l7 ?c7 ?k7 ?a8 ?l8 ?c8 ?k8 ?a9 ?l9 ?c9 ?k9 ?a10 ?l10 ?c10 ?k10 ?a11 ?l11 ?c11 ?k11 ?a12 ?l12 ?c12 ?k12 ?a13 ?l13 ?c13 ?k13 ?a14 ?l14 ?c14 ?k14 ?zValueError ?zabs ?zbool ?zint ?zisinstance ?zlen ?zlist ?zmax ?zmin ?zrange ?zstr ?ztuple ?zzip ?gNoPlace ?cN ?yN ?gNoAsk ?cA ?yA ?gNoJoin ?cJ ?yJ ?gNoTree ?cT ?yT ?gFarError ?cF ?yF ?bF ?hno ?hto ?exN ?sVN ?gaN ?ggN ?hdN ?haN ?hmN ?kN ?sNA ?nNA ?sNJ ?nNJ ?sNT ?nNT ?sNF ?nNF ?lN ?rN ?saN ?iN ?lNI ?cNI ?kNI ?tNI ?noN ?rdF ?gaF ?vF ?exJ ?sVJ ?gaJ ?ggJ ?hdJ ?haJ ?hmJ ?kJ ?sJN ?nJN ?sJA ?nJA ?sJT ?nJT ?sJF ?nJF ?xJ
    (case a1 => k_is); (case l1 => k_is); (case c1 => k_is); (case k1 => k_is); (case a2 => k_is); (case l2 => k_is); (case c2 => k_is); (case k2 => k_is); (case a3 => k_is); (case l3 => k_is); (case c3 => k_is); (case k3 => k_is); (case a4 => k_is); (case l4 => k_is); (case c4 => k_is); (case k4 => k_is); (case a5 => k_is); (case l5 => k_is); (case c5 => k_is); (case k5 => k_is); (case a6 => k_is); (case l6 => k_is); (case c6 => k_is); (case k6 => k_is); (case a7 => k_is); (case l7 => k_is); (case c7 => k_is); (case k7 => k_is); (case a8 => k_is); (case l8 => k_is); (case c8 => k_is); (case k8 => k_is); (case a9 => k_is); (case l9 => k_is); (case c9 => k_is); (case k9 => k_is); (case a10 => k_is); (case l10 => k_is); (case c10 => k_is); (case k10 => k_is); (case a11 => k_is); (case l11 => k_is); (case c11 => k_is); (case k11 => k_is); (case a12 => k_is); (case l12 => k_is); (case c12 => k_is); (case k12 => k_is); (case a13 => k_is); (case l13 => k_is); (case c13 => k_is); (case k13 => k_is); (case a14 => k_is); (case l14 => k_is); (case c14 => k_is); (case k14 => k_is); (case zValueError => k_is); (case zabs => k_is); (case zbool => k_is); (case zint => k_is); (case zisinstance => k_is); (case zlen => k_is); (case zlist => k_is); (case zmax => k_is); (case zmin => k_is); (case zrange => k_is); (case zstr => k_is); (case ztuple => k_is); (case zzip => k_is); (case gNoPlace => k_is); (case cN => k_is); (case yN => k_is); (case gNoAsk => k_is); (case cA => k_is); (case yA => k_is); (case gNoJoin => k_is); (case cJ => k_is); (case yJ => k_is); (case gNoTree => k_is); (case cT => k_is); (case yT => k_is); (case gFarError => k_is); (case cF => k_is); (case yF => k_is); (case bF => k_is); (case hno => k_is); (case hto => k_is); (case exN => k_is); (case sVN => k_is); (case gaN => k_is); (case ggN => k_is); (case hdN => k_is); (case haN => k_is); (case hmN => k_is); (case kN => k_is); (case sNA => k_is); (case nNA => rfl); (case sNJ => k_is); (case nNJ => rfl); (case sNT => k_is); (case nNT => rfl); (case sNF => k_is); (case nNF => rfl); (case lN => k_is); (case rN => rfl); (case saN => k_is); (case iN => k_is); (case lNI => k_is); (case cNI => k_is); (case kNI => k_is); (case tNI => k_is); (case noN => k_is); (case rdF => k_is); (case gaF => k_is); (case vF => k_is); (case exJ => k_is); (case sVJ => k_is); (case gaJ => k_is); (case ggJ => k_is); (case hdJ => k_is); (case haJ => k_is); (case hmJ => k_is); (case kJ => k_is); (case sJN => k_is); (case nJN => rfl); (case sJA => k_is); (case nJA => rfl); (case sJT => k_is); (case nJT => rfl); (case sJF => k_is); (case nJF => rfl); (case xJ => k_exc)

