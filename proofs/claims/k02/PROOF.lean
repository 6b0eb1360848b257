import PyProof.Rows.All
import Wide.All
import OpenK.AllK
import Wide.FinOn
import HandS.ForMost
import HandS.Wide
import HandS.IsInst
import HandS.CallLocal
import HandS.More
import PySem.Challenge.RW_sameruns_k02_bits
set_option Elab.async false
set_option linter.all false
set_option maxRecDepth 100000
set_option maxHeartbeats 4000000
namespace Lk02
open PySem PySem.Spec PyProof.Rows L2
def topS (i : Nat) : Stmt := PySem.Challenge.pw_sameruns_k02_bits.main.body.getD i (.Pass ⟨0, 0, 0, 0⟩)
abbrev s_wrap : Stmt := topS 2
abbrev N_wrap : List Str := ["n"]
theorem sc_wrap : FnScope ["n"] ["n"] (defScope s_wrap) := ⟨rfl, rfl, rfl, by decide +kernel, rfl, by decide +kernel, by decide +kernel⟩
abbrev s_result : Stmt := topS 4
abbrev N_result : List Str := ["name", "a", "b", "action"]
theorem sc_result : FnScope ["name", "a", "b", "action"] ["name", "a", "b"] (defScope s_result) := ⟨rfl, rfl, rfl, by decide +kernel, rfl, by decide +kernel, by decide +kernel⟩
abbrev s_plus : Stmt := topS 5
abbrev N_plus : List Str := ["a", "b"]
theorem sc_plus : FnScope ["a", "b"] ["a", "b"] (defScope s_plus) := ⟨rfl, rfl, rfl, by decide +kernel, rfl, by decide +kernel, by decide +kernel⟩
abbrev s_minus : Stmt := topS 6
abbrev N_minus : List Str := ["a", "b"]
theorem sc_minus : FnScope ["a", "b"] ["a", "b"] (defScope s_minus) := ⟨rfl, rfl, rfl, by decide +kernel, rfl, by decide +kernel, by decide +kernel⟩
abbrev s_times : Stmt := topS 7
abbrev N_times : List Str := ["a", "b"]
theorem sc_times : FnScope ["a", "b"] ["a", "b"] (defScope s_times) := ⟨rfl, rfl, rfl, by decide +kernel, rfl, by decide +kernel, by decide +kernel⟩
abbrev s_both : Stmt := topS 8
abbrev N_both : List Str := ["a", "b"]
theorem sc_both : FnScope ["a", "b"] ["a", "b"] (defScope s_both) := ⟨rfl, rfl, rfl, by decide +kernel, rfl, by decide +kernel, by decide +kernel⟩
abbrev s_either : Stmt := topS 9
abbrev N_either : List Str := ["a", "b"]
theorem sc_either : FnScope ["a", "b"] ["a", "b"] (defScope s_either) := ⟨rfl, rfl, rfl, by decide +kernel, rfl, by decide +kernel, by decide +kernel⟩
abbrev s_differing : Stmt := topS 10
abbrev N_differing : List Str := ["a", "b"]
theorem sc_differing : FnScope ["a", "b"] ["a", "b"] (defScope s_differing) := ⟨rfl, rfl, rfl, by decide +kernel, rfl, by decide +kernel, by decide +kernel⟩
abbrev s_shifted_left : Stmt := topS 11
abbrev N_shifted_left : List Str := ["a", "b"]
theorem sc_shifted_left : FnScope ["a", "b"] ["a", "b"] (defScope s_shifted_left) := ⟨rfl, rfl, rfl, by decide +kernel, rfl, by decide +kernel, by decide +kernel⟩
abbrev s_shifted_right : Stmt := topS 12
abbrev N_shifted_right : List Str := ["a", "b"]
theorem sc_shifted_right : FnScope ["a", "b"] ["a", "b"] (defScope s_shifted_right) := ⟨rfl, rfl, rfl, by decide +kernel, rfl, by decide +kernel, by decide +kernel⟩
abbrev s_less : Stmt := topS 13
abbrev N_less : List Str := ["a", "b"]
theorem sc_less : FnScope ["a", "b"] ["a", "b"] (defScope s_less) := ⟨rfl, rfl, rfl, by decide +kernel, rfl, by decide +kernel, by decide +kernel⟩
abbrev s_at_most : Stmt := topS 14
abbrev N_at_most : List Str := ["a", "b"]
theorem sc_at_most : FnScope ["a", "b"] ["a", "b"] (defScope s_at_most) := ⟨rfl, rfl, rfl, by decide +kernel, rfl, by decide +kernel, by decide +kernel⟩
abbrev s_same : Stmt := topS 15
abbrev N_same : List Str := ["a", "b"]
theorem sc_same : FnScope ["a", "b"] ["a", "b"] (defScope s_same) := ⟨rfl, rfl, rfl, by decide +kernel, rfl, by decide +kernel, by decide +kernel⟩
abbrev s_other : Stmt := topS 16
abbrev N_other : List Str := ["a", "b"]
theorem sc_other : FnScope ["a", "b"] ["a", "b"] (defScope s_other) := ⟨rfl, rfl, rfl, by decide +kernel, rfl, by decide +kernel, by decide +kernel⟩
abbrev s_cut_off : Stmt := topS 17
abbrev N_cut_off : List Str := ["a", "b", "found"]
theorem sc_cut_off : FnScope ["a", "b", "found"] ["a", "b"] (defScope s_cut_off) := ⟨rfl, rfl, rfl, by decide +kernel, rfl, by decide +kernel, by decide +kernel⟩
abbrev s_quotient : Stmt := topS 18
abbrev N_quotient : List Str := ["a", "b"]
theorem sc_quotient : FnScope ["a", "b"] ["a", "b"] (defScope s_quotient) := ⟨rfl, rfl, rfl, by decide +kernel, rfl, by decide +kernel, by decide +kernel⟩
abbrev s_remainder : Stmt := topS 19
abbrev N_remainder : List Str := ["a", "b"]
theorem sc_remainder : FnScope ["a", "b"] ["a", "b"] (defScope s_remainder) := ⟨rfl, rfl, rfl, by decide +kernel, rfl, by decide +kernel, by decide +kernel⟩
abbrev s__law_pool : Stmt := topS 22
abbrev N__law_pool : List Str := ["script"]
theorem sc__law_pool : FnScope ["script"] ["script"] (defScope s__law_pool) := ⟨rfl, rfl, rfl, by decide +kernel, rfl, by decide +kernel, by decide +kernel⟩
abbrev s__law_draw : Stmt := topS 23
abbrev N__law_draw : List Str := ["pool", "many", "digit"]
theorem sc__law_draw : FnScope ["pool", "many", "digit"] ["pool", "many"] (defScope s__law_draw) := ⟨rfl, rfl, rfl, by decide +kernel, rfl, by decide +kernel, by decide +kernel⟩
abbrev s__law_word : Stmt := topS 24
abbrev N__law_word : List Str := ["pool", "kind", "edges"]
theorem sc__law_word : FnScope ["pool", "kind", "edges"] ["pool"] (defScope s__law_word) := ⟨rfl, rfl, rfl, by decide +kernel, rfl, by decide +kernel, by decide +kernel⟩
abbrev s__law_is_word : Stmt := topS 25
abbrev N__law_is_word : List Str := ["said"]
theorem sc__law_is_word : FnScope ["said"] ["said"] (defScope s__law_is_word) := ⟨rfl, rfl, rfl, by decide +kernel, rfl, by decide +kernel, by decide +kernel⟩
abbrev s__law_bits : Stmt := topS 26
abbrev N__law_bits : List Str := ["x", "out", "turn"]
theorem sc__law_bits : FnScope ["x", "out", "turn"] ["x"] (defScope s__law_bits) := ⟨rfl, rfl, rfl, by decide +kernel, rfl, by decide +kernel, by decide +kernel⟩
abbrev s__law_logic : Stmt := topS 27
abbrev N__law_logic : List Str := ["a", "b", "left", "right", "sign", "due", "said", "found", "k"]
theorem sc__law_logic : FnScope ["a", "b", "left", "right", "sign", "due", "said", "found", "k"] ["a", "b"] (defScope s__law_logic) := ⟨rfl, rfl, rfl, by decide +kernel, rfl, by decide +kernel, by decide +kernel⟩
abbrev s__law_shifts : Stmt := topS 28
abbrev N__law_shifts : List Str := ["a", "b", "unit", "turn", "said"]
theorem sc__law_shifts : FnScope ["a", "b", "unit", "turn", "said"] ["a", "b"] (defScope s__law_shifts) := ⟨rfl, rfl, rfl, by decide +kernel, rfl, by decide +kernel, by decide +kernel⟩
abbrev s_law : Stmt := topS 29
abbrev N_law : List Str := ["script", "pool", "a", "b", "pairs", "left", "right", "turns", "amounts", "amount"]
theorem sc_law : FnScope ["script", "pool", "a", "b", "pairs", "left", "right", "turns", "amounts", "amount"] ["script"] (defScope s_law) := ⟨rfl, rfl, rfl, by decide +kernel, rfl, by decide +kernel, by decide +kernel⟩
/-- a def of the text that keeps its promise, for who calls it -/
structure Callee (P : Program) (w : World) (K : PySem.W.Frag) (mg : Str → Option Value) (base : Heap) (k : Nat) (f : Addr) (fd : FuncData) (nm : Str) (ps : List Str) (sp : Sp) : Prop where
  ok : FnOk P w K mg base CX0 k f fd ps sp
  kp : PySem.W.keepIn K (.ref f) = true
  b : Binds K fd ps []
  g : mg nm = some (.ref f)
section
variable {P : Program} {w : World} {K : PySem.W.Frag} {mg : Str → Option Value} {base : Heap}
theorem iteD {p A B : Prop} [Decidable p] (h1 : p → A) (h2 : ¬ p → B) : if decide p = true then A else B := by
  by_cases h : p
  · rw [decide_eq_true h]; exact iteT (h1 h)
  · rw [decide_eq_false h]; exact iteF (h2 h)
theorem iteDn {p A B : Prop} [Decidable p] (h1 : ¬ p → A) (h2 : p → B) : if (!decide p) = true then A else B := by
  by_cases h : p
  · rw [decide_eq_true h]; exact iteF (h2 h)
  · rw [decide_eq_false h]; exact iteT (h1 h)
theorem dec_t {p : Prop} [Decidable p] {Q : VK} {H : Hp} (h : p) (q : Q (.bl true) H) : Q (.bl (decide p)) H := by
  rw [decide_eq_true h]; exact q
theorem same_upd {H : Hp} {p : Addr} {o : HO} (h : H p = none) : Same H (upd H p o) := fun b x e => by
  rw [upd_ne (ne_of_none e h)]
  exact e
/-- all but the pool is as it was -/
def But (p : Addr) (H H' : Hp) : Prop := ∀ b o, H b = some o → b ≠ p → H' b = some o
theorem But.same {p : Addr} {H H1 H2 : Hp} (a : But p H H1) (b : Same H1 H2) : But p H H2 := fun c o e n => b c o (a c o e n)
theorem But.trans {p : Addr} {H H1 H2 : Hp} (a : But p H H1) (b : But p H1 H2) : But p H H2 := fun c o e n => b c o (a c o e n) n
theorem But.upd {p : Addr} {H H1 : Hp} {o : HO} (a : But p H H1) : But p H (upd H1 p o) := fun c u e n => by
  rw [upd_ne n]; exact a c u e n
def Pool (H : Hp) (p : Addr) : Prop := ∃ (q : Addr) (ns : List Int) (i d c : Int), p ≠ q ∧ H p = some (.lst [.ref q, .int i, .int d, .int c]) ∧ H q = some (.lst (ns.map V.int)) ∧ 0 ≤ i ∧ ns.length ≤ 1000 ∧ 0 ≤ d ∧ 0 ≤ c
theorem Pool.same {H H' : Hp} {p : Addr} (h : Pool H p) (s : Same H H') : Pool H' p := by
  obtain ⟨q, ns, i, d, c, h1, h2, h3, h4⟩ := h
  exact ⟨q, ns, i, d, c, h1, s _ _ h2, s _ _ h3, h4⟩
theorem log2_lt {n : Nat} (h : n < 2 ^ 100) : n.log2 < 9000 := by
  by_cases h0 : n = 0
  · subst h0; decide
  · have := (Nat.log2_lt h0).mpr h
    omega
theorem divW {i j : Int} (h0 : 0 < j) (h1 : j < 1000000000000000000000000000000) : CDivW i j := ⟨h0, log2_lt (by omega)⟩
/-- a word -/
def wd (n : Int) : Prop := -2147483648 ≤ n ∧ n ≤ 2147483647
theorem set_same {σ : L2.St} {k : Nat} (h : k < σ.length) : ∃ v, σ = σ.set k v := ⟨σ[k], by rw [List.set_getElem_self]⟩
/-- a for over a list, whose turn changes but its own name among the slots -/
theorem for_list1 {K : PySem.W.Frag} {a : Addr} {xs : List V} {tb : TS} {D : Ends} {σ0 : L2.St} {H : Hp} (k : Nat) (hk : k < σ0.length) (I : Nat → Hp → Prop) (h0 : I 0 H) (hl : ∀ i H, i ≤ xs.length → I i H → SqL K H a xs)
    (hs : ∀ i x H, xs[i]? = some x → I i H → tb { D with nx := fun σ' H' => (∃ v, σ' = σ0.set k v) ∧ I (i + 1) H', ct := fun σ' H' => (∃ v, σ' = σ0.set k v) ∧ I (i + 1) H', bk := D.nx } (σ0.set k (some x)) H)
    (hd : ∀ v H, I xs.length H → D.nx (σ0.set k v) H) :
    ∃ W : Nat → Nat → L2.St → Hp → Prop, (∃ m, W 0 m σ0 H) ∧ ∀ i m σ H, W i m σ H →
      ((Itl K a).stop i H ∧ D.nx σ H) ∨ ((Itl K a).go i H ∧ ∃ N : L2.St → Hp → Prop, (∀ σ' H', N σ' H' → ∃ m', m' < m ∧ W (i + 1) m' σ' H') ∧ ∀ x H', (Itl K a).yld i H x H' → gName k x σ H' fun σ2 H2 => tb { D with nx := N, ct := N, bk := D.nx } σ2 H2) := by
  refine for_list (K := K) (a := a) (xs := xs) (g := gName k) (tb := tb) (D := D) (fun i σ H => (∃ v, σ = σ0.set k v) ∧ I i H) ⟨set_same hk, h0⟩ (fun i σ H h1 h2 => hl i H h1 h2.2) ?_ ?_
  · rintro i x σ H hx ⟨⟨v, rfl⟩, h⟩
    have q := hs i x H hx h
    show tb _ ((σ0.set k v).set k (some x)) H
    rw [List.set_set]
    exact q
  · rintro σ H ⟨⟨v, rfl⟩, h⟩
    exact hd v H h
theorem keep {H : Hp} {p q : Addr} {o u : HO} (h : H q = some u) (n : H p = none) : upd H p o q = some u := by
  rw [upd_ne (ne_of_none h n)]; exact h
/-- a for over a list of pairs, whose turn changes but its own two names among the slots -/
theorem for_list2 {K : PySem.W.Frag} {a : Addr} {xs : List V} {tb : TS} {D : Ends} {σ0 : L2.St} {H : Hp} (i j : Nat) (hi : i < σ0.length) (hj : j < σ0.length) (hij : i ≠ j) (I : Nat → Hp → Prop) (h0 : I 0 H) (hl : ∀ n H, n ≤ xs.length → I n H → SqL K H a xs)
    (hs : ∀ n x H, xs[n]? = some x → I n H → ∃ t u w, x = .ref t ∧ SqT K H t [u, w] ∧ tb { D with nx := fun σ' H' => (∃ v w, σ' = (σ0.set i v).set j w) ∧ I (n + 1) H', ct := fun σ' H' => (∃ v w, σ' = (σ0.set i v).set j w) ∧ I (n + 1) H', bk := D.nx } ((σ0.set i (some u)).set j (some w)) H)
    (hd : ∀ v w H, I xs.length H → D.nx ((σ0.set i v).set j w) H) :
    ∃ W : Nat → Nat → L2.St → Hp → Prop, (∃ m, W 0 m σ0 H) ∧ ∀ n m σ H, W n m σ H →
      ((Itl K a).stop n H ∧ D.nx σ H) ∨ ((Itl K a).go n H ∧ ∃ N : L2.St → Hp → Prop, (∀ σ' H', N σ' H' → ∃ m', m' < m ∧ W (n + 1) m' σ' H') ∧ ∀ x H', (Itl K a).yld n H x H' → gTup K 2 (gCons (gName i) (gCons (gName j) gNil)) x σ H' fun σ2 H2 => tb { D with nx := N, ct := N, bk := D.nx } σ2 H2) := by
  have st : ∃ v w, σ0 = (σ0.set i v).set j w := ⟨σ0[i], σ0[j], by rw [List.set_getElem_self, List.set_getElem_self]⟩
  have e : ∀ v w v' w', (((σ0.set i v).set j w).set i v').set j w' = (σ0.set i v').set j w' := fun v w v' w' => by
    rw [List.set_comm _ _ hij.symm, List.set_set, List.set_set]
  refine for_list (K := K) (a := a) (xs := xs) (g := gTup K 2 (gCons (gName i) (gCons (gName j) gNil))) (tb := tb) (D := D) (fun i' σ H => (∃ v w, σ = (σ0.set i v).set j w) ∧ I i' H) ⟨st, h0⟩ (fun i σ H h1 h2 => hl i H h1 h2.2) ?_ ?_
  · rintro n x σ H hx ⟨⟨v, w, rfl⟩, h⟩
    obtain ⟨t, u, z, rfl, hT, q⟩ := hs n x H hx h
    refine ⟨t, _, rfl, hT, rfl, u, _, rfl, z, _, rfl, rfl, ?_⟩
    show tb _ ((((σ0.set i v).set j w).set i (some u)).set j (some z)) H
    rw [e]
    exact q
  · rintro σ H ⟨⟨v, w, rfl⟩, h⟩
    exact hd v w H h

theorem cong_q {x y : Int} {Q : VK} {H : Hp} (e : x = y) (q : Q (.int y) H) : Q (.int x) H := by subst e; exact q
/-- the word of an integer -/
def wr (n : Int) : Int := (n + 2147483648) % 4294967296 - 2147483648
theorem wr_wd (n : Int) : wd (wr n) := by unfold wr wd; omega
def sp_wrap (K : PySem.W.Frag) : Sp := fun vs H Q _ => ∃ n : Int, vs = [.int n] ∧ Q (.int (wr n)) H
theorem ok_wrap {f : Addr} {fd : FuncData} (F : Fun K "wrap" "wrap" s_wrap f fd) (g_LEAST : ∃ t, mg "LEAST" = some (.int (-2147483648) t)) : FnOk P w K mg base CX0 (1) f fd ["n"] (sp_wrap K) := by
  refine F.ok sc_wrap (fun vs H Q E h => ?_) (fun cdv A outer s H vs Q E hr h => ?_)
  · first | (obtain ⟨rfl, _⟩ := h; rfl) | (obtain ⟨_, rfl, _⟩ := h; rfl) | (obtain ⟨_, _, rfl, _⟩ := h; rfl) | (obtain ⟨_, _, _, rfl, _⟩ := h; rfl) | (obtain ⟨_, _, _, _, rfl, _⟩ := h; rfl) | (obtain ⟨_, _, _, _, _, rfl, _⟩ := h; rfl) | (obtain ⟨_, _, _, _, _, _, rfl, _⟩ := h; rfl) | (obtain ⟨_, _, _, _, _, _, _, rfl, _⟩ := h; rfl) | (obtain ⟨_, _, _, _, _, _, _, _, rfl, _⟩ := h; rfl) | (obtain ⟨_, _, _, _, _, _, _, _, _, rfl, _⟩ := h; rfl) | (obtain ⟨_, _, _, _, _, _, _, _, _, _, rfl, _⟩ := h; rfl) | (obtain ⟨_, _, _, _, _, _, _, _, _, _, _, rfl, _⟩ := h; rfl) | (obtain ⟨_, _, _, _, _, _, _, _, _, _, _, _, rfl, _⟩ := h; rfl) | (obtain ⟨_, _, _, _, _, _, _, _, _, _, _, _, _, rfl, _⟩ := h; rfl) | (obtain ⟨_, _, _, _, _, _, _, _, _, _, _, _, _, _, rfl, _⟩ := h; rfl) | (obtain ⟨_, _, _, _, _, _, _, _, _, _, _, _, _, _, _, rfl, _⟩ := h; rfl) | (obtain ⟨_, _, _, _, _, _, _, _, _, _, _, _, _, _, _, _, rfl, _⟩ := h; rfl) | (obtain ⟨_, _, _, _, _, _, _, _, _, _, _, _, _, _, _, _, _, rfl, _⟩ := h; rfl)
  · have hu := hu_of hr
    obtain ⟨t_LEAST, g_LEAST⟩ := g_LEAST

    refine ⟨_, (pss_one (ps_ret (pe_op op_add (pe_op op_mod (pe_op op_sub (pv 0) (pe_glob (v := (.int (-2147483648))) (by rfl) g_LEAST ⟨_, rfl⟩)) pe_int) (pe_glob (v := (.int (-2147483648))) (by rfl) g_LEAST ⟨_, rfl⟩)))), ?_⟩
    obtain ⟨n, rfl, q⟩ := h
    refine ⟨_, rfl, _, _, rfl, rfl, _, _, rfl, rfl, (by show (0 : Int) < 4294967296; decide), _, _, rfl, rfl, ?_⟩
    exact cong_q (Q := Q) (by unfold wr; omega) q

theorem nat_and_step (m n : Nat) : m &&& n = 2 * (m / 2 &&& n / 2) + (m % 2) * (n % 2) := by
  have h1 : (m &&& n) / 2 = m / 2 &&& n / 2 := Nat.and_div_two
  have h2 : (m &&& n) % 2 = (m % 2) * (n % 2) := by
    have := Nat.and_mod_two_eq_one (a := m) (b := n)
    rcases Nat.mod_two_eq_zero_or_one m with a | a <;> rcases Nat.mod_two_eq_zero_or_one n with b | b <;> rw [a, b] at this ⊢ <;> (first | (have t := this.mpr ⟨rfl, rfl⟩; omega) | (have t := (not_congr this).mpr (by decide); omega) | (have t := this.mpr (by decide); omega))
  omega
theorem nat_or_step (m n : Nat) : m ||| n = 2 * (m / 2 ||| n / 2) + (m % 2 + n % 2 - (m % 2) * (n % 2)) := by
  have h1 : (m ||| n) / 2 = m / 2 ||| n / 2 := Nat.or_div_two
  have h2 : (m ||| n) % 2 = (m % 2 + n % 2 - (m % 2) * (n % 2)) := by
    have := Nat.or_mod_two_eq_one (a := m) (b := n)
    rcases Nat.mod_two_eq_zero_or_one m with a | a <;> rcases Nat.mod_two_eq_zero_or_one n with b | b <;> rw [a, b] at this ⊢ <;> (first | (have t := this.mpr ⟨rfl, rfl⟩; omega) | (have t := (not_congr this).mpr (by decide); omega) | (have t := this.mpr (by decide); omega))
  omega
theorem and_step (x y : Int) : Builtin.bitAnd x y = 2 * Builtin.bitAnd (x / 2) (y / 2) + (x % 2) * (y % 2) := by
  have hm : (x % 2) * (y % 2) = if x % 2 = 1 ∧ y % 2 = 1 then 1 else 0 := by
    rcases Int.emod_two_eq x with a | a <;> rcases Int.emod_two_eq y with b | b <;> rw [a, b] <;> rfl
  have tn : ∀ z : Int, 0 ≤ z → ((z / 2).toNat = z.toNat / 2) ∧ ((z.toNat : Int) = z) := fun z h => ⟨by omega, by omega⟩
  by_cases hx : 0 ≤ x <;> by_cases hy : 0 ≤ y
  · rw [bitAnd_pp hx hy, bitAnd_pp (by omega) (by omega), nat_and_step, (tn x hx).1, (tn y hy).1]
    have e : ((x.toNat % 2 * (y.toNat % 2) : Nat) : Int) = (x % 2) * (y % 2) := by
      rw [Int.natCast_mul]; congr 1 <;> omega
    omega
  · have hn : 0 ≤ Builtin.bitNot y := bitNot_nonneg.mpr hy
    have en : Builtin.bitNot (y / 2) = Builtin.bitNot y / 2 := by unfold Builtin.bitNot; omega
    rw [bitAnd_pn hx hy, bitAnd_pn (by omega) (by omega), nat_and_step, (tn x hx).1, en, (tn _ hn).1]
    have e : ((x.toNat % 2 * ((Builtin.bitNot y).toNat % 2) : Nat) : Int) = (x % 2) * (1 - y % 2) := by
      rw [Int.natCast_mul]; congr 1 <;> (first | omega | (have : Builtin.bitNot y = -y - 1 := rfl; omega))
    rw [Int.mul_sub, Int.mul_one] at e
    omega
  · have hn : 0 ≤ Builtin.bitNot x := bitNot_nonneg.mpr hx
    have en : Builtin.bitNot (x / 2) = Builtin.bitNot x / 2 := by unfold Builtin.bitNot; omega
    rw [bitAnd_np hx hy, bitAnd_np (by omega) (by omega), nat_and_step, (tn y hy).1, en, (tn _ hn).1]
    have e : ((y.toNat % 2 * ((Builtin.bitNot x).toNat % 2) : Nat) : Int) = (y % 2) * (1 - x % 2) := by
      rw [Int.natCast_mul]; congr 1 <;> (first | omega | (have : Builtin.bitNot x = -x - 1 := rfl; omega))
    rw [Int.mul_sub, Int.mul_one, Int.mul_comm (y % 2)] at e
    omega
  · have hn : 0 ≤ Builtin.bitNot x := bitNot_nonneg.mpr hx
    have hn2 : 0 ≤ Builtin.bitNot y := bitNot_nonneg.mpr hy
    have en : Builtin.bitNot (x / 2) = Builtin.bitNot x / 2 := by unfold Builtin.bitNot; omega
    have en2 : Builtin.bitNot (y / 2) = Builtin.bitNot y / 2 := by unfold Builtin.bitNot; omega
    rw [bitAnd_nn hx hy, bitAnd_nn (by omega) (by omega), nat_or_step, en, en2, (tn _ hn).1, (tn _ hn2).1]
    have e : (((Builtin.bitNot x).toNat % 2 * ((Builtin.bitNot y).toNat % 2) : Nat) : Int) = (1 - x % 2) * (1 - y % 2) := by
      rw [Int.natCast_mul]
      have h1 : Builtin.bitNot x = -x - 1 := rfl
      have h2 : Builtin.bitNot y = -y - 1 := rfl
      congr 1 <;> omega
    rw [Int.mul_sub, Int.mul_one, Int.sub_mul, Int.one_mul] at e
    have h1 : Builtin.bitNot x = -x - 1 := rfl
    have h2 : Builtin.bitNot y = -y - 1 := rfl
    have h3 : ∀ z, Builtin.bitNot z = -z - 1 := fun _ => rfl
    rcases Nat.mod_two_eq_zero_or_one (Builtin.bitNot x).toNat with a | a <;> rcases Nat.mod_two_eq_zero_or_one (Builtin.bitNot y).toNat with b | b <;> rw [a, b] at e ⊢ <;> simp only [h3] at a b e ⊢ <;> omega
theorem and_31 (b : Int) : Builtin.bitAnd b 31 = b % 32 := by
  have z : ∀ x, Builtin.bitAnd x 0 = 0 := fun x => by
    by_cases hx : 0 ≤ x
    · rw [bitAnd_pp hx (by decide)]; simp
    · rw [bitAnd_np hx (by decide)]; simp
  rw [and_step, and_step (b / 2), and_step (b / 2 / 2), and_step (b / 2 / 2 / 2), and_step (b / 2 / 2 / 2 / 2)]
  have e : (31 : Int) / 2 / 2 / 2 / 2 / 2 = 0 := by decide
  rw [e, z]
  omega
/-- the exact quotient, cut off toward zero -/
def cut (a b : Int) : Int := if decide (a < 0) = decide (b < 0) then (if a < 0 then -a else a) / (if b < 0 then -b else b) else -((if a < 0 then -a else a) / (if b < 0 then -b else b))
/-- what the operations give -/
inductive Res : Str → Int → Int → Int → Prop
  | add (a b : Int) : Res "add" a b (wr (a + b))
  | sub (a b : Int) : Res "sub" a b (wr (a - b))
  | mul (a b : Int) : Res "mul" a b (wr (a * b))
  | and' (a b : Int) : Res "and" a b (Builtin.bitAnd a b)
  | or' (a b : Int) : Res "or" a b (Builtin.bitOr a b)
  | xor' (a b : Int) : Res "xor" a b (Builtin.bitXor a b)
  | shl (a b : Int) : Res "shl" a b (wr (a * 2 ^ (b % 32).toNat))
  | sar (a b : Int) : Res "sar" a b (a / 2 ^ (b % 32).toNat)
  | lt (a b : Int) : Res "lt" a b (if a < b then 1 else 0)
  | le (a b : Int) : Res "le" a b (if a ≤ b then 1 else 0)
  | eq (a b : Int) : Res "eq" a b (if a = b then 1 else 0)
  | ne (a b : Int) : Res "ne" a b (if a = b then 0 else 1)
  | quo (a b : Int) : Res "quo" a b (if b = 0 then -1 else wr (cut a b))
  | mod' (a b : Int) : Res "mod" a b (if b = 0 then a else a - b * cut a b)
/-- a promise of an operation -/
def spII (g : Int → Int → Int) : Sp := fun vs H Q _ => ∃ a b : Int, vs = [.int a, .int b] ∧ (wd a ∧ wd b) ∧ Q (.int (g a b)) H
def sp_plus (K : PySem.W.Frag) : Sp := spII fun a b => wr (a + b)
theorem ok_plus {f : Addr} {fd : FuncData} (F : Fun K "plus" "plus" s_plus f fd) {f_wrap : Addr} {fd_wrap : FuncData} (C_wrap : Callee P w K mg base 1 f_wrap fd_wrap "wrap" ["n"] (sp_wrap K)) : FnOk P w K mg base CX0 (2) f fd ["a", "b"] (sp_plus K) := by
  refine F.ok sc_plus (fun vs H Q E h => ?_) (fun cdv A outer s H vs Q E hr h => ?_)
  · first | (obtain ⟨rfl, _⟩ := h; rfl) | (obtain ⟨_, rfl, _⟩ := h; rfl) | (obtain ⟨_, _, rfl, _⟩ := h; rfl) | (obtain ⟨_, _, _, rfl, _⟩ := h; rfl) | (obtain ⟨_, _, _, _, rfl, _⟩ := h; rfl) | (obtain ⟨_, _, _, _, _, rfl, _⟩ := h; rfl) | (obtain ⟨_, _, _, _, _, _, rfl, _⟩ := h; rfl) | (obtain ⟨_, _, _, _, _, _, _, rfl, _⟩ := h; rfl) | (obtain ⟨_, _, _, _, _, _, _, _, rfl, _⟩ := h; rfl) | (obtain ⟨_, _, _, _, _, _, _, _, _, rfl, _⟩ := h; rfl) | (obtain ⟨_, _, _, _, _, _, _, _, _, _, rfl, _⟩ := h; rfl) | (obtain ⟨_, _, _, _, _, _, _, _, _, _, _, rfl, _⟩ := h; rfl) | (obtain ⟨_, _, _, _, _, _, _, _, _, _, _, _, rfl, _⟩ := h; rfl) | (obtain ⟨_, _, _, _, _, _, _, _, _, _, _, _, _, rfl, _⟩ := h; rfl) | (obtain ⟨_, _, _, _, _, _, _, _, _, _, _, _, _, _, rfl, _⟩ := h; rfl) | (obtain ⟨_, _, _, _, _, _, _, _, _, _, _, _, _, _, _, rfl, _⟩ := h; rfl) | (obtain ⟨_, _, _, _, _, _, _, _, _, _, _, _, _, _, _, _, rfl, _⟩ := h; rfl) | (obtain ⟨_, _, _, _, _, _, _, _, _, _, _, _, _, _, _, _, _, rfl, _⟩ := h; rfl)
  · have hu := hu_of hr

    refine ⟨_, (pss_one (ps_ret (pe_call C_wrap.ok (hr.mono (by omega)) (by rfl) C_wrap.g C_wrap.kp C_wrap.b .nil pass0 (pa_cons (pe_op op_add (pv 0) (pv 1)) pa_nil)))), ?_⟩
    obtain ⟨a, b, rfl, ⟨wa, wb⟩, q⟩ := h
    change Q (.int (wr (a + b))) H at q
    exact ⟨_, rfl, _, rfl, _, _, rfl, rfl, _, rfl, q⟩
def sp_minus (K : PySem.W.Frag) : Sp := spII fun a b => wr (a - b)
theorem ok_minus {f : Addr} {fd : FuncData} (F : Fun K "minus" "minus" s_minus f fd) {f_wrap : Addr} {fd_wrap : FuncData} (C_wrap : Callee P w K mg base 1 f_wrap fd_wrap "wrap" ["n"] (sp_wrap K)) : FnOk P w K mg base CX0 (2) f fd ["a", "b"] (sp_minus K) := by
  refine F.ok sc_minus (fun vs H Q E h => ?_) (fun cdv A outer s H vs Q E hr h => ?_)
  · first | (obtain ⟨rfl, _⟩ := h; rfl) | (obtain ⟨_, rfl, _⟩ := h; rfl) | (obtain ⟨_, _, rfl, _⟩ := h; rfl) | (obtain ⟨_, _, _, rfl, _⟩ := h; rfl) | (obtain ⟨_, _, _, _, rfl, _⟩ := h; rfl) | (obtain ⟨_, _, _, _, _, rfl, _⟩ := h; rfl) | (obtain ⟨_, _, _, _, _, _, rfl, _⟩ := h; rfl) | (obtain ⟨_, _, _, _, _, _, _, rfl, _⟩ := h; rfl) | (obtain ⟨_, _, _, _, _, _, _, _, rfl, _⟩ := h; rfl) | (obtain ⟨_, _, _, _, _, _, _, _, _, rfl, _⟩ := h; rfl) | (obtain ⟨_, _, _, _, _, _, _, _, _, _, rfl, _⟩ := h; rfl) | (obtain ⟨_, _, _, _, _, _, _, _, _, _, _, rfl, _⟩ := h; rfl) | (obtain ⟨_, _, _, _, _, _, _, _, _, _, _, _, rfl, _⟩ := h; rfl) | (obtain ⟨_, _, _, _, _, _, _, _, _, _, _, _, _, rfl, _⟩ := h; rfl) | (obtain ⟨_, _, _, _, _, _, _, _, _, _, _, _, _, _, rfl, _⟩ := h; rfl) | (obtain ⟨_, _, _, _, _, _, _, _, _, _, _, _, _, _, _, rfl, _⟩ := h; rfl) | (obtain ⟨_, _, _, _, _, _, _, _, _, _, _, _, _, _, _, _, rfl, _⟩ := h; rfl) | (obtain ⟨_, _, _, _, _, _, _, _, _, _, _, _, _, _, _, _, _, rfl, _⟩ := h; rfl)
  · have hu := hu_of hr

    refine ⟨_, (pss_one (ps_ret (pe_call C_wrap.ok (hr.mono (by omega)) (by rfl) C_wrap.g C_wrap.kp C_wrap.b .nil pass0 (pa_cons (pe_op op_sub (pv 0) (pv 1)) pa_nil)))), ?_⟩
    obtain ⟨a, b, rfl, ⟨wa, wb⟩, q⟩ := h
    change Q (.int (wr (a - b))) H at q
    exact ⟨_, rfl, _, rfl, _, _, rfl, rfl, _, rfl, q⟩
def sp_times (K : PySem.W.Frag) : Sp := spII fun a b => wr (a * b)
theorem ok_times {f : Addr} {fd : FuncData} (F : Fun K "times" "times" s_times f fd) {f_wrap : Addr} {fd_wrap : FuncData} (C_wrap : Callee P w K mg base 1 f_wrap fd_wrap "wrap" ["n"] (sp_wrap K)) : FnOk P w K mg base CX0 (2) f fd ["a", "b"] (sp_times K) := by
  refine F.ok sc_times (fun vs H Q E h => ?_) (fun cdv A outer s H vs Q E hr h => ?_)
  · first | (obtain ⟨rfl, _⟩ := h; rfl) | (obtain ⟨_, rfl, _⟩ := h; rfl) | (obtain ⟨_, _, rfl, _⟩ := h; rfl) | (obtain ⟨_, _, _, rfl, _⟩ := h; rfl) | (obtain ⟨_, _, _, _, rfl, _⟩ := h; rfl) | (obtain ⟨_, _, _, _, _, rfl, _⟩ := h; rfl) | (obtain ⟨_, _, _, _, _, _, rfl, _⟩ := h; rfl) | (obtain ⟨_, _, _, _, _, _, _, rfl, _⟩ := h; rfl) | (obtain ⟨_, _, _, _, _, _, _, _, rfl, _⟩ := h; rfl) | (obtain ⟨_, _, _, _, _, _, _, _, _, rfl, _⟩ := h; rfl) | (obtain ⟨_, _, _, _, _, _, _, _, _, _, rfl, _⟩ := h; rfl) | (obtain ⟨_, _, _, _, _, _, _, _, _, _, _, rfl, _⟩ := h; rfl) | (obtain ⟨_, _, _, _, _, _, _, _, _, _, _, _, rfl, _⟩ := h; rfl) | (obtain ⟨_, _, _, _, _, _, _, _, _, _, _, _, _, rfl, _⟩ := h; rfl) | (obtain ⟨_, _, _, _, _, _, _, _, _, _, _, _, _, _, rfl, _⟩ := h; rfl) | (obtain ⟨_, _, _, _, _, _, _, _, _, _, _, _, _, _, _, rfl, _⟩ := h; rfl) | (obtain ⟨_, _, _, _, _, _, _, _, _, _, _, _, _, _, _, _, rfl, _⟩ := h; rfl) | (obtain ⟨_, _, _, _, _, _, _, _, _, _, _, _, _, _, _, _, _, rfl, _⟩ := h; rfl)
  · have hu := hu_of hr

    refine ⟨_, (pss_one (ps_ret (pe_call C_wrap.ok (hr.mono (by omega)) (by rfl) C_wrap.g C_wrap.kp C_wrap.b .nil pass0 (pa_cons (pe_op op_mul (pv 0) (pv 1)) pa_nil)))), ?_⟩
    obtain ⟨a, b, rfl, ⟨wa, wb⟩, q⟩ := h
    change Q (.int (wr (a * b))) H at q
    obtain ⟨w1, w2⟩ := wa
    exact ⟨_, rfl, _, rfl, _, _, rfl, rfl, .inl ⟨by omega, by omega⟩, _, rfl, q⟩
def sp_both (K : PySem.W.Frag) : Sp := spII fun a b => Builtin.bitAnd a b
theorem ok_both {f : Addr} {fd : FuncData} (F : Fun K "both" "both" s_both f fd) : FnOk P w K mg base CX0 (1) f fd ["a", "b"] (sp_both K) := by
  refine F.ok sc_both (fun vs H Q E h => ?_) (fun cdv A outer s H vs Q E hr h => ?_)
  · first | (obtain ⟨rfl, _⟩ := h; rfl) | (obtain ⟨_, rfl, _⟩ := h; rfl) | (obtain ⟨_, _, rfl, _⟩ := h; rfl) | (obtain ⟨_, _, _, rfl, _⟩ := h; rfl) | (obtain ⟨_, _, _, _, rfl, _⟩ := h; rfl) | (obtain ⟨_, _, _, _, _, rfl, _⟩ := h; rfl) | (obtain ⟨_, _, _, _, _, _, rfl, _⟩ := h; rfl) | (obtain ⟨_, _, _, _, _, _, _, rfl, _⟩ := h; rfl) | (obtain ⟨_, _, _, _, _, _, _, _, rfl, _⟩ := h; rfl) | (obtain ⟨_, _, _, _, _, _, _, _, _, rfl, _⟩ := h; rfl) | (obtain ⟨_, _, _, _, _, _, _, _, _, _, rfl, _⟩ := h; rfl) | (obtain ⟨_, _, _, _, _, _, _, _, _, _, _, rfl, _⟩ := h; rfl) | (obtain ⟨_, _, _, _, _, _, _, _, _, _, _, _, rfl, _⟩ := h; rfl) | (obtain ⟨_, _, _, _, _, _, _, _, _, _, _, _, _, rfl, _⟩ := h; rfl) | (obtain ⟨_, _, _, _, _, _, _, _, _, _, _, _, _, _, rfl, _⟩ := h; rfl) | (obtain ⟨_, _, _, _, _, _, _, _, _, _, _, _, _, _, _, rfl, _⟩ := h; rfl) | (obtain ⟨_, _, _, _, _, _, _, _, _, _, _, _, _, _, _, _, rfl, _⟩ := h; rfl) | (obtain ⟨_, _, _, _, _, _, _, _, _, _, _, _, _, _, _, _, _, rfl, _⟩ := h; rfl)
  · have hu := hu_of hr

    refine ⟨_, (pss_one (ps_ret (pe_op op_and (pv 0) (pv 1)))), ?_⟩
    obtain ⟨a, b, rfl, ⟨wa, wb⟩, q⟩ := h
    change Q (.int (Builtin.bitAnd a b)) H at q
    exact ⟨_, rfl, _, rfl, _, _, rfl, rfl, q⟩
def sp_either (K : PySem.W.Frag) : Sp := spII fun a b => Builtin.bitOr a b
theorem ok_either {f : Addr} {fd : FuncData} (F : Fun K "either" "either" s_either f fd) : FnOk P w K mg base CX0 (1) f fd ["a", "b"] (sp_either K) := by
  refine F.ok sc_either (fun vs H Q E h => ?_) (fun cdv A outer s H vs Q E hr h => ?_)
  · first | (obtain ⟨rfl, _⟩ := h; rfl) | (obtain ⟨_, rfl, _⟩ := h; rfl) | (obtain ⟨_, _, rfl, _⟩ := h; rfl) | (obtain ⟨_, _, _, rfl, _⟩ := h; rfl) | (obtain ⟨_, _, _, _, rfl, _⟩ := h; rfl) | (obtain ⟨_, _, _, _, _, rfl, _⟩ := h; rfl) | (obtain ⟨_, _, _, _, _, _, rfl, _⟩ := h; rfl) | (obtain ⟨_, _, _, _, _, _, _, rfl, _⟩ := h; rfl) | (obtain ⟨_, _, _, _, _, _, _, _, rfl, _⟩ := h; rfl) | (obtain ⟨_, _, _, _, _, _, _, _, _, rfl, _⟩ := h; rfl) | (obtain ⟨_, _, _, _, _, _, _, _, _, _, rfl, _⟩ := h; rfl) | (obtain ⟨_, _, _, _, _, _, _, _, _, _, _, rfl, _⟩ := h; rfl) | (obtain ⟨_, _, _, _, _, _, _, _, _, _, _, _, rfl, _⟩ := h; rfl) | (obtain ⟨_, _, _, _, _, _, _, _, _, _, _, _, _, rfl, _⟩ := h; rfl) | (obtain ⟨_, _, _, _, _, _, _, _, _, _, _, _, _, _, rfl, _⟩ := h; rfl) | (obtain ⟨_, _, _, _, _, _, _, _, _, _, _, _, _, _, _, rfl, _⟩ := h; rfl) | (obtain ⟨_, _, _, _, _, _, _, _, _, _, _, _, _, _, _, _, rfl, _⟩ := h; rfl) | (obtain ⟨_, _, _, _, _, _, _, _, _, _, _, _, _, _, _, _, _, rfl, _⟩ := h; rfl)
  · have hu := hu_of hr

    refine ⟨_, (pss_one (ps_ret (pe_op op_or (pv 0) (pv 1)))), ?_⟩
    obtain ⟨a, b, rfl, ⟨wa, wb⟩, q⟩ := h
    change Q (.int (Builtin.bitOr a b)) H at q
    exact ⟨_, rfl, _, rfl, _, _, rfl, rfl, q⟩
def sp_differing (K : PySem.W.Frag) : Sp := spII fun a b => Builtin.bitXor a b
theorem ok_differing {f : Addr} {fd : FuncData} (F : Fun K "differing" "differing" s_differing f fd) : FnOk P w K mg base CX0 (1) f fd ["a", "b"] (sp_differing K) := by
  refine F.ok sc_differing (fun vs H Q E h => ?_) (fun cdv A outer s H vs Q E hr h => ?_)
  · first | (obtain ⟨rfl, _⟩ := h; rfl) | (obtain ⟨_, rfl, _⟩ := h; rfl) | (obtain ⟨_, _, rfl, _⟩ := h; rfl) | (obtain ⟨_, _, _, rfl, _⟩ := h; rfl) | (obtain ⟨_, _, _, _, rfl, _⟩ := h; rfl) | (obtain ⟨_, _, _, _, _, rfl, _⟩ := h; rfl) | (obtain ⟨_, _, _, _, _, _, rfl, _⟩ := h; rfl) | (obtain ⟨_, _, _, _, _, _, _, rfl, _⟩ := h; rfl) | (obtain ⟨_, _, _, _, _, _, _, _, rfl, _⟩ := h; rfl) | (obtain ⟨_, _, _, _, _, _, _, _, _, rfl, _⟩ := h; rfl) | (obtain ⟨_, _, _, _, _, _, _, _, _, _, rfl, _⟩ := h; rfl) | (obtain ⟨_, _, _, _, _, _, _, _, _, _, _, rfl, _⟩ := h; rfl) | (obtain ⟨_, _, _, _, _, _, _, _, _, _, _, _, rfl, _⟩ := h; rfl) | (obtain ⟨_, _, _, _, _, _, _, _, _, _, _, _, _, rfl, _⟩ := h; rfl) | (obtain ⟨_, _, _, _, _, _, _, _, _, _, _, _, _, _, rfl, _⟩ := h; rfl) | (obtain ⟨_, _, _, _, _, _, _, _, _, _, _, _, _, _, _, rfl, _⟩ := h; rfl) | (obtain ⟨_, _, _, _, _, _, _, _, _, _, _, _, _, _, _, _, rfl, _⟩ := h; rfl) | (obtain ⟨_, _, _, _, _, _, _, _, _, _, _, _, _, _, _, _, _, rfl, _⟩ := h; rfl)
  · have hu := hu_of hr

    refine ⟨_, (pss_one (ps_ret (pe_op op_xor (pv 0) (pv 1)))), ?_⟩
    obtain ⟨a, b, rfl, ⟨wa, wb⟩, q⟩ := h
    change Q (.int (Builtin.bitXor a b)) H at q
    exact ⟨_, rfl, _, rfl, _, _, rfl, rfl, q⟩
def sp_shifted_left (K : PySem.W.Frag) : Sp := spII fun a b => wr (a * 2 ^ (b % 32).toNat)
theorem ok_shifted_left {f : Addr} {fd : FuncData} (F : Fun K "shifted_left" "shifted_left" s_shifted_left f fd) {f_wrap : Addr} {fd_wrap : FuncData} (C_wrap : Callee P w K mg base 1 f_wrap fd_wrap "wrap" ["n"] (sp_wrap K)) : FnOk P w K mg base CX0 (2) f fd ["a", "b"] (sp_shifted_left K) := by
  refine F.ok sc_shifted_left (fun vs H Q E h => ?_) (fun cdv A outer s H vs Q E hr h => ?_)
  · first | (obtain ⟨rfl, _⟩ := h; rfl) | (obtain ⟨_, rfl, _⟩ := h; rfl) | (obtain ⟨_, _, rfl, _⟩ := h; rfl) | (obtain ⟨_, _, _, rfl, _⟩ := h; rfl) | (obtain ⟨_, _, _, _, rfl, _⟩ := h; rfl) | (obtain ⟨_, _, _, _, _, rfl, _⟩ := h; rfl) | (obtain ⟨_, _, _, _, _, _, rfl, _⟩ := h; rfl) | (obtain ⟨_, _, _, _, _, _, _, rfl, _⟩ := h; rfl) | (obtain ⟨_, _, _, _, _, _, _, _, rfl, _⟩ := h; rfl) | (obtain ⟨_, _, _, _, _, _, _, _, _, rfl, _⟩ := h; rfl) | (obtain ⟨_, _, _, _, _, _, _, _, _, _, rfl, _⟩ := h; rfl) | (obtain ⟨_, _, _, _, _, _, _, _, _, _, _, rfl, _⟩ := h; rfl) | (obtain ⟨_, _, _, _, _, _, _, _, _, _, _, _, rfl, _⟩ := h; rfl) | (obtain ⟨_, _, _, _, _, _, _, _, _, _, _, _, _, rfl, _⟩ := h; rfl) | (obtain ⟨_, _, _, _, _, _, _, _, _, _, _, _, _, _, rfl, _⟩ := h; rfl) | (obtain ⟨_, _, _, _, _, _, _, _, _, _, _, _, _, _, _, rfl, _⟩ := h; rfl) | (obtain ⟨_, _, _, _, _, _, _, _, _, _, _, _, _, _, _, _, rfl, _⟩ := h; rfl) | (obtain ⟨_, _, _, _, _, _, _, _, _, _, _, _, _, _, _, _, _, rfl, _⟩ := h; rfl)
  · have hu := hu_of hr

    refine ⟨_, (pss_one (ps_ret (pe_call C_wrap.ok (hr.mono (by omega)) (by rfl) C_wrap.g C_wrap.kp C_wrap.b .nil pass0 (pa_cons (pe_op op_shl (pv 0) (pe_op op_and (pv 1) pe_int)) pa_nil)))), ?_⟩
    obtain ⟨a, b, rfl, ⟨wa, wb⟩, q⟩ := h
    change Q (.int (wr (a * 2 ^ (b % 32).toNat))) H at q
    obtain ⟨w1, w2⟩ := wa
    refine ⟨_, rfl, _, rfl, _, _, rfl, rfl, _, _, rfl, rfl, ?_, _, rfl, ?_⟩
    · show 0 ≤ Builtin.bitAnd b 31 ∧ Builtin.bitAnd b 31 ≤ 1000000 ∧ a.natAbs < 2 ^ 64
      rw [and_31]
      exact ⟨by omega, by omega, by omega⟩
    · show Q (.int (wr (a * 2 ^ (Builtin.bitAnd b 31).toNat))) H
      rw [and_31]; exact q
def sp_shifted_right (K : PySem.W.Frag) : Sp := spII fun a b => a / 2 ^ (b % 32).toNat
theorem ok_shifted_right {f : Addr} {fd : FuncData} (F : Fun K "shifted_right" "shifted_right" s_shifted_right f fd) : FnOk P w K mg base CX0 (1) f fd ["a", "b"] (sp_shifted_right K) := by
  refine F.ok sc_shifted_right (fun vs H Q E h => ?_) (fun cdv A outer s H vs Q E hr h => ?_)
  · first | (obtain ⟨rfl, _⟩ := h; rfl) | (obtain ⟨_, rfl, _⟩ := h; rfl) | (obtain ⟨_, _, rfl, _⟩ := h; rfl) | (obtain ⟨_, _, _, rfl, _⟩ := h; rfl) | (obtain ⟨_, _, _, _, rfl, _⟩ := h; rfl) | (obtain ⟨_, _, _, _, _, rfl, _⟩ := h; rfl) | (obtain ⟨_, _, _, _, _, _, rfl, _⟩ := h; rfl) | (obtain ⟨_, _, _, _, _, _, _, rfl, _⟩ := h; rfl) | (obtain ⟨_, _, _, _, _, _, _, _, rfl, _⟩ := h; rfl) | (obtain ⟨_, _, _, _, _, _, _, _, _, rfl, _⟩ := h; rfl) | (obtain ⟨_, _, _, _, _, _, _, _, _, _, rfl, _⟩ := h; rfl) | (obtain ⟨_, _, _, _, _, _, _, _, _, _, _, rfl, _⟩ := h; rfl) | (obtain ⟨_, _, _, _, _, _, _, _, _, _, _, _, rfl, _⟩ := h; rfl) | (obtain ⟨_, _, _, _, _, _, _, _, _, _, _, _, _, rfl, _⟩ := h; rfl) | (obtain ⟨_, _, _, _, _, _, _, _, _, _, _, _, _, _, rfl, _⟩ := h; rfl) | (obtain ⟨_, _, _, _, _, _, _, _, _, _, _, _, _, _, _, rfl, _⟩ := h; rfl) | (obtain ⟨_, _, _, _, _, _, _, _, _, _, _, _, _, _, _, _, rfl, _⟩ := h; rfl) | (obtain ⟨_, _, _, _, _, _, _, _, _, _, _, _, _, _, _, _, _, rfl, _⟩ := h; rfl)
  · have hu := hu_of hr

    refine ⟨_, (pss_one (ps_ret (pe_op op_shr (pv 0) (pe_op op_and (pv 1) pe_int)))), ?_⟩
    obtain ⟨a, b, rfl, ⟨wa, wb⟩, q⟩ := h
    change Q (.int (a / 2 ^ (b % 32).toNat)) H at q
    refine ⟨_, rfl, _, rfl, _, _, rfl, rfl, _, _, rfl, rfl, ?_, ?_⟩
    · show 0 ≤ Builtin.bitAnd b 31
      rw [and_31]; omega
    · show Q (.int (a / 2 ^ (Builtin.bitAnd b 31).toNat)) H
      rw [and_31]; exact q
def sp_less (K : PySem.W.Frag) : Sp := spII fun a b => if a < b then 1 else 0
theorem ok_less {f : Addr} {fd : FuncData} (F : Fun K "less" "less" s_less f fd) : FnOk P w K mg base CX0 (1) f fd ["a", "b"] (sp_less K) := by
  refine F.ok sc_less (fun vs H Q E h => ?_) (fun cdv A outer s H vs Q E hr h => ?_)
  · first | (obtain ⟨rfl, _⟩ := h; rfl) | (obtain ⟨_, rfl, _⟩ := h; rfl) | (obtain ⟨_, _, rfl, _⟩ := h; rfl) | (obtain ⟨_, _, _, rfl, _⟩ := h; rfl) | (obtain ⟨_, _, _, _, rfl, _⟩ := h; rfl) | (obtain ⟨_, _, _, _, _, rfl, _⟩ := h; rfl) | (obtain ⟨_, _, _, _, _, _, rfl, _⟩ := h; rfl) | (obtain ⟨_, _, _, _, _, _, _, rfl, _⟩ := h; rfl) | (obtain ⟨_, _, _, _, _, _, _, _, rfl, _⟩ := h; rfl) | (obtain ⟨_, _, _, _, _, _, _, _, _, rfl, _⟩ := h; rfl) | (obtain ⟨_, _, _, _, _, _, _, _, _, _, rfl, _⟩ := h; rfl) | (obtain ⟨_, _, _, _, _, _, _, _, _, _, _, rfl, _⟩ := h; rfl) | (obtain ⟨_, _, _, _, _, _, _, _, _, _, _, _, rfl, _⟩ := h; rfl) | (obtain ⟨_, _, _, _, _, _, _, _, _, _, _, _, _, rfl, _⟩ := h; rfl) | (obtain ⟨_, _, _, _, _, _, _, _, _, _, _, _, _, _, rfl, _⟩ := h; rfl) | (obtain ⟨_, _, _, _, _, _, _, _, _, _, _, _, _, _, _, rfl, _⟩ := h; rfl) | (obtain ⟨_, _, _, _, _, _, _, _, _, _, _, _, _, _, _, _, rfl, _⟩ := h; rfl) | (obtain ⟨_, _, _, _, _, _, _, _, _, _, _, _, _, _, _, _, _, rfl, _⟩ := h; rfl)
  · have hu := hu_of hr

    refine ⟨_, (pss_one (ps_ret (pe_ifExp (pt_cmp (pc_lt (pv 0) (pv 1))) pe_int pe_int))), ?_⟩
    obtain ⟨a, b, rfl, ⟨wa, wb⟩, q⟩ := h
    change Q (.int (if a < b then 1 else 0)) H at q
    refine ⟨_, rfl, _, rfl, _, _, rfl, rfl, _, rfl, iteD (fun h1 => ?_) (fun h1 => ?_)⟩
    · rw [if_pos h1] at q; exact q
    · rw [if_neg h1] at q; exact q
def sp_at_most (K : PySem.W.Frag) : Sp := spII fun a b => if a ≤ b then 1 else 0
theorem ok_at_most {f : Addr} {fd : FuncData} (F : Fun K "at_most" "at_most" s_at_most f fd) : FnOk P w K mg base CX0 (1) f fd ["a", "b"] (sp_at_most K) := by
  refine F.ok sc_at_most (fun vs H Q E h => ?_) (fun cdv A outer s H vs Q E hr h => ?_)
  · first | (obtain ⟨rfl, _⟩ := h; rfl) | (obtain ⟨_, rfl, _⟩ := h; rfl) | (obtain ⟨_, _, rfl, _⟩ := h; rfl) | (obtain ⟨_, _, _, rfl, _⟩ := h; rfl) | (obtain ⟨_, _, _, _, rfl, _⟩ := h; rfl) | (obtain ⟨_, _, _, _, _, rfl, _⟩ := h; rfl) | (obtain ⟨_, _, _, _, _, _, rfl, _⟩ := h; rfl) | (obtain ⟨_, _, _, _, _, _, _, rfl, _⟩ := h; rfl) | (obtain ⟨_, _, _, _, _, _, _, _, rfl, _⟩ := h; rfl) | (obtain ⟨_, _, _, _, _, _, _, _, _, rfl, _⟩ := h; rfl) | (obtain ⟨_, _, _, _, _, _, _, _, _, _, rfl, _⟩ := h; rfl) | (obtain ⟨_, _, _, _, _, _, _, _, _, _, _, rfl, _⟩ := h; rfl) | (obtain ⟨_, _, _, _, _, _, _, _, _, _, _, _, rfl, _⟩ := h; rfl) | (obtain ⟨_, _, _, _, _, _, _, _, _, _, _, _, _, rfl, _⟩ := h; rfl) | (obtain ⟨_, _, _, _, _, _, _, _, _, _, _, _, _, _, rfl, _⟩ := h; rfl) | (obtain ⟨_, _, _, _, _, _, _, _, _, _, _, _, _, _, _, rfl, _⟩ := h; rfl) | (obtain ⟨_, _, _, _, _, _, _, _, _, _, _, _, _, _, _, _, rfl, _⟩ := h; rfl) | (obtain ⟨_, _, _, _, _, _, _, _, _, _, _, _, _, _, _, _, _, rfl, _⟩ := h; rfl)
  · have hu := hu_of hr

    refine ⟨_, (pss_one (ps_ret (pe_ifExp (pt_cmp (pc_le (pv 0) (pv 1))) pe_int pe_int))), ?_⟩
    obtain ⟨a, b, rfl, ⟨wa, wb⟩, q⟩ := h
    change Q (.int (if a ≤ b then 1 else 0)) H at q
    refine ⟨_, rfl, _, rfl, _, _, rfl, rfl, _, rfl, iteD (fun h1 => ?_) (fun h1 => ?_)⟩
    · rw [if_pos h1] at q; exact q
    · rw [if_neg h1] at q; exact q
def sp_same (K : PySem.W.Frag) : Sp := spII fun a b => if a = b then 1 else 0
theorem ok_same {f : Addr} {fd : FuncData} (F : Fun K "same" "same" s_same f fd) : FnOk P w K mg base CX0 (1) f fd ["a", "b"] (sp_same K) := by
  refine F.ok sc_same (fun vs H Q E h => ?_) (fun cdv A outer s H vs Q E hr h => ?_)
  · first | (obtain ⟨rfl, _⟩ := h; rfl) | (obtain ⟨_, rfl, _⟩ := h; rfl) | (obtain ⟨_, _, rfl, _⟩ := h; rfl) | (obtain ⟨_, _, _, rfl, _⟩ := h; rfl) | (obtain ⟨_, _, _, _, rfl, _⟩ := h; rfl) | (obtain ⟨_, _, _, _, _, rfl, _⟩ := h; rfl) | (obtain ⟨_, _, _, _, _, _, rfl, _⟩ := h; rfl) | (obtain ⟨_, _, _, _, _, _, _, rfl, _⟩ := h; rfl) | (obtain ⟨_, _, _, _, _, _, _, _, rfl, _⟩ := h; rfl) | (obtain ⟨_, _, _, _, _, _, _, _, _, rfl, _⟩ := h; rfl) | (obtain ⟨_, _, _, _, _, _, _, _, _, _, rfl, _⟩ := h; rfl) | (obtain ⟨_, _, _, _, _, _, _, _, _, _, _, rfl, _⟩ := h; rfl) | (obtain ⟨_, _, _, _, _, _, _, _, _, _, _, _, rfl, _⟩ := h; rfl) | (obtain ⟨_, _, _, _, _, _, _, _, _, _, _, _, _, rfl, _⟩ := h; rfl) | (obtain ⟨_, _, _, _, _, _, _, _, _, _, _, _, _, _, rfl, _⟩ := h; rfl) | (obtain ⟨_, _, _, _, _, _, _, _, _, _, _, _, _, _, _, rfl, _⟩ := h; rfl) | (obtain ⟨_, _, _, _, _, _, _, _, _, _, _, _, _, _, _, _, rfl, _⟩ := h; rfl) | (obtain ⟨_, _, _, _, _, _, _, _, _, _, _, _, _, _, _, _, _, rfl, _⟩ := h; rfl)
  · have hu := hu_of hr

    refine ⟨_, (pss_one (ps_ret (pe_ifExp (pt_cmp (pc_eqI (pv 0) (pv 1))) pe_int pe_int))), ?_⟩
    obtain ⟨a, b, rfl, ⟨wa, wb⟩, q⟩ := h
    change Q (.int (if a = b then 1 else 0)) H at q
    refine ⟨_, rfl, _, rfl, _, _, rfl, rfl, _, rfl, iteD (fun h1 => ?_) (fun h1 => ?_)⟩
    · rw [if_pos h1] at q; exact q
    · rw [if_neg h1] at q; exact q
def sp_other (K : PySem.W.Frag) : Sp := spII fun a b => if a = b then 0 else 1
theorem ok_other {f : Addr} {fd : FuncData} (F : Fun K "other" "other" s_other f fd) : FnOk P w K mg base CX0 (1) f fd ["a", "b"] (sp_other K) := by
  refine F.ok sc_other (fun vs H Q E h => ?_) (fun cdv A outer s H vs Q E hr h => ?_)
  · first | (obtain ⟨rfl, _⟩ := h; rfl) | (obtain ⟨_, rfl, _⟩ := h; rfl) | (obtain ⟨_, _, rfl, _⟩ := h; rfl) | (obtain ⟨_, _, _, rfl, _⟩ := h; rfl) | (obtain ⟨_, _, _, _, rfl, _⟩ := h; rfl) | (obtain ⟨_, _, _, _, _, rfl, _⟩ := h; rfl) | (obtain ⟨_, _, _, _, _, _, rfl, _⟩ := h; rfl) | (obtain ⟨_, _, _, _, _, _, _, rfl, _⟩ := h; rfl) | (obtain ⟨_, _, _, _, _, _, _, _, rfl, _⟩ := h; rfl) | (obtain ⟨_, _, _, _, _, _, _, _, _, rfl, _⟩ := h; rfl) | (obtain ⟨_, _, _, _, _, _, _, _, _, _, rfl, _⟩ := h; rfl) | (obtain ⟨_, _, _, _, _, _, _, _, _, _, _, rfl, _⟩ := h; rfl) | (obtain ⟨_, _, _, _, _, _, _, _, _, _, _, _, rfl, _⟩ := h; rfl) | (obtain ⟨_, _, _, _, _, _, _, _, _, _, _, _, _, rfl, _⟩ := h; rfl) | (obtain ⟨_, _, _, _, _, _, _, _, _, _, _, _, _, _, rfl, _⟩ := h; rfl) | (obtain ⟨_, _, _, _, _, _, _, _, _, _, _, _, _, _, _, rfl, _⟩ := h; rfl) | (obtain ⟨_, _, _, _, _, _, _, _, _, _, _, _, _, _, _, _, rfl, _⟩ := h; rfl) | (obtain ⟨_, _, _, _, _, _, _, _, _, _, _, _, _, _, _, _, _, rfl, _⟩ := h; rfl)
  · have hu := hu_of hr

    refine ⟨_, (pss_one (ps_ret (pe_ifExp (pt_cmp (pc_neI (pv 0) (pv 1))) pe_int pe_int))), ?_⟩
    obtain ⟨a, b, rfl, ⟨wa, wb⟩, q⟩ := h
    change Q (.int (if a = b then 0 else 1)) H at q
    refine ⟨_, rfl, _, rfl, _, _, rfl, rfl, _, rfl, iteDn (fun h1 => ?_) (fun h1 => ?_)⟩
    · rw [if_neg h1] at q; exact q
    · rw [if_pos h1] at q; exact q
def sp_cut_off (K : PySem.W.Frag) : Sp := fun vs H Q _ => ∃ a b : Int, vs = [.int a, .int b] ∧ (wd b ∧ b ≠ 0) ∧ Q (.int (cut a b)) H
theorem ok_cut_off {f : Addr} {fd : FuncData} (F : Fun K "cut_off" "cut_off" s_cut_off f fd) (b_abs : mg "abs" = none) : FnOk P w K mg base CX0 (1) f fd ["a", "b"] (sp_cut_off K) := by
  refine F.ok sc_cut_off (fun vs H Q E h => ?_) (fun cdv A outer s H vs Q E hr h => ?_)
  · first | (obtain ⟨rfl, _⟩ := h; rfl) | (obtain ⟨_, rfl, _⟩ := h; rfl) | (obtain ⟨_, _, rfl, _⟩ := h; rfl) | (obtain ⟨_, _, _, rfl, _⟩ := h; rfl) | (obtain ⟨_, _, _, _, rfl, _⟩ := h; rfl) | (obtain ⟨_, _, _, _, _, rfl, _⟩ := h; rfl) | (obtain ⟨_, _, _, _, _, _, rfl, _⟩ := h; rfl) | (obtain ⟨_, _, _, _, _, _, _, rfl, _⟩ := h; rfl) | (obtain ⟨_, _, _, _, _, _, _, _, rfl, _⟩ := h; rfl) | (obtain ⟨_, _, _, _, _, _, _, _, _, rfl, _⟩ := h; rfl) | (obtain ⟨_, _, _, _, _, _, _, _, _, _, rfl, _⟩ := h; rfl) | (obtain ⟨_, _, _, _, _, _, _, _, _, _, _, rfl, _⟩ := h; rfl) | (obtain ⟨_, _, _, _, _, _, _, _, _, _, _, _, rfl, _⟩ := h; rfl) | (obtain ⟨_, _, _, _, _, _, _, _, _, _, _, _, _, rfl, _⟩ := h; rfl) | (obtain ⟨_, _, _, _, _, _, _, _, _, _, _, _, _, _, rfl, _⟩ := h; rfl) | (obtain ⟨_, _, _, _, _, _, _, _, _, _, _, _, _, _, _, rfl, _⟩ := h; rfl) | (obtain ⟨_, _, _, _, _, _, _, _, _, _, _, _, _, _, _, _, rfl, _⟩ := h; rfl) | (obtain ⟨_, _, _, _, _, _, _, _, _, _, _, _, _, _, _, _, _, rfl, _⟩ := h; rfl)
  · have hu := hu_of hr

    refine ⟨_, (pss_cons (ps_set (i := 2) sc_cut_off.nd rfl (.inl rfl) (pe_op op_fdivW (pe_callB (call_abs) (by rfl) b_abs (by decide +kernel) (pa_cons (pv 0) pa_nil)) (pe_callB (call_abs) (by rfl) b_abs (by decide +kernel) (pa_cons (pv 1) pa_nil))))
      (pss_one (ps_ret (pe_ifExp (pt_cmpR op_eq (pe_cmp (pc_lt (pv 0) pe_int)) (pe_cmp (pc_lt (pv 1) pe_int)) (nomark _)) (pv 2) (pe_un un_neg (pv 2)))))), ?_⟩
    obtain ⟨a, b, rfl, ⟨⟨w1, w2⟩, b0⟩, q⟩ := h
    refine ⟨_, rfl, _, rfl, _, rfl, _, rfl, _, _, rfl, rfl, divW ?_ ?_, ?_⟩
    · split <;> omega
    · split <;> omega
    refine ⟨_, rfl, _, _, rfl, rfl, _, rfl, _, _, rfl, rfl, rfl, _, rfl, iteD (fun h1 => ?_) (fun h1 => ?_)⟩
    · refine ⟨_, rfl, ?_⟩
      have e := V.bl.inj h1
      unfold cut at q
      rw [if_pos e] at q
      exact q
    · refine ⟨_, rfl, _, rfl, ?_⟩
      have e : ¬ decide (a < 0) = decide (b < 0) := fun z => h1 (congrArg V.bl z)
      unfold cut at q
      rw [if_neg e] at q
      exact q
def sp_quotient (K : PySem.W.Frag) : Sp := spII fun a b => if b = 0 then -1 else wr (cut a b)
theorem ok_quotient {f : Addr} {fd : FuncData} (F : Fun K "quotient" "quotient" s_quotient f fd) {f_wrap : Addr} {fd_wrap : FuncData} (C_wrap : Callee P w K mg base 1 f_wrap fd_wrap "wrap" ["n"] (sp_wrap K)) {f_cut_off : Addr} {fd_cut_off : FuncData} (C_cut_off : Callee P w K mg base 1 f_cut_off fd_cut_off "cut_off" ["a", "b"] (sp_cut_off K)) : FnOk P w K mg base CX0 (2) f fd ["a", "b"] (sp_quotient K) := by
  refine F.ok sc_quotient (fun vs H Q E h => ?_) (fun cdv A outer s H vs Q E hr h => ?_)
  · first | (obtain ⟨rfl, _⟩ := h; rfl) | (obtain ⟨_, rfl, _⟩ := h; rfl) | (obtain ⟨_, _, rfl, _⟩ := h; rfl) | (obtain ⟨_, _, _, rfl, _⟩ := h; rfl) | (obtain ⟨_, _, _, _, rfl, _⟩ := h; rfl) | (obtain ⟨_, _, _, _, _, rfl, _⟩ := h; rfl) | (obtain ⟨_, _, _, _, _, _, rfl, _⟩ := h; rfl) | (obtain ⟨_, _, _, _, _, _, _, rfl, _⟩ := h; rfl) | (obtain ⟨_, _, _, _, _, _, _, _, rfl, _⟩ := h; rfl) | (obtain ⟨_, _, _, _, _, _, _, _, _, rfl, _⟩ := h; rfl) | (obtain ⟨_, _, _, _, _, _, _, _, _, _, rfl, _⟩ := h; rfl) | (obtain ⟨_, _, _, _, _, _, _, _, _, _, _, rfl, _⟩ := h; rfl) | (obtain ⟨_, _, _, _, _, _, _, _, _, _, _, _, rfl, _⟩ := h; rfl) | (obtain ⟨_, _, _, _, _, _, _, _, _, _, _, _, _, rfl, _⟩ := h; rfl) | (obtain ⟨_, _, _, _, _, _, _, _, _, _, _, _, _, _, rfl, _⟩ := h; rfl) | (obtain ⟨_, _, _, _, _, _, _, _, _, _, _, _, _, _, _, rfl, _⟩ := h; rfl) | (obtain ⟨_, _, _, _, _, _, _, _, _, _, _, _, _, _, _, _, rfl, _⟩ := h; rfl) | (obtain ⟨_, _, _, _, _, _, _, _, _, _, _, _, _, _, _, _, _, rfl, _⟩ := h; rfl)
  · have hu := hu_of hr

    refine ⟨_, (pss_one (ps_ret (pe_ifExp (pt_cmp (pc_eqI (pv 1) pe_int)) (pe_un un_neg pe_int) (pe_call C_wrap.ok (hr.mono (by omega)) (by rfl) C_wrap.g C_wrap.kp C_wrap.b .nil pass0 (pa_cons (pe_call C_cut_off.ok (hr.mono (by omega)) (by rfl) C_cut_off.g C_cut_off.kp C_cut_off.b .nil pass0 (pa_cons (pv 0) (pa_cons (pv 1) pa_nil))) pa_nil))))), ?_⟩
    obtain ⟨a, b, rfl, ⟨wa, wb⟩, q⟩ := h
    change Q (.int (if b = 0 then -1 else wr (cut a b))) H at q
    refine ⟨_, rfl, _, _, rfl, rfl, _, rfl, iteD (fun h1 => ?_) (fun h1 => ?_)⟩
    · rw [if_pos h1] at q
      exact ⟨_, rfl, q⟩
    · rw [if_neg h1] at q
      exact ⟨_, rfl, _, rfl, _, _, rfl, ⟨wb, h1⟩, _, rfl, q⟩
def sp_remainder (K : PySem.W.Frag) : Sp := spII fun a b => if b = 0 then a else a - b * cut a b
theorem ok_remainder {f : Addr} {fd : FuncData} (F : Fun K "remainder" "remainder" s_remainder f fd) {f_cut_off : Addr} {fd_cut_off : FuncData} (C_cut_off : Callee P w K mg base 1 f_cut_off fd_cut_off "cut_off" ["a", "b"] (sp_cut_off K)) : FnOk P w K mg base CX0 (2) f fd ["a", "b"] (sp_remainder K) := by
  refine F.ok sc_remainder (fun vs H Q E h => ?_) (fun cdv A outer s H vs Q E hr h => ?_)
  · first | (obtain ⟨rfl, _⟩ := h; rfl) | (obtain ⟨_, rfl, _⟩ := h; rfl) | (obtain ⟨_, _, rfl, _⟩ := h; rfl) | (obtain ⟨_, _, _, rfl, _⟩ := h; rfl) | (obtain ⟨_, _, _, _, rfl, _⟩ := h; rfl) | (obtain ⟨_, _, _, _, _, rfl, _⟩ := h; rfl) | (obtain ⟨_, _, _, _, _, _, rfl, _⟩ := h; rfl) | (obtain ⟨_, _, _, _, _, _, _, rfl, _⟩ := h; rfl) | (obtain ⟨_, _, _, _, _, _, _, _, rfl, _⟩ := h; rfl) | (obtain ⟨_, _, _, _, _, _, _, _, _, rfl, _⟩ := h; rfl) | (obtain ⟨_, _, _, _, _, _, _, _, _, _, rfl, _⟩ := h; rfl) | (obtain ⟨_, _, _, _, _, _, _, _, _, _, _, rfl, _⟩ := h; rfl) | (obtain ⟨_, _, _, _, _, _, _, _, _, _, _, _, rfl, _⟩ := h; rfl) | (obtain ⟨_, _, _, _, _, _, _, _, _, _, _, _, _, rfl, _⟩ := h; rfl) | (obtain ⟨_, _, _, _, _, _, _, _, _, _, _, _, _, _, rfl, _⟩ := h; rfl) | (obtain ⟨_, _, _, _, _, _, _, _, _, _, _, _, _, _, _, rfl, _⟩ := h; rfl) | (obtain ⟨_, _, _, _, _, _, _, _, _, _, _, _, _, _, _, _, rfl, _⟩ := h; rfl) | (obtain ⟨_, _, _, _, _, _, _, _, _, _, _, _, _, _, _, _, _, rfl, _⟩ := h; rfl)
  · have hu := hu_of hr

    refine ⟨_, (pss_one (ps_ret (pe_ifExp (pt_cmp (pc_eqI (pv 1) pe_int)) (pv 0) (pe_op op_sub (pv 0) (pe_op op_mul (pv 1) (pe_call C_cut_off.ok (hr.mono (by omega)) (by rfl) C_cut_off.g C_cut_off.kp C_cut_off.b .nil pass0 (pa_cons (pv 0) (pa_cons (pv 1) pa_nil)))))))), ?_⟩
    obtain ⟨a, b, rfl, ⟨wa, wb⟩, q⟩ := h
    change Q (.int (if b = 0 then a else a - b * cut a b)) H at q
    refine ⟨_, rfl, _, _, rfl, rfl, _, rfl, iteD (fun h1 => ?_) (fun h1 => ?_)⟩
    · rw [if_pos h1] at q
      exact ⟨_, rfl, q⟩
    · rw [if_neg h1] at q
      obtain ⟨w1, w2⟩ := id wb
      exact ⟨_, rfl, _, rfl, _, rfl, _, rfl, _, _, rfl, ⟨wb, h1⟩, _, _, rfl, rfl, .inl ⟨by omega, by omega⟩, _, _, rfl, rfl, q⟩
/-- d[name] of a written dict of the module -/
theorem ix_kd {X : Cx} {d : Addr} {es : Array DictEntry} {n : Nat} (D : KDict X.K X.w d es n) : IxR X (fun x y H Q => ∃ (z : Str) (u0 : Value) (v0 : V), x = .ref d ∧ y = .str z ∧ PySem.W.nsIn X.K d z = some (some u0) ∧ RelV v0 u0 ∧ Q v0 H) := by
  intro value slice pins s σ H x y v u Q I rx ry h hs
  obtain ⟨z, u0, v0, rfl, rfl, e, r, q⟩ := h
  cases rx
  obtain ⟨t, rfl⟩ := ry
  exact tail_any (kd_type D I) PySem.F.slot_dict_getitem.lookup (wpAny_getItem_of (PySem.strKind_is X.prog X.w z t) (PySem.W.mapOf_K (prog := X.prog) I.kIn D.at_ D.lit) (PySem.W.find_K D.at_ e) ⟨v0, H, I.tok _, r, q⟩) hs
def sp_result (K : PySem.W.Frag) : Sp := fun vs H Q _ => ∃ (nm : Str) (a b r : Int), vs = [.str nm, .int a, .int b] ∧ wd a ∧ wd b ∧ Res nm a b r ∧ Q (.int r) H
theorem ok_result {f : Addr} {fd : FuncData} (F : Fun K "result" "result" s_result f fd) {f_plus : Addr} {fd_plus : FuncData} (C_plus : Callee P w K mg base 2 f_plus fd_plus "plus" ["a", "b"] (sp_plus K)) {f_minus : Addr} {fd_minus : FuncData} (C_minus : Callee P w K mg base 2 f_minus fd_minus "minus" ["a", "b"] (sp_minus K)) {f_times : Addr} {fd_times : FuncData} (C_times : Callee P w K mg base 2 f_times fd_times "times" ["a", "b"] (sp_times K)) {f_both : Addr} {fd_both : FuncData} (C_both : Callee P w K mg base 1 f_both fd_both "both" ["a", "b"] (sp_both K)) {f_either : Addr} {fd_either : FuncData} (C_either : Callee P w K mg base 1 f_either fd_either "either" ["a", "b"] (sp_either K)) {f_differing : Addr} {fd_differing : FuncData} (C_differing : Callee P w K mg base 1 f_differing fd_differing "differing" ["a", "b"] (sp_differing K)) {f_shifted_left : Addr} {fd_shifted_left : FuncData} (C_shifted_left : Callee P w K mg base 2 f_shifted_left fd_shifted_left "shifted_left" ["a", "b"] (sp_shifted_left K)) {f_shifted_right : Addr} {fd_shifted_right : FuncData} (C_shifted_right : Callee P w K mg base 1 f_shifted_right fd_shifted_right "shifted_right" ["a", "b"] (sp_shifted_right K)) {f_less : Addr} {fd_less : FuncData} (C_less : Callee P w K mg base 1 f_less fd_less "less" ["a", "b"] (sp_less K)) {f_at_most : Addr} {fd_at_most : FuncData} (C_at_most : Callee P w K mg base 1 f_at_most fd_at_most "at_most" ["a", "b"] (sp_at_most K)) {f_same : Addr} {fd_same : FuncData} (C_same : Callee P w K mg base 1 f_same fd_same "same" ["a", "b"] (sp_same K)) {f_other : Addr} {fd_other : FuncData} (C_other : Callee P w K mg base 1 f_other fd_other "other" ["a", "b"] (sp_other K)) {f_quotient : Addr} {fd_quotient : FuncData} (C_quotient : Callee P w K mg base 2 f_quotient fd_quotient "quotient" ["a", "b"] (sp_quotient K)) {f_remainder : Addr} {fd_remainder : FuncData} (C_remainder : Callee P w K mg base 2 f_remainder fd_remainder "remainder" ["a", "b"] (sp_remainder K)) {dA : Addr} {es : Array DictEntry} {nA : Nat} (D : KDict K w dA es nA) (g_ACTIONS : mg "ACTIONS" = some (.ref dA)) (e_add : PySem.W.nsIn K dA "add" = some (some (.ref f_plus))) (e_sub : PySem.W.nsIn K dA "sub" = some (some (.ref f_minus))) (e_mul : PySem.W.nsIn K dA "mul" = some (some (.ref f_times))) (e_and : PySem.W.nsIn K dA "and" = some (some (.ref f_both))) (e_or : PySem.W.nsIn K dA "or" = some (some (.ref f_either))) (e_xor : PySem.W.nsIn K dA "xor" = some (some (.ref f_differing))) (e_shl : PySem.W.nsIn K dA "shl" = some (some (.ref f_shifted_left))) (e_sar : PySem.W.nsIn K dA "sar" = some (some (.ref f_shifted_right))) (e_lt : PySem.W.nsIn K dA "lt" = some (some (.ref f_less))) (e_le : PySem.W.nsIn K dA "le" = some (some (.ref f_at_most))) (e_eq : PySem.W.nsIn K dA "eq" = some (some (.ref f_same))) (e_ne : PySem.W.nsIn K dA "ne" = some (some (.ref f_other))) (e_quo : PySem.W.nsIn K dA "quo" = some (some (.ref f_quotient))) (e_mod : PySem.W.nsIn K dA "mod" = some (some (.ref f_remainder))) : FnOk P w K mg base CX0 (3) f fd ["name", "a", "b"] (sp_result K) := by
  refine F.ok sc_result (fun vs H Q E h => ?_) (fun cdv A outer s H vs Q E hr h => ?_)
  · first | (obtain ⟨rfl, _⟩ := h; rfl) | (obtain ⟨_, rfl, _⟩ := h; rfl) | (obtain ⟨_, _, rfl, _⟩ := h; rfl) | (obtain ⟨_, _, _, rfl, _⟩ := h; rfl) | (obtain ⟨_, _, _, _, rfl, _⟩ := h; rfl) | (obtain ⟨_, _, _, _, _, rfl, _⟩ := h; rfl) | (obtain ⟨_, _, _, _, _, _, rfl, _⟩ := h; rfl) | (obtain ⟨_, _, _, _, _, _, _, rfl, _⟩ := h; rfl) | (obtain ⟨_, _, _, _, _, _, _, _, rfl, _⟩ := h; rfl) | (obtain ⟨_, _, _, _, _, _, _, _, _, rfl, _⟩ := h; rfl) | (obtain ⟨_, _, _, _, _, _, _, _, _, _, rfl, _⟩ := h; rfl) | (obtain ⟨_, _, _, _, _, _, _, _, _, _, _, rfl, _⟩ := h; rfl) | (obtain ⟨_, _, _, _, _, _, _, _, _, _, _, _, rfl, _⟩ := h; rfl) | (obtain ⟨_, _, _, _, _, _, _, _, _, _, _, _, _, rfl, _⟩ := h; rfl) | (obtain ⟨_, _, _, _, _, _, _, _, _, _, _, _, _, _, rfl, _⟩ := h; rfl) | (obtain ⟨_, _, _, _, _, _, _, _, _, _, _, _, _, _, _, rfl, _⟩ := h; rfl) | (obtain ⟨_, _, _, _, _, _, _, _, _, _, _, _, _, _, _, _, rfl, _⟩ := h; rfl) | (obtain ⟨_, _, _, _, _, _, _, _, _, _, _, _, _, _, _, _, _, rfl, _⟩ := h; rfl)
  · have hu := hu_of hr
    obtain ⟨nm, a, b, r, rfl, wa, wb, hR, q⟩ := h
    obtain ⟨f0, fd0, ps0, sp0, F0, k0, b0, e0, hs⟩ : ∃ (f0 : Addr) (fd0 : FuncData) (ps0 : List Str) (sp0 : Sp), FnOk P w K mg base CX0 2 f0 fd0 ps0 sp0 ∧ PySem.W.keepIn K (.ref f0) = true ∧ Binds K fd0 ps0 [] ∧ PySem.W.nsIn K dA nm = some (some (.ref f0)) ∧ sp0 ([.int a, .int b] ++ []) H Q E0 := by
      cases hR with
      | add => exact ⟨_, _, _, _, C_plus.ok.mono (by decide), C_plus.kp, C_plus.b, e_add, _, _, rfl, ⟨wa, wb⟩, q⟩
      | sub => exact ⟨_, _, _, _, C_minus.ok.mono (by decide), C_minus.kp, C_minus.b, e_sub, _, _, rfl, ⟨wa, wb⟩, q⟩
      | mul => exact ⟨_, _, _, _, C_times.ok.mono (by decide), C_times.kp, C_times.b, e_mul, _, _, rfl, ⟨wa, wb⟩, q⟩
      | and' => exact ⟨_, _, _, _, C_both.ok.mono (by decide), C_both.kp, C_both.b, e_and, _, _, rfl, ⟨wa, wb⟩, q⟩
      | or' => exact ⟨_, _, _, _, C_either.ok.mono (by decide), C_either.kp, C_either.b, e_or, _, _, rfl, ⟨wa, wb⟩, q⟩
      | xor' => exact ⟨_, _, _, _, C_differing.ok.mono (by decide), C_differing.kp, C_differing.b, e_xor, _, _, rfl, ⟨wa, wb⟩, q⟩
      | shl => exact ⟨_, _, _, _, C_shifted_left.ok.mono (by decide), C_shifted_left.kp, C_shifted_left.b, e_shl, _, _, rfl, ⟨wa, wb⟩, q⟩
      | sar => exact ⟨_, _, _, _, C_shifted_right.ok.mono (by decide), C_shifted_right.kp, C_shifted_right.b, e_sar, _, _, rfl, ⟨wa, wb⟩, q⟩
      | lt => exact ⟨_, _, _, _, C_less.ok.mono (by decide), C_less.kp, C_less.b, e_lt, _, _, rfl, ⟨wa, wb⟩, q⟩
      | le => exact ⟨_, _, _, _, C_at_most.ok.mono (by decide), C_at_most.kp, C_at_most.b, e_le, _, _, rfl, ⟨wa, wb⟩, q⟩
      | eq => exact ⟨_, _, _, _, C_same.ok.mono (by decide), C_same.kp, C_same.b, e_eq, _, _, rfl, ⟨wa, wb⟩, q⟩
      | ne => exact ⟨_, _, _, _, C_other.ok.mono (by decide), C_other.kp, C_other.b, e_ne, _, _, rfl, ⟨wa, wb⟩, q⟩
      | quo => exact ⟨_, _, _, _, C_quotient.ok.mono (by decide), C_quotient.kp, C_quotient.b, e_quo, _, _, rfl, ⟨wa, wb⟩, q⟩
      | mod' => exact ⟨_, _, _, _, C_remainder.ok.mono (by decide), C_remainder.kp, C_remainder.b, e_mod, _, _, rfl, ⟨wa, wb⟩, q⟩
    refine ⟨_, (pss_cons (ps_set (i := 3) sc_result.nd rfl (.inl rfl) (pe_ix (ix_kd D) (pe_glob (v := (.ref dA)) (by rfl) g_ACTIONS rfl) (pv 0) (fun _ _ => rfl)))
      (pss_one (ps_ret (pe_callL (i := 3) F0 (hr.mono (by decide)) rfl (.inl rfl) k0 b0 .nil pass0 (pa_cons (pv 1) (pa_cons (pv 2) pa_nil)))))), ?_⟩
    refine ⟨_, rfl, _, _, V.ref f0, rfl, rfl, e0, rfl, ?_⟩
    exact ⟨rfl, _, rfl, _, rfl, hs⟩

def sp__law_pool (K : PySem.W.Frag) : Sp := fun vs H Q _ => ∃ (a : Addr) (ns : List Int), vs = [.ref a] ∧ SqL K H a (ns.map V.int) ∧ ns.length ≤ 63 ∧ ∀ H' p, Same H H' → H p = none → Pool H' p → Q (.ref p) H'
theorem ok__law_pool {f : Addr} {fd : FuncData} (F : Fun K "_law_pool" "_law_pool" s__law_pool f fd) (b_list : mg "list" = none) : FnOk P w K mg base CX0 (1) f fd ["script"] (sp__law_pool K) := by
  refine F.ok sc__law_pool (fun vs H Q E h => ?_) (fun cdv A outer s H vs Q E hr h => ?_)
  · first | (obtain ⟨rfl, _⟩ := h; rfl) | (obtain ⟨_, rfl, _⟩ := h; rfl) | (obtain ⟨_, _, rfl, _⟩ := h; rfl) | (obtain ⟨_, _, _, rfl, _⟩ := h; rfl) | (obtain ⟨_, _, _, _, rfl, _⟩ := h; rfl) | (obtain ⟨_, _, _, _, _, rfl, _⟩ := h; rfl) | (obtain ⟨_, _, _, _, _, _, rfl, _⟩ := h; rfl) | (obtain ⟨_, _, _, _, _, _, _, rfl, _⟩ := h; rfl) | (obtain ⟨_, _, _, _, _, _, _, _, rfl, _⟩ := h; rfl) | (obtain ⟨_, _, _, _, _, _, _, _, _, rfl, _⟩ := h; rfl) | (obtain ⟨_, _, _, _, _, _, _, _, _, _, rfl, _⟩ := h; rfl) | (obtain ⟨_, _, _, _, _, _, _, _, _, _, _, rfl, _⟩ := h; rfl) | (obtain ⟨_, _, _, _, _, _, _, _, _, _, _, _, rfl, _⟩ := h; rfl) | (obtain ⟨_, _, _, _, _, _, _, _, _, _, _, _, _, rfl, _⟩ := h; rfl) | (obtain ⟨_, _, _, _, _, _, _, _, _, _, _, _, _, _, rfl, _⟩ := h; rfl) | (obtain ⟨_, _, _, _, _, _, _, _, _, _, _, _, _, _, _, rfl, _⟩ := h; rfl) | (obtain ⟨_, _, _, _, _, _, _, _, _, _, _, _, _, _, _, _, rfl, _⟩ := h; rfl) | (obtain ⟨_, _, _, _, _, _, _, _, _, _, _, _, _, _, _, _, _, rfl, _⟩ := h; rfl)
  · have hu := hu_of hr

    refine ⟨_, (pss_one (ps_ret (pe_lst (pa_cons (pe_callTy (call_list_of) (by rfl) b_list (by decide +kernel) (pa_cons (pe_slice sl_list (pv 0) po_none (po_some pe_int)) pa_nil)) (pa_cons pe_int (pa_cons pe_int (pa_cons pe_int pa_nil))))))), ?_⟩
    obtain ⟨a, ns, rfl, hS, hl, q⟩ := h
    refine ⟨_, rfl, _, rfl, _, _, rfl, hS, fun p1 np1 => ?_⟩
    refine ⟨_, _, rfl, .inl (.inl (.inl upd_same)), fun p2 np2 => ?_⟩
    refine ⟨(by show (4 : Nat) ≤ sizeLine; decide), fun p3 np3 => ?_⟩
    have S1 := same_upd (o := .lst (cutV (ns.map V.int) none (some 63))) np1
    have S2 := S1.trans (same_upd (o := .lst (cutV (ns.map V.int) none (some 63))) np2)
    have S3 := S2.trans (same_upd (o := .lst [V.ref p2, V.int 0, V.int 0, V.int 11]) np3)
    have n32 : p2 ≠ p3 := ne_of_none upd_same np3
    refine q _ p3 S3 (S2.free np3) ⟨p2, (ns.drop (HT.sIx (ns.map V.int).length 0 none)).take (HT.sIx (ns.map V.int).length (ns.map V.int).length (some 63) - HT.sIx (ns.map V.int).length 0 none), 0, 0, 11, Ne.symm n32, upd_same, ?_, by decide, ?_, by decide, by decide⟩
    · rw [upd_ne n32, upd_same, List.map_take, List.map_drop]; rfl
    · rw [List.length_take, List.length_drop]; omega
def sp__law_draw (K : PySem.W.Frag) : Sp := fun vs H Q _ => ∃ (p : Addr) (many : Int), vs = [.ref p, .int many] ∧ 0 < many ∧ many < 1000000000000000000000000000000 ∧ Pool H p ∧ ∀ H' r, But p H H' → Pool H' p → 0 ≤ r → r < many → Q (.int r) H'
theorem ok__law_draw {f : Addr} {fd : FuncData} (F : Fun K "_law_draw" "_law_draw" s__law_draw f fd) (b_len : mg "len" = none) (b_abs : mg "abs" = none) (b_int : mg "int" = none) : FnOk P w K mg base CX0 (1) f fd ["pool", "many"] (sp__law_draw K) := by
  refine F.ok sc__law_draw (fun vs H Q E h => ?_) (fun cdv A outer s H vs Q E hr h => ?_)
  · first | (obtain ⟨rfl, _⟩ := h; rfl) | (obtain ⟨_, rfl, _⟩ := h; rfl) | (obtain ⟨_, _, rfl, _⟩ := h; rfl) | (obtain ⟨_, _, _, rfl, _⟩ := h; rfl) | (obtain ⟨_, _, _, _, rfl, _⟩ := h; rfl) | (obtain ⟨_, _, _, _, _, rfl, _⟩ := h; rfl) | (obtain ⟨_, _, _, _, _, _, rfl, _⟩ := h; rfl) | (obtain ⟨_, _, _, _, _, _, _, rfl, _⟩ := h; rfl) | (obtain ⟨_, _, _, _, _, _, _, _, rfl, _⟩ := h; rfl) | (obtain ⟨_, _, _, _, _, _, _, _, _, rfl, _⟩ := h; rfl) | (obtain ⟨_, _, _, _, _, _, _, _, _, _, rfl, _⟩ := h; rfl) | (obtain ⟨_, _, _, _, _, _, _, _, _, _, _, rfl, _⟩ := h; rfl) | (obtain ⟨_, _, _, _, _, _, _, _, _, _, _, _, rfl, _⟩ := h; rfl) | (obtain ⟨_, _, _, _, _, _, _, _, _, _, _, _, _, rfl, _⟩ := h; rfl) | (obtain ⟨_, _, _, _, _, _, _, _, _, _, _, _, _, _, rfl, _⟩ := h; rfl) | (obtain ⟨_, _, _, _, _, _, _, _, _, _, _, _, _, _, _, rfl, _⟩ := h; rfl) | (obtain ⟨_, _, _, _, _, _, _, _, _, _, _, _, _, _, _, _, rfl, _⟩ := h; rfl) | (obtain ⟨_, _, _, _, _, _, _, _, _, _, _, _, _, _, _, _, _, rfl, _⟩ := h; rfl)
  · have hu := hu_of hr

    refine ⟨_, (pss_cons (ps_while PassesOwn.never (PW.pt (pw_and (pt_cmp (pc_eqI (pe_ix ix_list (pv 0) pe_int (fun _ _ => rfl)) pe_int)) (pw_and1 (pt_cmp (pc_lt (pe_ix ix_list (pv 0) pe_int (fun _ _ => rfl)) (pe_callB (call_len_seq) (by rfl) b_len (by decide +kernel) (pa_cons (pe_ix ix_list (pv 0) pe_int (fun _ _ => rfl)) pa_nil))))))) (pss_cons (ps_asg (pe_callB (call_abs) (by rfl) b_abs (by decide +kernel) (pa_cons (pe_ix ix_list (pe_ix ix_list (pv 0) pe_int (fun _ _ => rfl)) (pe_ix ix_list (pv 0) pe_int (fun _ _ => rfl)) (fun _ _ => rfl)) pa_nil)) (pg_sub (pv 0) pe_int set_list))
      (pss_one (ps_asg (pe_op op_add (pe_ix ix_list (pv 0) pe_int (fun _ _ => rfl)) pe_int) (pg_sub (pv 0) pe_int set_list)))))
      (pss_cons (ps_if (pt_cmp (pc_eqI (pe_ix ix_list (pv 0) pe_int (fun _ _ => rfl)) pe_int)) (pss_cons (ps_asg (pe_op op_add (pe_ix ix_list (pv 0) pe_int (fun _ _ => rfl)) pe_int) (pg_sub (pv 0) pe_int set_list))
      (pss_one (ps_ret (pe_op op_mod (pe_callTy (call_int1) (by rfl) b_int (by decide +kernel) (pa_cons (pe_op op_fdiv (pe_ix ix_list (pv 0) pe_int (fun _ _ => rfl)) pe_int) pa_nil)) (pv 1))))) pss_nil)
      (pss_cons (ps_set (i := 2) sc__law_draw.nd rfl (.inl rfl) (pe_op op_mod (pe_callTy (call_int1) (by rfl) b_int (by decide +kernel) (pa_cons (pe_ix ix_list (pv 0) pe_int (fun _ _ => rfl)) pa_nil)) (pv 1)))
      (pss_cons (ps_asg (pe_op op_fdivW (pe_callTy (call_int1) (by rfl) b_int (by decide +kernel) (pa_cons (pe_ix ix_list (pv 0) pe_int (fun _ _ => rfl)) pa_nil)) (pv 1)) (pg_sub (pv 0) pe_int set_list))
      (pss_one (ps_ret (pv 2))))))), ?_⟩
    obtain ⟨p, many, rfl, m0, m1, ⟨q, ns, i0, d0, c0, npq, hp, hq, hi, hn, hd, hc⟩, k⟩ := h
    refine ⟨fun m σ H1 => ∃ i d c, σ = [some (.ref p), some (.int many), none] ∧ H1 p = some (.lst [.ref q, .int i, .int d, .int c]) ∧ But p H H1 ∧ 0 ≤ i ∧ 0 ≤ d ∧ 0 ≤ c ∧ m = ns.length - i.toNat, ⟨_, i0, d0, c0, rfl, hp, fun _ _ e _ => e, hi, hd, hc, rfl⟩, ?_⟩
    rintro m σ H1 ⟨i, d, c, rfl, hp1, bt, hi1, hd1, hc1, rfl⟩
    have hq1 : H1 q = some (.lst (ns.map V.int)) := bt _ _ hq (Ne.symm npq)
    have hpL : SqL K H1 p [.ref q, .int i, .int d, .int c] := .inl (.inl hp1)
    have hqL : SqL K H1 q (ns.map V.int) := .inl (.inl hq1)
    have A0 : atI [V.ref q, .int i, .int d, .int c] 0 = some (.ref q) := rfl
    have A1 : atI [V.ref q, .int i, .int d, .int c] 1 = some (.int i) := rfl
    have A2 : atI [V.ref q, .int i, .int d, .int c] 2 = some (.int d) := rfl
    have A3 : atI [V.ref q, .int i, .int d, .int c] 3 = some (.int c) := rfl
    refine ⟨_, rfl, _, _, _, _, rfl, rfl, hpL, A2, _, _, rfl, rfl, _, rfl, iteD (fun h1 => ?_) (fun h1 => ?_)⟩
    · subst h1
      refine ⟨_, rfl, _, _, _, _, rfl, rfl, hpL, A1, _, rfl, _, _, _, _, rfl, rfl, hpL, A0, _, _, rfl, .inl hqL, _, _, rfl, rfl, _, rfl, iteD (fun h2 => ?_) (fun h2 => ?_)⟩
      · have hlt : i.toNat < ns.length := by rw [List.length_map] at h2; omega
        have g : atI (ns.map V.int) i = some (.int ns[i.toNat]) := at_of (j := i.toNat) (by omega) (by rw [List.getElem?_map, List.getElem?_eq_getElem hlt]; rfl)
        refine ⟨fun σ' H' => ∃ d' c', σ' = [some (.ref p), some (.int many), none] ∧ H' p = some (.lst [.ref q, .int (i + 1), .int d', .int c']) ∧ But p H H' ∧ 0 ≤ d' ∧ 0 ≤ c', fun σ' H' hN => ?_, ?_⟩
        · obtain ⟨d', c', e1, e2, e3, e4, e5⟩ := hN
          exact ⟨_, by omega, i + 1, d', c', e1, e2, e3, by omega, e4, e5, rfl⟩
        refine ⟨_, rfl, _, _, _, _, rfl, rfl, hpL, A0, _, rfl, _, _, _, _, rfl, rfl, hpL, A1, _, _, _, _, rfl, rfl, hqL, g, _, rfl, _, rfl, _, _, _, _, rfl, rfl, hp1, rfl, _, rfl, _, _, _, _, rfl, rfl, .inl (.inl upd_same), A1, _, _, rfl, rfl, _, rfl, _, _, _, _, rfl, rfl, upd_same, rfl, ?_⟩
        refine ⟨_, c, rfl, upd_same, bt.upd.upd, ?_, hc1⟩
        split <;> omega
      · -- behind the loop
        refine ⟨_, rfl, _, _, _, _, rfl, rfl, hpL, A2, _, _, rfl, rfl, _, rfl, iteD (fun h3 => ?_) (fun h3 => absurd rfl h3)⟩
        refine ⟨_, rfl, _, _, _, _, rfl, rfl, hpL, A3, _, _, rfl, rfl, _, rfl, _, _, _, _, rfl, rfl, hp1, rfl, _, rfl, _, _, _, _, rfl, rfl, .inl (.inl upd_same), rfl, _, _, rfl, rfl, ⟨by decide, by decide⟩, .inl ⟨_, rfl, ?_⟩⟩
        refine ⟨_, rfl, _, _, rfl, rfl, m0, ?_⟩
        exact k _ _ bt.upd ⟨q, ns, i, 0, c + 7, npq, upd_same, by rw [upd_ne (Ne.symm npq)]; exact hq1, hi1, hn, by decide, by omega⟩ (Int.emod_nonneg _ (by omega)) (Int.emod_lt_of_pos _ m0)
    · refine iteF ?_
      -- behind the loop
      refine ⟨_, rfl, _, _, _, _, rfl, rfl, hpL, A2, _, _, rfl, rfl, _, rfl, iteD (fun h4 => absurd h4 h1) (fun h4 => ?_)⟩
      refine ⟨_, rfl, _, _, _, _, rfl, rfl, hpL, A2, .inl ⟨_, rfl, ?_⟩⟩
      refine ⟨_, rfl, _, _, rfl, rfl, m0, _, rfl, _, _, _, _, rfl, rfl, hpL, A2, .inl ⟨_, rfl, ?_⟩⟩
      refine ⟨_, rfl, _, _, rfl, rfl, divW m0 m1, _, rfl, _, _, _, _, rfl, rfl, hp1, rfl, _, rfl, ?_⟩
      exact k _ _ bt.upd ⟨q, ns, i, d / many, c, npq, upd_same, by rw [upd_ne (Ne.symm npq)]; exact hq1, hi1, hn, Int.ediv_nonneg hd1 (by omega), hc1⟩ (Int.emod_nonneg _ (by omega)) (Int.emod_lt_of_pos _ m0)

def sp__law_word (K : PySem.W.Frag) : Sp := fun vs H Q _ => ∃ (p : Addr), vs = [.ref p] ∧ Pool H p ∧ ∀ H' r, But p H H' → Pool H' p → wd r → Q (.int r) H'
theorem ok__law_word {f : Addr} {fd : FuncData} (F : Fun K "_law_word" "_law_word" s__law_word f fd) {f__law_draw : Addr} {fd__law_draw : FuncData} (C__law_draw : Callee P w K mg base 1 f__law_draw fd__law_draw "_law_draw" ["pool", "many"] (sp__law_draw K)) : FnOk P w K mg base CX0 (2) f fd ["pool"] (sp__law_word K) := by
  refine F.ok sc__law_word (fun vs H Q E h => ?_) (fun cdv A outer s H vs Q E hr h => ?_)
  · first | (obtain ⟨rfl, _⟩ := h; rfl) | (obtain ⟨_, rfl, _⟩ := h; rfl) | (obtain ⟨_, _, rfl, _⟩ := h; rfl) | (obtain ⟨_, _, _, rfl, _⟩ := h; rfl) | (obtain ⟨_, _, _, _, rfl, _⟩ := h; rfl) | (obtain ⟨_, _, _, _, _, rfl, _⟩ := h; rfl) | (obtain ⟨_, _, _, _, _, _, rfl, _⟩ := h; rfl) | (obtain ⟨_, _, _, _, _, _, _, rfl, _⟩ := h; rfl) | (obtain ⟨_, _, _, _, _, _, _, _, rfl, _⟩ := h; rfl) | (obtain ⟨_, _, _, _, _, _, _, _, _, rfl, _⟩ := h; rfl) | (obtain ⟨_, _, _, _, _, _, _, _, _, _, rfl, _⟩ := h; rfl) | (obtain ⟨_, _, _, _, _, _, _, _, _, _, _, rfl, _⟩ := h; rfl) | (obtain ⟨_, _, _, _, _, _, _, _, _, _, _, _, rfl, _⟩ := h; rfl) | (obtain ⟨_, _, _, _, _, _, _, _, _, _, _, _, _, rfl, _⟩ := h; rfl) | (obtain ⟨_, _, _, _, _, _, _, _, _, _, _, _, _, _, rfl, _⟩ := h; rfl) | (obtain ⟨_, _, _, _, _, _, _, _, _, _, _, _, _, _, _, rfl, _⟩ := h; rfl) | (obtain ⟨_, _, _, _, _, _, _, _, _, _, _, _, _, _, _, _, rfl, _⟩ := h; rfl) | (obtain ⟨_, _, _, _, _, _, _, _, _, _, _, _, _, _, _, _, _, rfl, _⟩ := h; rfl)
  · have hu := hu_of hr

    refine ⟨_, (pss_cons (ps_set (i := 1) sc__law_word.nd rfl (.inl rfl) (pe_call C__law_draw.ok (hr.mono (by omega)) (by rfl) C__law_draw.g C__law_draw.kp C__law_draw.b .nil pass0 (pa_cons (pv 0) (pa_cons pe_int pa_nil))))
      (pss_cons (ps_if (pt_cmp (pc_lt (pv 1) pe_int)) (pss_one (ps_ret (pe_op op_sub (pe_call C__law_draw.ok (hr.mono (by omega)) (by rfl) C__law_draw.g C__law_draw.kp C__law_draw.b .nil pass0 (pa_cons (pv 0) (pa_cons pe_int pa_nil))) pe_int))) pss_nil)
      (pss_cons (ps_set (i := 2) sc__law_word.nd rfl (.inl rfl) (pe_lst (pa_cons (pe_un un_neg pe_int) (pa_cons (pe_un un_neg pe_int) (pa_cons (pe_un un_neg pe_int) (pa_cons (pe_un un_neg pe_int) (pa_cons (pe_un un_neg pe_int) (pa_cons pe_int (pa_cons pe_int (pa_cons pe_int (pa_cons pe_int (pa_cons pe_int (pa_cons pe_int (pa_cons pe_int (pa_cons pe_int (pa_cons pe_int pa_nil))))))))))))))))
      (pss_cons (ps_if (pt_cmp (pc_eqI (pv 1) pe_int)) (pss_one (ps_ret (pe_ix ix_list (pv 2) (pe_call C__law_draw.ok (hr.mono (by omega)) (by rfl) C__law_draw.g C__law_draw.kp C__law_draw.b .nil pass0 (pa_cons (pv 0) (pa_cons pe_int pa_nil))) (fun _ _ => rfl)))) pss_nil)
      (pss_one (ps_ret (pe_op op_sub (pe_call C__law_draw.ok (hr.mono (by omega)) (by rfl) C__law_draw.g C__law_draw.kp C__law_draw.b .nil pass0 (pa_cons (pv 0) (pa_cons pe_int pa_nil))) pe_int))))))), ?_⟩
    obtain ⟨p, rfl, P, k⟩ := h
    refine ⟨_, rfl, _, _, rfl, by decide, by decide, P, fun H1 r1 bt1 P1 lo1 hi1 => ?_⟩
    refine ⟨_, rfl, _, _, rfl, rfl, _, rfl, iteD (fun h2 => ?_) (fun h2 => ?_)⟩
    · refine ⟨_, rfl, _, _, rfl, by decide, by decide, P1, fun H3 r3 bt3 P3 lo3 hi3 => ?_⟩
      refine ⟨_, _, rfl, rfl, ?_⟩
      exact k _ _ (bt1.trans bt3) P3 ⟨by omega, by omega⟩
    · refine ⟨_, rfl, _, rfl, _, rfl, _, rfl, _, rfl, (by show (_ : Nat) ≤ sizeLine; decide), fun p4 np4 => ?_⟩
      have S4 := same_upd (o := .lst ([-2147483648, -2147483647, -2049, -2048, -1, 0, 1, 31, 32, 33, 2047, 2048, 4095, 2147483647].map V.int)) np4
      refine ⟨_, rfl, _, _, rfl, rfl, _, rfl, iteD (fun h5 => ?_) (fun h5 => ?_)⟩
      · refine ⟨_, rfl, _, rfl, _, _, rfl, by decide, by decide, P1.same S4, fun H6 r6 bt6 P6 lo6 hi6 => ?_⟩
        have hh : r6 = 0 ∨ r6 = 1 ∨ r6 = 2 ∨ r6 = 3 ∨ r6 = 4 ∨ r6 = 5 ∨ r6 = 6 ∨ r6 = 7 ∨ r6 = 8 ∨ r6 = 9 ∨ r6 = 10 ∨ r6 = 11 ∨ r6 = 12 ∨ r6 = 13 := by omega
        have np : p4 ≠ p := by
          obtain ⟨q, ns, i, d, c, h1, h2, h3, h4⟩ := P1
          exact (ne_of_none h2 np4).symm
        have e4 := bt6 p4 _ upd_same np
        rcases hh with rfl | rfl | rfl | rfl | rfl | rfl | rfl | rfl | rfl | rfl | rfl | rfl | rfl | rfl <;>
          exact ⟨_, _, _, _, rfl, rfl, .inl (.inl e4), rfl, k _ _ ((bt1.same S4).trans bt6) P6 ⟨by decide, by decide⟩⟩
      · refine ⟨_, rfl, _, _, rfl, by decide, by decide, P1.same S4, fun H7 r7 bt7 P7 lo7 hi7 => ?_⟩
        refine ⟨_, _, rfl, rfl, ?_⟩
        exact k _ _ ((bt1.same S4).trans bt7) P7 ⟨by omega, by omega⟩

def sp__law_is_word (K : PySem.W.Frag) : Sp := fun vs H Q _ => ∃ (x : Int), vs = [.int x] ∧ wd x ∧ Q (.bl true) H
theorem ok__law_is_word {f : Addr} {fd : FuncData} (F : Fun K "_law_is_word" "_law_is_word" s__law_is_word f fd) (b_isinstance : mg "isinstance" = none) (b_int : mg "int" = none) (b_bool : mg "bool" = none) : FnOk P w K mg base CX0 (1) f fd ["said"] (sp__law_is_word K) := by
  refine F.ok sc__law_is_word (fun vs H Q E h => ?_) (fun cdv A outer s H vs Q E hr h => ?_)
  · first | (obtain ⟨rfl, _⟩ := h; rfl) | (obtain ⟨_, rfl, _⟩ := h; rfl) | (obtain ⟨_, _, rfl, _⟩ := h; rfl) | (obtain ⟨_, _, _, rfl, _⟩ := h; rfl) | (obtain ⟨_, _, _, _, rfl, _⟩ := h; rfl) | (obtain ⟨_, _, _, _, _, rfl, _⟩ := h; rfl) | (obtain ⟨_, _, _, _, _, _, rfl, _⟩ := h; rfl) | (obtain ⟨_, _, _, _, _, _, _, rfl, _⟩ := h; rfl) | (obtain ⟨_, _, _, _, _, _, _, _, rfl, _⟩ := h; rfl) | (obtain ⟨_, _, _, _, _, _, _, _, _, rfl, _⟩ := h; rfl) | (obtain ⟨_, _, _, _, _, _, _, _, _, _, rfl, _⟩ := h; rfl) | (obtain ⟨_, _, _, _, _, _, _, _, _, _, _, rfl, _⟩ := h; rfl) | (obtain ⟨_, _, _, _, _, _, _, _, _, _, _, _, rfl, _⟩ := h; rfl) | (obtain ⟨_, _, _, _, _, _, _, _, _, _, _, _, _, rfl, _⟩ := h; rfl) | (obtain ⟨_, _, _, _, _, _, _, _, _, _, _, _, _, _, rfl, _⟩ := h; rfl) | (obtain ⟨_, _, _, _, _, _, _, _, _, _, _, _, _, _, _, rfl, _⟩ := h; rfl) | (obtain ⟨_, _, _, _, _, _, _, _, _, _, _, _, _, _, _, _, rfl, _⟩ := h; rfl) | (obtain ⟨_, _, _, _, _, _, _, _, _, _, _, _, _, _, _, _, _, rfl, _⟩ := h; rfl)
  · have hu := hu_of hr

    refine ⟨_, (pss_cons (ps_if (PW.pt (pw_or (pt_not (pt_val (pe_callB call_isi (by rfl) b_isinstance (by decide +kernel) (pa_cons (pv 0) (pa_cons (pe_bltn (v := .ty "int") (by rfl) b_int (by decide +kernel) rfl) pa_nil))))) (pw_or1 (pt_val (pe_callB call_isi (by rfl) b_isinstance (by decide +kernel) (pa_cons (pv 0) (pa_cons (pe_bltn (v := .ty "bool") (by rfl) b_bool (by decide +kernel) rfl) pa_nil))))))) (pss_one (ps_ret pe_bl)) pss_nil)
      (pss_one (ps_ret (pe_chain op_le op_le (pe_un un_neg pe_int) (pv 0) pe_int)))), ?_⟩
    obtain ⟨x, rfl, ⟨w1, w2⟩, q⟩ := h
    refine ⟨_, rfl, _, _, _, _, true, rfl, .ty "int", .base (.int _), kit_ty (by decide +kernel), _, rfl, iteF ?_⟩
    refine ⟨_, rfl, _, _, _, _, false, rfl, .ty "bool", .base (.int _), kit_ty (by decide +kernel), _, rfl, iteF ?_⟩
    refine ⟨_, rfl, _, rfl, _, _, rfl, rfl, _, rfl, iteD (fun h1 => ?_) (fun h1 => absurd w1 h1)⟩
    exact ⟨_, _, rfl, rfl, dec_t (Q := Q) w2 q⟩

theorem cut_spec (a b : Int) (hb : b ≠ 0) : ∃ q r : Int, 0 ≤ q ∧ 0 ≤ r ∧ r < (if b < 0 then -b else b) ∧ (if a < 0 then -a else a) = q * (if b < 0 then -b else b) + r ∧ cut a b = (if decide (a < 0) = decide (b < 0) then q else -q) ∧ a - b * cut a b = (if a < 0 then -r else r) ∧ q ≤ (if a < 0 then -a else a) := by
  have hB : 0 < (if b < 0 then -b else b) := by split <;> omega
  have hA : 0 ≤ (if a < 0 then -a else a) := by split <;> omega
  refine ⟨(if a < 0 then -a else a) / (if b < 0 then -b else b), (if a < 0 then -a else a) % (if b < 0 then -b else b), Int.ediv_nonneg hA (by omega), Int.emod_nonneg _ (by omega), Int.emod_lt_of_pos _ hB, ?_, rfl, ?_, Int.ediv_le_self _ hA⟩
  · have := Int.mul_ediv_add_emod (if a < 0 then -a else a) (if b < 0 then -b else b)
    rw [Int.mul_comm]; omega
  · have h := Int.mul_ediv_add_emod (if a < 0 then -a else a) (if b < 0 then -b else b)
    unfold cut
    by_cases ha : a < 0 <;> by_cases hb' : b < 0 <;> simp only [ha, hb', if_true, if_false, decide_true, decide_false, reduceCtorEq] at h ⊢
    · generalize -a % -b = r at *
      generalize -a / -b = q at *
      rw [Int.neg_mul] at h; omega
    · generalize -a % b = r at *
      generalize -a / b = q at *
      rw [Int.mul_neg]; omega
    · generalize a % -b = r at *
      generalize a / -b = q at *
      rw [Int.neg_mul] at h; rw [Int.mul_neg]; omega
    · omega
theorem wr_of {n : Int} (h : wd n) : wr n = n := by
  obtain ⟨h1, h2⟩ := h
  unfold wr; omega
/-- a pair of words, the right one not 0, but for the least word by -1 -/
theorem pair_spec (a b : Int) (wa : wd a) (wb : wd b) (hb : b ≠ 0) (hn : ¬ (a = -2147483648 ∧ b = -1)) : wd (cut a b) := by
  obtain ⟨q, r, q0, r0, r1, e, ec, er, ql⟩ := cut_spec a b hb
  obtain ⟨a1, a2⟩ := wa
  obtain ⟨b1, b2⟩ := wb
  have hq : (if a < 0 then -a else a) ≤ 2147483648 := by split <;> omega
  by_cases hq2 : q ≤ 2147483647
  · rw [ec]; unfold wd; split <;> omega
  · have h1 : q = 2147483648 := by omega
    have h2 : a = -2147483648 := by revert ql; split <;> omega
    subst h1 h2
    have hB1 : 0 < (if b < 0 then -b else b) := by split <;> omega
    have h3 : (if b < 0 then -b else b) = 1 := by
      have e' : (2147483648 : Int) = 2147483648 * (if b < 0 then -b else b) + r := e
      omega
    have h4 : b = 1 := by
      by_cases h : b < 0
      · rw [if_pos h] at h3; exact absurd ⟨rfl, by omega⟩ hn
      · rw [if_neg h] at h3; exact h3
    subst h4
    rw [ec]; unfold wd; decide

theorem bit2 (x y : Int) : (x % 2) * (y % 2) = 0 ∨ (x % 2) * (y % 2) = 1 ∧ x % 2 = 1 ∧ y % 2 = 1 := by
  rcases Int.emod_two_eq x with a | a <;> rcases Int.emod_two_eq y with b | b <;> rw [a, b] <;> simp
theorem and_half (x y : Int) : Builtin.bitAnd x y / 2 = Builtin.bitAnd (x / 2) (y / 2) := by
  have h := and_step x y
  rcases bit2 x y with e | ⟨e, _, _⟩ <;> omega
theorem or_half (x y : Int) : Builtin.bitOr x y / 2 = Builtin.bitOr (x / 2) (y / 2) := by
  rw [bitOr_and, bitOr_and]
  have h := and_step x y
  rcases bit2 x y with e | ⟨e, _, _⟩
  · rcases Int.emod_two_eq x with a | a <;> rcases Int.emod_two_eq y with b | b <;> (try (rw [a, b] at e; exact absurd e (by decide))) <;> omega
  · omega
theorem xor_half (x y : Int) : Builtin.bitXor x y / 2 = Builtin.bitXor (x / 2) (y / 2) := by
  have d : ∀ u v, Builtin.bitXor u v = Builtin.bitOr u v - Builtin.bitAnd u v := fun _ _ => rfl
  rw [d, d, bitOr_and, bitOr_and]
  have h := and_step x y
  rcases bit2 x y with e | ⟨e, _, _⟩
  · rcases Int.emod_two_eq x with a | a <;> rcases Int.emod_two_eq y with b | b <;> (try (rw [a, b] at e; exact absurd e (by decide))) <;> omega
  · omega
theorem div_pow_succ (x : Int) (k : Nat) : x / 2 ^ (k + 1) = x / 2 / 2 ^ k := by
  rw [Int.pow_succ', Int.ediv_ediv_of_nonneg (by decide)]
theorem half_pow {f : Int → Int → Int} (h : ∀ x y, f x y / 2 = f (x / 2) (y / 2)) : ∀ (k : Nat) (x y : Int), f x y / 2 ^ k = f (x / 2 ^ k) (y / 2 ^ k)
  | 0, x, y => by simp
  | k + 1, x, y => by rw [div_pow_succ, div_pow_succ, div_pow_succ, h, half_pow h k]
theorem wd_iff (x : Int) : wd x ↔ (x / 2 ^ 31 = 0 ∨ x / 2 ^ 31 = -1) := by unfold wd; omega
theorem wd_half {f : Int → Int → Int} (h : ∀ x y, f x y / 2 = f (x / 2) (y / 2)) (h0 : ∀ u v : Int, (u = 0 ∨ u = -1) → (v = 0 ∨ v = -1) → (f u v = 0 ∨ f u v = -1)) {x y : Int} (hx : wd x) (hy : wd y) : wd (f x y) := by
  rw [wd_iff, half_pow h]
  exact h0 _ _ ((wd_iff x).mp hx) ((wd_iff y).mp hy)
theorem and_wd {a b : Int} (ha : wd a) (hb : wd b) : wd (Builtin.bitAnd a b) := wd_half and_half (by rintro u v (rfl | rfl) (rfl | rfl) <;> decide) ha hb
theorem or_wd {a b : Int} (ha : wd a) (hb : wd b) : wd (Builtin.bitOr a b) := wd_half or_half (by rintro u v (rfl | rfl) (rfl | rfl) <;> decide) ha hb
theorem xor_wd {a b : Int} (ha : wd a) (hb : wd b) : wd (Builtin.bitXor a b) := wd_half xor_half (by rintro u v (rfl | rfl) (rfl | rfl) <;> decide) ha hb
theorem sar_wd {a : Int} : ∀ k : Nat, wd a → wd (a / 2 ^ k)
  | 0, h => by simpa using h
  | k + 1, h => by
    have := sar_wd (a := a / 2) k (by unfold wd at *; omega)
    rw [div_pow_succ]; exact this

theorem and_bit (x y : Int) (k : Nat) : Builtin.bitAnd x y / 2 ^ k % 2 = (x / 2 ^ k % 2) * (y / 2 ^ k % 2) := by
  rw [half_pow and_half]
  have h := and_step (x / 2 ^ k) (y / 2 ^ k)
  rcases bit2 (x / 2 ^ k) (y / 2 ^ k) with e | ⟨e, _, _⟩ <;> rw [e] at h ⊢ <;> omega
theorem or_bit (x y : Int) (k : Nat) : Builtin.bitOr x y / 2 ^ k % 2 = x / 2 ^ k % 2 + y / 2 ^ k % 2 - (x / 2 ^ k % 2) * (y / 2 ^ k % 2) := by
  rw [half_pow or_half, bitOr_and]
  have h := and_step (x / 2 ^ k) (y / 2 ^ k)
  generalize x / 2 ^ k = u at *
  generalize y / 2 ^ k = v at *
  rcases Int.emod_two_eq u with a | a <;> rcases Int.emod_two_eq v with b | b <;> rw [a, b] at h ⊢ <;> omega
theorem xor_bit (x y : Int) (k : Nat) : Builtin.bitXor x y / 2 ^ k % 2 = x / 2 ^ k % 2 + y / 2 ^ k % 2 - 2 * ((x / 2 ^ k % 2) * (y / 2 ^ k % 2)) := by
  have d : ∀ u v, Builtin.bitXor u v = Builtin.bitOr u v - Builtin.bitAnd u v := fun _ _ => rfl
  rw [half_pow xor_half, d, bitOr_and]
  have h := and_step (x / 2 ^ k) (y / 2 ^ k)
  generalize x / 2 ^ k = u at *
  generalize y / 2 ^ k = v at *
  rcases Int.emod_two_eq u with a | a <;> rcases Int.emod_two_eq v with b | b <;> rw [a, b] at h ⊢ <;> omega
theorem bits_succ (n : Nat) (x : Int) : (List.range (n + 1)).map (fun k => x / 2 ^ k % 2) = (List.range n).map (fun k => x / 2 ^ k % 2) ++ [x / 2 ^ n % 2] := by
  rw [List.range_succ, List.map_append]; rfl
def bitsOf (n : Nat) (x : Int) : List Int := (List.range n).map fun k => x / 2 ^ k % 2
theorem bits_at (x : Int) {i : Nat} (h : i < 32) : atI ((bitsOf 32 x).map V.int) (0 + (i : Int)) = some (.int (x / 2 ^ i % 2)) := by
  refine at_of (j := i) (by omega) ?_
  unfold bitsOf
  rw [List.getElem?_map, List.getElem?_map, List.getElem?_range h]
  rfl
def sp__law_bits (K : PySem.W.Frag) : Sp := fun vs H Q _ => ∃ (x : Int), vs = [.int x] ∧ ∀ H' p, Same H H' → H p = none → H' p = some (.lst ((bitsOf 32 x).map V.int)) → Q (.ref p) H'
theorem ok__law_bits {f : Addr} {fd : FuncData} (F : Fun K "_law_bits" "_law_bits" s__law_bits f fd) (b_range : mg "range" = none) (b_int : mg "int" = none) : FnOk P w K mg base CX0 (1) f fd ["x"] (sp__law_bits K) := by
  refine F.ok sc__law_bits (fun vs H Q E h => ?_) (fun cdv A outer s H vs Q E hr h => ?_)
  · first | (obtain ⟨rfl, _⟩ := h; rfl) | (obtain ⟨_, rfl, _⟩ := h; rfl) | (obtain ⟨_, _, rfl, _⟩ := h; rfl) | (obtain ⟨_, _, _, rfl, _⟩ := h; rfl) | (obtain ⟨_, _, _, _, rfl, _⟩ := h; rfl) | (obtain ⟨_, _, _, _, _, rfl, _⟩ := h; rfl) | (obtain ⟨_, _, _, _, _, _, rfl, _⟩ := h; rfl) | (obtain ⟨_, _, _, _, _, _, _, rfl, _⟩ := h; rfl) | (obtain ⟨_, _, _, _, _, _, _, _, rfl, _⟩ := h; rfl) | (obtain ⟨_, _, _, _, _, _, _, _, _, rfl, _⟩ := h; rfl) | (obtain ⟨_, _, _, _, _, _, _, _, _, _, rfl, _⟩ := h; rfl) | (obtain ⟨_, _, _, _, _, _, _, _, _, _, _, rfl, _⟩ := h; rfl) | (obtain ⟨_, _, _, _, _, _, _, _, _, _, _, _, rfl, _⟩ := h; rfl) | (obtain ⟨_, _, _, _, _, _, _, _, _, _, _, _, _, rfl, _⟩ := h; rfl) | (obtain ⟨_, _, _, _, _, _, _, _, _, _, _, _, _, _, rfl, _⟩ := h; rfl) | (obtain ⟨_, _, _, _, _, _, _, _, _, _, _, _, _, _, _, rfl, _⟩ := h; rfl) | (obtain ⟨_, _, _, _, _, _, _, _, _, _, _, _, _, _, _, _, rfl, _⟩ := h; rfl) | (obtain ⟨_, _, _, _, _, _, _, _, _, _, _, _, _, _, _, _, _, rfl, _⟩ := h; rfl)
  · have hu := hu_of hr

    refine ⟨_, (pss_cons (ps_set (i := 1) sc__law_bits.nd rfl (.inl rfl) (pe_lst pa_nil))
      (pss_cons (ps_for PassesOwn.never rfl (pi_range1 (by rfl) b_range (pa_cons pe_int pa_nil)) (pg_name (i := 2) sc__law_bits.nd rfl (.inl rfl)) (pss_cons (ps_expr (pe_bm PySem.F.plainAttrs_list PySem.F.slot_list_append PySem.F.type_list_append mt_append (pv 1) (pa_cons (pe_op op_mod (pe_callTy (call_int1) (by rfl) b_int (by decide +kernel) (pa_cons (pv 0) pa_nil)) pe_int) pa_nil)))
      (pss_one (ps_set (i := 0) sc__law_bits.nd rfl (.inl rfl) (pe_op op_fdiv (pv 0) pe_int)))))
      (pss_one (ps_ret (pv 1))))), ?_⟩
    obtain ⟨x, rfl, q⟩ := h
    refine ⟨(by show (0 : Nat) ≤ sizeLine; decide), fun p np => ?_⟩
    refine ⟨32, rfl, by decide, by decide, for_range (lo := 0) (n := 32) (fun i σ H' => (∃ v, σ = [some (.int (x / 2 ^ i)), some (.ref p), v]) ∧ H' p = some (.lst ((bitsOf i x).map V.int)) ∧ Same H H') ⟨⟨none, ?_⟩, upd_same, same_upd np⟩ ?_ ?_⟩
    · show _ = [some (V.int (x / 1)), _, _]
      rw [Int.ediv_one]; rfl
    · rintro i σ H' hi ⟨⟨v, rfl⟩, hp, S⟩
      refine ⟨_, rfl, .inl ⟨rfl, _, .inl (.inl hp)⟩, _, rfl, .inl ⟨_, rfl, ?_⟩⟩
      refine ⟨_, _, rfl, rfl, (by show (0 : Int) < 2; decide), _, _, _, rfl, rfl, hp, ?_, _, rfl, _, _, rfl, rfl, ⟨by decide, by decide⟩, ⟨some (.int (0 + i)), ?_⟩, ?_, ?_⟩
      · exact small1000 (by unfold bitsOf; rw [List.length_map, List.length_map, List.length_range]; omega)
      · show [some (V.int (x / 2 ^ i / 2)), _, _] = _
        rw [Int.pow_succ, Int.ediv_ediv_of_nonneg (Int.le_of_lt (Int.pow_pos (by decide)))]
      · rw [upd_same]; unfold bitsOf; rw [bits_succ, List.map_append]; rfl
      · intro b o e
        rw [upd_ne (fun z => by subst z; rw [np] at e; cases e)]
        exact S b o e
    · rintro σ H' ⟨⟨v, rfl⟩, hp, S⟩
      exact ⟨_, rfl, q H' p S np hp⟩
def sp__law_logic (K : PySem.W.Frag) : Sp := fun vs H Q _ => ∃ (a b : Int), vs = [.int a, .int b] ∧ wd a ∧ wd b ∧ ∀ H', Same H H' → Q (.bl true) H'
theorem ok__law_logic {f : Addr} {fd : FuncData} (F : Fun K "_law_logic" "_law_logic" s__law_logic f fd) {f__law_bits : Addr} {fd__law_bits : FuncData} (C__law_bits : Callee P w K mg base 1 f__law_bits fd__law_bits "_law_bits" ["x"] (sp__law_bits K)) {f_result : Addr} {fd_result : FuncData} (C_result : Callee P w K mg base 3 f_result fd_result "result" ["name", "a", "b"] (sp_result K)) {f__law_is_word : Addr} {fd__law_is_word : FuncData} (C__law_is_word : Callee P w K mg base 1 f__law_is_word fd__law_is_word "_law_is_word" ["said"] (sp__law_is_word K)) (b_range : mg "range" = none) : FnOk P w K mg base CX0 (4) f fd ["a", "b"] (sp__law_logic K) := by
  refine F.ok sc__law_logic (fun vs H Q E h => ?_) (fun cdv A outer s H vs Q E hr h => ?_)
  · first | (obtain ⟨rfl, _⟩ := h; rfl) | (obtain ⟨_, rfl, _⟩ := h; rfl) | (obtain ⟨_, _, rfl, _⟩ := h; rfl) | (obtain ⟨_, _, _, rfl, _⟩ := h; rfl) | (obtain ⟨_, _, _, _, rfl, _⟩ := h; rfl) | (obtain ⟨_, _, _, _, _, rfl, _⟩ := h; rfl) | (obtain ⟨_, _, _, _, _, _, rfl, _⟩ := h; rfl) | (obtain ⟨_, _, _, _, _, _, _, rfl, _⟩ := h; rfl) | (obtain ⟨_, _, _, _, _, _, _, _, rfl, _⟩ := h; rfl) | (obtain ⟨_, _, _, _, _, _, _, _, _, rfl, _⟩ := h; rfl) | (obtain ⟨_, _, _, _, _, _, _, _, _, _, rfl, _⟩ := h; rfl) | (obtain ⟨_, _, _, _, _, _, _, _, _, _, _, rfl, _⟩ := h; rfl) | (obtain ⟨_, _, _, _, _, _, _, _, _, _, _, _, rfl, _⟩ := h; rfl) | (obtain ⟨_, _, _, _, _, _, _, _, _, _, _, _, _, rfl, _⟩ := h; rfl) | (obtain ⟨_, _, _, _, _, _, _, _, _, _, _, _, _, _, rfl, _⟩ := h; rfl) | (obtain ⟨_, _, _, _, _, _, _, _, _, _, _, _, _, _, _, rfl, _⟩ := h; rfl) | (obtain ⟨_, _, _, _, _, _, _, _, _, _, _, _, _, _, _, _, rfl, _⟩ := h; rfl) | (obtain ⟨_, _, _, _, _, _, _, _, _, _, _, _, _, _, _, _, _, rfl, _⟩ := h; rfl)
  · have hu := hu_of hr

    refine ⟨_, (pss_cons (ps_set (i := 2) sc__law_logic.nd rfl (.inl rfl) (pe_call C__law_bits.ok (hr.mono (by omega)) (by rfl) C__law_bits.g C__law_bits.kp C__law_bits.b .nil pass0 (pa_cons (pv 0) pa_nil)))
      (pss_cons (ps_set (i := 3) sc__law_logic.nd rfl (.inl rfl) (pe_call C__law_bits.ok (hr.mono (by omega)) (by rfl) C__law_bits.g C__law_bits.kp C__law_bits.b .nil pass0 (pa_cons (pv 1) pa_nil)))
      (pss_cons (ps_for PassesOwn.never rfl (pi_list (pe_lst (pa_cons (pe_tup (pa_cons pe_str (pa_cons (pe_tup (pa_cons pe_int (pa_cons pe_int (pa_cons pe_int pa_nil)))) pa_nil))) (pa_cons (pe_tup (pa_cons pe_str (pa_cons (pe_tup (pa_cons pe_int (pa_cons pe_int (pa_cons pe_int pa_nil)))) pa_nil))) (pa_cons (pe_tup (pa_cons pe_str (pa_cons (pe_tup (pa_cons pe_int (pa_cons pe_int (pa_cons pe_int pa_nil)))) pa_nil))) pa_nil))))) (pg_tup rfl (pgs_cons (pg_name (i := 4) sc__law_logic.nd rfl (.inl rfl)) (pgs_cons (pg_name (i := 5) sc__law_logic.nd rfl (.inl rfl)) pgs_nil))) (pss_cons (ps_set (i := 6) sc__law_logic.nd rfl (.inl rfl) (pe_call C_result.ok (hr.mono (by omega)) (by rfl) C_result.g C_result.kp C_result.b .nil pass0 (pa_cons (pv 4) (pa_cons (pv 0) (pa_cons (pv 1) pa_nil)))))
      (pss_cons (ps_if (pt_not (pt_val (pe_call C__law_is_word.ok (hr.mono (by omega)) (by rfl) C__law_is_word.g C__law_is_word.kp C__law_is_word.b .nil pass0 (pa_cons (pv 6) pa_nil)))) (pss_one (ps_ret pe_bl)) pss_nil)
      (pss_cons (ps_set (i := 7) sc__law_logic.nd rfl (.inl rfl) (pe_call C__law_bits.ok (hr.mono (by omega)) (by rfl) C__law_bits.g C__law_bits.kp C__law_bits.b .nil pass0 (pa_cons (pv 6) pa_nil)))
      (pss_one (ps_for PassesOwn.never rfl (pi_range1 (by rfl) b_range (pa_cons pe_int pa_nil)) (pg_name (i := 8) sc__law_logic.nd rfl (.inl rfl)) (pss_one (ps_if (pt_cmpR op_ne (pe_ix ix_list (pv 7) (pv 8) (fun _ _ => rfl)) (pe_ix ix_tup (pv 5) (pe_op op_add (pe_ix ix_list (pv 2) (pv 8) (fun _ _ => rfl)) (pe_ix ix_list (pv 3) (pv 8) (fun _ _ => rfl))) (fun _ _ => rfl)) (nomark _)) (pss_one (ps_ret pe_bl)) pss_nil))))))))
      (pss_one (ps_ret pe_bl))))), ?_⟩
    obtain ⟨a, b, rfl, wa, wb, q⟩ := h
    refine ⟨_, rfl, _, rfl, fun H1 p1 S1 n1 T1 => ?_⟩
    refine ⟨_, rfl, _, rfl, fun H2 p2 S2 n2 T2 => ?_⟩
    refine ⟨(by show (3 : Nat) ≤ sizeLine; decide), fun p3 np3 => ?_⟩
    refine ⟨(by show (2 : Nat) ≤ sizeLine; decide), fun p4 np4 => ?_⟩
    refine ⟨(by show (3 : Nat) ≤ sizeLine; decide), fun p5 np5 => ?_⟩
    refine ⟨(by show (2 : Nat) ≤ sizeLine; decide), fun p6 np6 => ?_⟩
    refine ⟨(by show (3 : Nat) ≤ sizeLine; decide), fun p7 np7 => ?_⟩
    refine ⟨(by show (2 : Nat) ≤ sizeLine; decide), fun p8 np8 => ?_⟩
    refine ⟨(by show (3 : Nat) ≤ sizeLine; decide), fun p9 np9 => ?_⟩
    have S12 : Same H H2 := S1.trans S2
    have T1' : H2 p1 = some (.lst ((bitsOf 32 a).map V.int)) := S2 _ _ T1
    generalize hH : upd _ p9 _ = HH
    have SS : Same H HH := by rw [← hH]; exact (by repeat (first | exact Same.refl _ | assumption | exact same_upd (by assumption) | refine Same.trans ?_ (same_upd (by assumption))))
    have U1 : HH p1 = some (.lst ((bitsOf 32 a).map V.int)) := by rw [← hH]; exact (by repeat (first | exact upd_same | assumption | refine keep ?_ (by assumption)))
    have U2 : HH p2 = some (.lst ((bitsOf 32 b).map V.int)) := by rw [← hH]; exact (by repeat (first | exact upd_same | assumption | refine keep ?_ (by assumption)))
    have T9 : HH p9 = some (.lst [.ref p4, .ref p6, .ref p8]) := by rw [← hH]; exact upd_same
    have T4 : HH p4 = some (.tup [.str "and", .ref p3]) := by rw [← hH]; exact (by repeat (first | exact upd_same | assumption | refine keep ?_ (by assumption)))
    have T6 : HH p6 = some (.tup [.str "or", .ref p5]) := by rw [← hH]; exact (by repeat (first | exact upd_same | assumption | refine keep ?_ (by assumption)))
    have T8 : HH p8 = some (.tup [.str "xor", .ref p7]) := by rw [← hH]; exact (by repeat (first | exact upd_same | assumption | refine keep ?_ (by assumption)))
    have T3 : HH p3 = some (.tup [.int 0, .int 0, .int 1]) := by rw [← hH]; exact (by repeat (first | exact upd_same | assumption | refine keep ?_ (by assumption)))
    have T5 : HH p5 = some (.tup [.int 0, .int 1, .int 1]) := by rw [← hH]; exact (by repeat (first | exact upd_same | assumption | refine keep ?_ (by assumption)))
    have T7 : HH p7 = some (.tup [.int 0, .int 1, .int 0]) := by rw [← hH]; exact (by repeat (first | exact upd_same | assumption | refine keep ?_ (by assumption)))
    refine ⟨_, rfl, ⟨_, .inl (.inl T9)⟩, ?_⟩
    refine for_list (xs := [.ref p4, .ref p6, .ref p8]) (fun i σ H' => (∃ v1 v2 v3 v4 v5, σ = [some (.int a), some (.int b), some (.ref p1), some (.ref p2), v1, v2, v3, v4, v5]) ∧ Same HH H') ⟨⟨_, _, _, _, _, rfl⟩, Same.refl _⟩ (fun i σ H' _ e => .inl (.inl (e.2 _ _ T9))) ?_ ?_
    · rintro i y σ H' hy ⟨⟨v1, v2, v3, v4, v5, rfl⟩, e⟩
      have hm := List.mem_of_getElem? hy
      have g : ∃ t nm d ds r, y = .ref t ∧ H' t = some (.tup [.str nm, .ref d]) ∧ H' d = some (.tup ds) ∧ Res nm a b r ∧ wd r ∧ ∀ k : Nat, ∃ z, atI ds (a / 2 ^ k % 2 + b / 2 ^ k % 2) = some (.int z) ∧ r / 2 ^ k % 2 = z := by
        simp only [List.mem_cons, List.not_mem_nil, or_false] at hm
        rcases hm with rfl | rfl | rfl
        · refine ⟨_, _, _, _, _, rfl, e _ _ T4, e _ _ T3, .and' a b, and_wd wa wb, fun k => ?_⟩
          rw [and_bit]
          rcases Int.emod_two_eq (a / 2 ^ k) with h | h <;> rcases Int.emod_two_eq (b / 2 ^ k) with h2 | h2 <;> rw [h, h2] <;> exact ⟨_, rfl, rfl⟩
        · refine ⟨_, _, _, _, _, rfl, e _ _ T6, e _ _ T5, .or' a b, or_wd wa wb, fun k => ?_⟩
          rw [or_bit]
          rcases Int.emod_two_eq (a / 2 ^ k) with h | h <;> rcases Int.emod_two_eq (b / 2 ^ k) with h2 | h2 <;> rw [h, h2] <;> exact ⟨_, rfl, rfl⟩
        · refine ⟨_, _, _, _, _, rfl, e _ _ T8, e _ _ T7, .xor' a b, xor_wd wa wb, fun k => ?_⟩
          rw [xor_bit]
          rcases Int.emod_two_eq (a / 2 ^ k) with h | h <;> rcases Int.emod_two_eq (b / 2 ^ k) with h2 | h2 <;> rw [h, h2] <;> exact ⟨_, rfl, rfl⟩
      obtain ⟨t, nm, d, ds, r, rfl, hT, hD, hR, wr1, hb⟩ := g
      refine ⟨t, _, rfl, .inl (.inl hT), rfl, _, _, rfl, _, _, rfl, rfl, ?_⟩
      refine ⟨_, rfl, _, rfl, _, rfl, _, _, _, _, rfl, wa, wb, hR, _, rfl, _, rfl, wr1, _, rfl, iteF ?_⟩
      refine ⟨_, rfl, _, rfl, fun H3 p12 S3 n12 T12 => ?_⟩
      refine ⟨32, rfl, by decide, by decide, for_range (lo := 0) (n := 32) (fun i σ H' => (∃ v, σ = [some (.int a), some (.int b), some (.ref p1), some (.ref p2), some (.str nm), some (.ref d), some (.int r), some (.ref p12), v]) ∧ H' = H3) ⟨⟨_, rfl⟩, rfl⟩ ?_ ?_⟩
      · rintro k σ H4 hk ⟨⟨v, rfl⟩, rfl⟩
        obtain ⟨z, hz, ez⟩ := hb k
        refine ⟨_, rfl, _, rfl, _, _, _, _, rfl, rfl, .inl (.inl T12), bits_at r hk, _, rfl, _, rfl, _, rfl, _, _, _, _, rfl, rfl, .inl (.inl (S3 _ _ (e _ _ U1))), bits_at a hk, _, rfl, _, rfl, _, _, _, _, rfl, rfl, .inl (.inl (S3 _ _ (e _ _ U2))), bits_at b hk, _, _, rfl, rfl, _, _, _, _, rfl, rfl, .inl (.inl (S3 _ _ hD)), hz, rfl, _, rfl, iteDn (fun h13 => absurd (congrArg V.int ez) h13) (fun h13 => ?_)⟩
        exact ⟨⟨_, rfl⟩, rfl⟩
      · rintro σ H4 ⟨⟨v, rfl⟩, rfl⟩
        exact ⟨⟨_, _, _, _, _, rfl⟩, e.trans S3⟩
    · rintro σ H' ⟨⟨v1, v2, v3, v4, v5, rfl⟩, e⟩
      exact q H' (SS.trans e)
def sp__law_shifts (K : PySem.W.Frag) : Sp := fun vs H Q _ => ∃ (a b : Int), vs = [.int a, .int b] ∧ wd a ∧ wd b ∧ Q (.bl true) H
theorem ok__law_shifts {f : Addr} {fd : FuncData} (F : Fun K "_law_shifts" "_law_shifts" s__law_shifts f fd) {f__law_is_word : Addr} {fd__law_is_word : FuncData} (C__law_is_word : Callee P w K mg base 1 f__law_is_word fd__law_is_word "_law_is_word" ["said"] (sp__law_is_word K)) {f_result : Addr} {fd_result : FuncData} (C_result : Callee P w K mg base 3 f_result fd_result "result" ["name", "a", "b"] (sp_result K)) (b_range : mg "range" = none) (b_int : mg "int" = none) : FnOk P w K mg base CX0 (4) f fd ["a", "b"] (sp__law_shifts K) := by
  refine F.ok sc__law_shifts (fun vs H Q E h => ?_) (fun cdv A outer s H vs Q E hr h => ?_)
  · first | (obtain ⟨rfl, _⟩ := h; rfl) | (obtain ⟨_, rfl, _⟩ := h; rfl) | (obtain ⟨_, _, rfl, _⟩ := h; rfl) | (obtain ⟨_, _, _, rfl, _⟩ := h; rfl) | (obtain ⟨_, _, _, _, rfl, _⟩ := h; rfl) | (obtain ⟨_, _, _, _, _, rfl, _⟩ := h; rfl) | (obtain ⟨_, _, _, _, _, _, rfl, _⟩ := h; rfl) | (obtain ⟨_, _, _, _, _, _, _, rfl, _⟩ := h; rfl) | (obtain ⟨_, _, _, _, _, _, _, _, rfl, _⟩ := h; rfl) | (obtain ⟨_, _, _, _, _, _, _, _, _, rfl, _⟩ := h; rfl) | (obtain ⟨_, _, _, _, _, _, _, _, _, _, rfl, _⟩ := h; rfl) | (obtain ⟨_, _, _, _, _, _, _, _, _, _, _, rfl, _⟩ := h; rfl) | (obtain ⟨_, _, _, _, _, _, _, _, _, _, _, _, rfl, _⟩ := h; rfl) | (obtain ⟨_, _, _, _, _, _, _, _, _, _, _, _, _, rfl, _⟩ := h; rfl) | (obtain ⟨_, _, _, _, _, _, _, _, _, _, _, _, _, _, rfl, _⟩ := h; rfl) | (obtain ⟨_, _, _, _, _, _, _, _, _, _, _, _, _, _, _, rfl, _⟩ := h; rfl) | (obtain ⟨_, _, _, _, _, _, _, _, _, _, _, _, _, _, _, _, rfl, _⟩ := h; rfl) | (obtain ⟨_, _, _, _, _, _, _, _, _, _, _, _, _, _, _, _, _, rfl, _⟩ := h; rfl)
  · have hu := hu_of hr

    refine ⟨_, (pss_cons (ps_set (i := 2) sc__law_shifts.nd rfl (.inl rfl) pe_int)
      (pss_cons (ps_for PassesOwn.never rfl (pi_range1 (by rfl) b_range (pa_cons (pe_op op_mod (pe_callTy (call_int1) (by rfl) b_int (by decide +kernel) (pa_cons (pv 1) pa_nil)) pe_int) pa_nil)) (pg_name (i := 3) sc__law_shifts.nd rfl (.inl rfl)) (pss_one (ps_set (i := 2) sc__law_shifts.nd rfl (.inl rfl) (pe_op op_mul (pv 2) pe_int))))
      (pss_cons (ps_set (i := 4) sc__law_shifts.nd rfl (.inl rfl) (pe_call C_result.ok (hr.mono (by omega)) (by rfl) C_result.g C_result.kp C_result.b .nil pass0 (pa_cons pe_str (pa_cons (pv 0) (pa_cons (pv 1) pa_nil)))))
      (pss_cons (ps_if (PW.pt (pw_or (pt_not (pt_val (pe_call C__law_is_word.ok (hr.mono (by omega)) (by rfl) C__law_is_word.g C__law_is_word.kp C__law_is_word.b .nil pass0 (pa_cons (pv 4) pa_nil)))) (pw_or1 (pt_cmp (pc_neI (pe_op op_mod (pe_callTy (call_int1) (by rfl) b_int (by decide +kernel) (pa_cons (pe_op op_sub (pe_op op_mul (pv 0) (pv 2)) (pv 4)) pa_nil)) pe_int) pe_int))))) (pss_one (ps_ret pe_bl)) pss_nil)
      (pss_cons (ps_set (i := 4) sc__law_shifts.nd rfl (.inl rfl) (pe_call C_result.ok (hr.mono (by omega)) (by rfl) C_result.g C_result.kp C_result.b .nil pass0 (pa_cons pe_str (pa_cons (pv 0) (pa_cons (pv 1) pa_nil)))))
      (pss_one (ps_ret (pe_and (pe_call C__law_is_word.ok (hr.mono (by omega)) (by rfl) C__law_is_word.g C__law_is_word.kp C__law_is_word.b .nil pass0 (pa_cons (pv 4) pa_nil)) (pe_one (pe_chain op_le op_lt (pe_op op_mul (pv 4) (pv 2)) (pv 0) (pe_op op_add (pe_op op_mul (pv 4) (pv 2)) (pv 2)))))))))))), ?_⟩
    obtain ⟨a, b, rfl, wa, wb, q⟩ := h
    obtain ⟨a1, a2⟩ := id wa
    have hu0 : ∀ n : Nat, (0 : Int) < 2 ^ n := fun n => Int.pow_pos (by decide)
    refine ⟨_, rfl, .inl ⟨_, rfl, ?_⟩⟩
    refine ⟨_, _, rfl, rfl, (by show (0 : Int) < 32; decide), _, rfl, (by omega), (by omega), ?_⟩
    refine for_range (lo := 0) (n := (b % 32).toNat) (fun i σ H' => (∃ v, σ = [some (.int a), some (.int b), some (.int (2 ^ i)), v, none]) ∧ H' = H) ⟨⟨_, rfl⟩, rfl⟩ ?_ ?_
    · rintro i σ H' hi ⟨⟨v, rfl⟩, rfl⟩
      refine ⟨_, rfl, _, _, rfl, rfl, .inr ⟨by decide, by decide⟩, ⟨some (.int (0 + i)), ?_⟩, rfl⟩
      · rw [Int.pow_succ]; rfl
    · rintro σ H' ⟨⟨v, rfl⟩, rfl⟩
      have hp := hu0 (b % 32).toNat
      refine ⟨_, rfl, _, rfl, _, _, _, _, rfl, wa, wb, .shl _ _, _, rfl, _, rfl, wr_wd _, _, rfl, iteF ?_⟩
      refine ⟨_, rfl, _, rfl, _, _, rfl, rfl, .inl ⟨by omega, by omega⟩, _, rfl, _, _, rfl, rfl, .inl ⟨_, rfl, ?_⟩⟩
      refine ⟨_, _, rfl, rfl, (by show (0 : Int) < 4294967296; decide), _, _, rfl, rfl, _, rfl, iteDn (fun h3 => absurd (by unfold wr; omega) h3) (fun h3 => ?_)⟩
      have ws := sar_wd (b % 32).toNat wa
      obtain ⟨s1, s2⟩ := id ws
      have e1 : a / 2 ^ (b % 32).toNat * 2 ^ (b % 32).toNat ≤ a := Int.ediv_mul_le a (Int.ne_of_gt hp)
      have e2 : a < a / 2 ^ (b % 32).toNat * 2 ^ (b % 32).toNat + 2 ^ (b % 32).toNat := by
        have := Int.lt_ediv_add_one_mul_self a hp
        rw [Int.add_mul, Int.one_mul] at this; exact this
      refine ⟨_, rfl, _, rfl, _, _, _, _, rfl, wa, wb, .sar _ _, _, rfl, _, rfl, ws, _, rfl, iteT ?_⟩
      refine ⟨_, rfl, _, rfl, _, _, rfl, rfl, .inl ⟨by omega, by omega⟩, _, rfl, _, _, rfl, rfl, _, rfl, iteD (fun h6 => ?_) (fun h6 => absurd e1 h6)⟩
      exact ⟨_, rfl, _, rfl, _, _, rfl, rfl, .inl ⟨by omega, by omega⟩, _, rfl, _, _, rfl, rfl, _, _, rfl, rfl, dec_t (Q := Q) e2 q⟩
def sp_law (K : PySem.W.Frag) : Sp := fun vs H Q _ => ∃ (a : Addr) (ns : List Int), vs = [.ref a] ∧ SqL K H a (ns.map V.int) ∧ ns.length ≤ 63 ∧ ∀ H', Q (.bl true) H'
theorem ok_law {f : Addr} {fd : FuncData} (F : Fun K "law" "law" s_law f fd) {f__law_shifts : Addr} {fd__law_shifts : FuncData} (C__law_shifts : Callee P w K mg base 4 f__law_shifts fd__law_shifts "_law_shifts" ["a", "b"] (sp__law_shifts K)) {f__law_pool : Addr} {fd__law_pool : FuncData} (C__law_pool : Callee P w K mg base 1 f__law_pool fd__law_pool "_law_pool" ["script"] (sp__law_pool K)) {f__law_word : Addr} {fd__law_word : FuncData} (C__law_word : Callee P w K mg base 2 f__law_word fd__law_word "_law_word" ["pool"] (sp__law_word K)) {f__law_logic : Addr} {fd__law_logic : FuncData} (C__law_logic : Callee P w K mg base 4 f__law_logic fd__law_logic "_law_logic" ["a", "b"] (sp__law_logic K)) (b_int : mg "int" = none) : FnOk P w K mg base CX0 (5) f fd ["script"] (sp_law K) := by
  refine F.ok sc_law (fun vs H Q E h => ?_) (fun cdv A outer s H vs Q E hr h => ?_)
  · first | (obtain ⟨rfl, _⟩ := h; rfl) | (obtain ⟨_, rfl, _⟩ := h; rfl) | (obtain ⟨_, _, rfl, _⟩ := h; rfl) | (obtain ⟨_, _, _, rfl, _⟩ := h; rfl) | (obtain ⟨_, _, _, _, rfl, _⟩ := h; rfl) | (obtain ⟨_, _, _, _, _, rfl, _⟩ := h; rfl) | (obtain ⟨_, _, _, _, _, _, rfl, _⟩ := h; rfl) | (obtain ⟨_, _, _, _, _, _, _, rfl, _⟩ := h; rfl) | (obtain ⟨_, _, _, _, _, _, _, _, rfl, _⟩ := h; rfl) | (obtain ⟨_, _, _, _, _, _, _, _, _, rfl, _⟩ := h; rfl) | (obtain ⟨_, _, _, _, _, _, _, _, _, _, rfl, _⟩ := h; rfl) | (obtain ⟨_, _, _, _, _, _, _, _, _, _, _, rfl, _⟩ := h; rfl) | (obtain ⟨_, _, _, _, _, _, _, _, _, _, _, _, rfl, _⟩ := h; rfl) | (obtain ⟨_, _, _, _, _, _, _, _, _, _, _, _, _, rfl, _⟩ := h; rfl) | (obtain ⟨_, _, _, _, _, _, _, _, _, _, _, _, _, _, rfl, _⟩ := h; rfl) | (obtain ⟨_, _, _, _, _, _, _, _, _, _, _, _, _, _, _, rfl, _⟩ := h; rfl) | (obtain ⟨_, _, _, _, _, _, _, _, _, _, _, _, _, _, _, _, rfl, _⟩ := h; rfl) | (obtain ⟨_, _, _, _, _, _, _, _, _, _, _, _, _, _, _, _, _, rfl, _⟩ := h; rfl)
  · have hu := hu_of hr

    refine ⟨_, (pss_cons (ps_set (i := 1) sc_law.nd rfl (.inl rfl) (pe_call C__law_pool.ok (hr.mono (by omega)) (by rfl) C__law_pool.g C__law_pool.kp C__law_pool.b .nil pass0 (pa_cons (pv 0) pa_nil)))
      (pss_cons (ps_set (i := 2) sc_law.nd rfl (.inl rfl) (pe_call C__law_word.ok (hr.mono (by omega)) (by rfl) C__law_word.g C__law_word.kp C__law_word.b .nil pass0 (pa_cons (pv 1) pa_nil)))
      (pss_cons (ps_set (i := 3) sc_law.nd rfl (.inl rfl) (pe_call C__law_word.ok (hr.mono (by omega)) (by rfl) C__law_word.g C__law_word.kp C__law_word.b .nil pass0 (pa_cons (pv 1) pa_nil)))
      (pss_cons (ps_set (i := 4) sc_law.nd rfl (.inl rfl) (pe_lst (pa_cons (pe_tup (pa_cons (pv 2) (pa_cons (pv 3) pa_nil))) (pa_cons (pe_tup (pa_cons (pv 3) (pa_cons (pv 2) pa_nil))) (pa_cons (pe_tup (pa_cons (pv 2) (pa_cons (pv 2) pa_nil))) (pa_cons (pe_tup (pa_cons (pv 2) (pa_cons (pe_un un_neg pe_int) pa_nil))) (pa_cons (pe_tup (pa_cons (pv 2) (pa_cons pe_int pa_nil))) pa_nil)))))))
      (pss_cons (ps_for PassesOwn.never rfl (pi_list (pe_op op_cat (pv 4) (pe_lst (pa_cons (pe_tup (pa_cons (pv 2) (pa_cons (pv 3) pa_nil))) pa_nil)))) (pg_tup rfl (pgs_cons (pg_name (i := 5) sc_law.nd rfl (.inl rfl)) (pgs_cons (pg_name (i := 6) sc_law.nd rfl (.inl rfl)) pgs_nil))) (pss_one (ps_if (pt_not (pt_val (pe_call C__law_logic.ok (hr.mono (by omega)) (by rfl) C__law_logic.g C__law_logic.kp C__law_logic.b .nil pass0 (pa_cons (pv 5) (pa_cons (pv 6) pa_nil))))) (pss_one (ps_ret pe_bl)) pss_nil)))
      (pss_cons (ps_set (i := 7) sc_law.nd rfl (.inl rfl) (pe_op op_mod (pe_callTy (call_int1) (by rfl) b_int (by decide +kernel) (pa_cons (pv 3) pa_nil)) pe_int))
      (pss_cons (ps_set (i := 8) sc_law.nd rfl (.inl rfl) (pe_lst (pa_cons (pv 3) (pa_cons (pv 2) (pa_cons pe_int (pa_cons pe_int (pa_cons (pv 7) (pa_cons (pe_op op_sub (pv 7) pe_int) pa_nil))))))))
      (pss_cons (ps_for PassesOwn.never rfl (pi_list (pe_op op_cat (pv 8) (pe_lst (pa_cons (pe_op op_sub (pv 7) pe_int) (pa_cons (pe_op op_add (pv 7) pe_int) pa_nil))))) (pg_name (i := 9) sc_law.nd rfl (.inl rfl)) (pss_one (ps_if (pt_not (pt_val (pe_call C__law_shifts.ok (hr.mono (by omega)) (by rfl) C__law_shifts.g C__law_shifts.kp C__law_shifts.b .nil pass0 (pa_cons (pv 2) (pa_cons (pv 9) pa_nil))))) (pss_one (ps_ret pe_bl)) pss_nil)))
      (pss_one (ps_ret (pe_call C__law_shifts.ok (hr.mono (by omega)) (by rfl) C__law_shifts.g C__law_shifts.kp C__law_shifts.b .nil pass0 (pa_cons (pv 3) (pa_cons (pv 2) pa_nil))))))))))))), ?_⟩
    obtain ⟨a, ns, rfl, hS, hl, q⟩ := h
    refine ⟨_, rfl, _, _, rfl, hS, hl, fun H1 p1 S1 n1 P1 => ?_⟩
    refine ⟨_, rfl, _, rfl, P1, fun H2 r2 bt2 P2 w2 => ?_⟩
    refine ⟨_, rfl, _, rfl, P2, fun H3 r3 bt3 P3 w3 => ?_⟩
    refine ⟨_, rfl, _, rfl, (by show (2 : Nat) ≤ sizeLine; decide), fun p4 np4 => ?_⟩
    refine ⟨_, rfl, _, rfl, (by show (2 : Nat) ≤ sizeLine; decide), fun p5 np5 => ?_⟩
    refine ⟨_, rfl, _, rfl, (by show (2 : Nat) ≤ sizeLine; decide), fun p6 np6 => ?_⟩
    refine ⟨_, rfl, _, rfl, (by show (2 : Nat) ≤ sizeLine; decide), fun p7 np7 => ?_⟩
    refine ⟨_, rfl, (by show (2 : Nat) ≤ sizeLine; decide), fun p8 np8 => ?_⟩
    refine ⟨(by show (5 : Nat) ≤ sizeLine; decide), fun p9 np9 => ?_⟩
    refine ⟨_, rfl, _, rfl, _, rfl, (by show (2 : Nat) ≤ sizeLine; decide), fun p10 np10 => ?_⟩
    refine ⟨(by show (1 : Nat) ≤ sizeLine; decide), fun p11 np11 => ?_⟩
    refine ⟨_, _, _, _, rfl, rfl, (by repeat (first | exact upd_same | assumption | refine keep ?_ (by assumption))), (by repeat (first | exact upd_same | assumption | refine keep ?_ (by assumption))), (by show (6 : Nat) ≤ sizeLine; decide), fun p12 np12 => ?_⟩
    generalize hH : upd _ p12 _ = HH
    have T12 : HH p12 = some (.lst ([V.ref p4, .ref p5, .ref p6, .ref p7, .ref p8] ++ [.ref p10])) := by rw [← hH]; exact upd_same
    have w1 : wd (-1) := ⟨by decide, by decide⟩
    have w0 : wd 0 := ⟨by decide, by decide⟩
    have g0 : ∀ y ∈ [V.ref p4, .ref p5, .ref p6, .ref p7, .ref p8] ++ [.ref p10], ∃ t u z, y = .ref t ∧ HH t = some (.tup [.int u, .int z]) ∧ wd u ∧ wd z := by
      intro y hm
      rw [← hH]
      simp only [List.cons_append, List.nil_append, List.mem_cons, List.not_mem_nil, or_false] at hm
      rcases hm with rfl | rfl | rfl | rfl | rfl | rfl
      · exact ⟨_, r2, r3, rfl, (by repeat (first | exact upd_same | assumption | refine keep ?_ (by assumption))), w2, w3⟩
      · exact ⟨_, r3, r2, rfl, (by repeat (first | exact upd_same | assumption | refine keep ?_ (by assumption))), w3, w2⟩
      · exact ⟨_, r2, r2, rfl, (by repeat (first | exact upd_same | assumption | refine keep ?_ (by assumption))), w2, w2⟩
      · exact ⟨_, r2, -1, rfl, (by repeat (first | exact upd_same | assumption | refine keep ?_ (by assumption))), w2, w1⟩
      · exact ⟨_, r2, 0, rfl, (by repeat (first | exact upd_same | assumption | refine keep ?_ (by assumption))), w2, w0⟩
      · exact ⟨_, r2, r3, rfl, (by repeat (first | exact upd_same | assumption | refine keep ?_ (by assumption))), w2, w3⟩
    clear hH
    refine ⟨_, rfl, ⟨_, .inl (.inl T12)⟩, ?_⟩
    refine for_list (xs := [V.ref p4, .ref p5, .ref p6, .ref p7, .ref p8] ++ [.ref p10]) (fun i σ H' => (∃ v w, σ = [some (.ref a), some (.ref p1), some (.int r2), some (.int r3), some (.ref p9), v, w, none, none, none]) ∧ Same HH H') ⟨⟨_, _, rfl⟩, Same.refl _⟩ (fun i σ H' _ e => .inl (.inl (e.2 _ _ T12))) ?_ ?_
    · rintro i y σ H' hy ⟨⟨v, w, rfl⟩, e⟩
      obtain ⟨t, u, z, rfl, hT, wu, wz⟩ := g0 y (List.mem_of_getElem? hy)
      refine ⟨t, _, rfl, .inl (.inl (e _ _ hT)), rfl, _, _, rfl, _, _, rfl, rfl, _, rfl, _, rfl, _, _, rfl, wu, wz, fun H6 S6 => ?_⟩
      refine ⟨_, rfl, iteF ?_⟩
      exact ⟨⟨_, _, rfl⟩, e.trans S6⟩
    · rintro σ H' ⟨⟨v, w, rfl⟩, e⟩
      obtain ⟨u1, u2⟩ := id w3
      refine ⟨_, rfl, .inl ⟨_, rfl, ?_⟩⟩
      refine ⟨_, _, rfl, rfl, (by show (0 : Int) < 32; decide), _, rfl, _, rfl, _, rfl, _, rfl, _, _, rfl, rfl, (by show (6 : Nat) ≤ sizeLine; decide), fun p14 np14 => ?_⟩
      refine ⟨_, rfl, _, rfl, _, _, rfl, rfl, _, rfl, _, _, rfl, rfl, (by show (2 : Nat) ≤ sizeLine; decide), fun p15 np15 => ?_⟩
      refine ⟨_, _, _, _, rfl, rfl, (by repeat (first | exact upd_same | assumption | refine keep ?_ (by assumption))), (by repeat (first | exact upd_same | assumption | refine keep ?_ (by assumption))), (by show (8 : Nat) ≤ sizeLine; decide), fun p16 np16 => ?_⟩
      have g1 : ∀ y ∈ [V.int r3, .int r2, .int 0, .int 31, .int (r3 % 32), .int (r3 % 32 - 32)] ++ [V.int (r3 % 32 - 2147483648), V.int (r3 % 32 + 2147483616)], ∃ z, y = .int z ∧ wd z := by
        intro y hm
        simp only [List.cons_append, List.nil_append, List.mem_cons, List.not_mem_nil, or_false] at hm
        rcases hm with rfl | rfl | rfl | rfl | rfl | rfl | rfl | rfl
        · exact ⟨_, rfl, w3⟩
        · exact ⟨_, rfl, w2⟩
        all_goals exact ⟨_, rfl, by omega, by omega⟩
      refine ⟨_, rfl, ⟨_, .inl (.inl upd_same)⟩, ?_⟩
      refine for_list (xs := [V.int r3, .int r2, .int 0, .int 31, .int (r3 % 32), .int (r3 % 32 - 32)] ++ [V.int (r3 % 32 - 2147483648), V.int (r3 % 32 + 2147483616)]) (fun i σ H' => (∃ z, σ = [some (.ref a), some (.ref p1), some (.int r2), some (.int r3), some (.ref p9), v, w, some (.int (r3 % 32)), some (.ref p14), z]) ∧ SqL K H' p16 ([V.int r3, .int r2, .int 0, .int 31, .int (r3 % 32), .int (r3 % 32 - 32)] ++ [V.int (r3 % 32 - 2147483648), V.int (r3 % 32 + 2147483616)])) ⟨⟨_, rfl⟩, .inl (.inl upd_same)⟩ (fun i σ H' _ e => e.2) ?_ ?_
      · rintro i y σ H8 hy ⟨⟨z, rfl⟩, e8⟩
        obtain ⟨n, rfl, wn⟩ := g1 y (List.mem_of_getElem? hy)
        refine ⟨_, rfl, _, rfl, _, _, rfl, w2, wn, _, rfl, iteF ?_⟩
        exact ⟨⟨_, rfl⟩, e8⟩
      · rintro σ H8 ⟨⟨z, rfl⟩, e8⟩
        exact ⟨_, rfl, _, rfl, _, _, rfl, w3, w2, q _⟩

end
theorem all_mk {l : PySem.W.OpenLaw} {w : World} {K : PySem.W.Frag} {h : Heap} {mg : Str → Option Value} {fa f0 f1 f2 f3 f4 f5 f6 f7 f8 f9 f10 f11 f12 f13 f14 f15 f16 f17 f18 f19 f20 f21 f22 f23 f24 : Addr} (X : K.In h) (G : h.Ns mainGlobals mg) (hfa : mg "law" = some (.ref fa))
    {od0 an0 od1 an1 od2 an2 od3 an3 od4 an4 od5 an5 od6 an6 od7 an7 od8 an8 od9 an9 od10 an10 od11 an11 od12 an12 od13 an13 od14 an14 od15 an15 od16 an16 od17 an17 od18 an18 od19 an19 od20 an20 od21 an21 od22 an22 od23 an23 od24 an24 : Option Addr} {sl0 sl1 sl2 sl3 sl4 sl5 sl6 sl7 sl8 sl9 sl10 sl11 sl12 sl13 sl14 sl15 sl16 sl17 sl18 sl19 sl20 sl21 sl22 sl23 sl24 : Array (Option Value)} {oc0 kV0 dc0 pm0 cd0 ct0 oc1 kV1 dc1 pm1 cd1 ct1 oc2 kV2 dc2 pm2 cd2 ct2 oc3 kV3 dc3 pm3 cd3 ct3 oc4 kV4 dc4 pm4 cd4 ct4 oc5 kV5 dc5 pm5 cd5 ct5 oc6 kV6 dc6 pm6 cd6 ct6 oc7 kV7 dc7 pm7 cd7 ct7 oc8 kV8 dc8 pm8 cd8 ct8 oc9 kV9 dc9 pm9 cd9 ct9 oc10 kV10 dc10 pm10 cd10 ct10 oc11 kV11 dc11 pm11 cd11 ct11 oc12 kV12 dc12 pm12 cd12 ct12 oc13 kV13 dc13 pm13 cd13 ct13 oc14 kV14 dc14 pm14 cd14 ct14 oc15 kV15 dc15 pm15 cd15 ct15 oc16 kV16 dc16 pm16 cd16 ct16 oc17 kV17 dc17 pm17 cd17 ct17 oc18 kV18 dc18 pm18 cd18 ct18 oc19 kV19 dc19 pm19 cd19 ct19 oc20 kV20 dc20 pm20 cd20 ct20 oc21 kV21 dc21 pm21 cd21 ct21 oc22 kV22 dc22 pm22 cd22 ct22 oc23 kV23 dc23 pm23 cd23 ct23 oc24 kV24 dc24 pm24 cd24 ct24 : Value}
    (a0 : PySem.W.nsIn K mainGlobals "wrap" = some (some (.ref f0))) (l0 : K.lookup f0 = some ⟨oc0, od0, .func (PySem.W.fnOf "wrap" "wrap" (defArgs s_wrap) (defBody s_wrap) (defScope s_wrap) .none kV0 dc0 pm0 an0 cd0 ct0), sl0⟩) (c0 : PySem.W.codeIn K cd0 "wrap" = true) (k0 : PySem.W.keepIn K (.ref f0) = true)
    (a1 : PySem.W.nsIn K mainGlobals "plus" = some (some (.ref f1))) (l1 : K.lookup f1 = some ⟨oc1, od1, .func (PySem.W.fnOf "plus" "plus" (defArgs s_plus) (defBody s_plus) (defScope s_plus) .none kV1 dc1 pm1 an1 cd1 ct1), sl1⟩) (c1 : PySem.W.codeIn K cd1 "plus" = true) (k1 : PySem.W.keepIn K (.ref f1) = true)
    (a2 : PySem.W.nsIn K mainGlobals "minus" = some (some (.ref f2))) (l2 : K.lookup f2 = some ⟨oc2, od2, .func (PySem.W.fnOf "minus" "minus" (defArgs s_minus) (defBody s_minus) (defScope s_minus) .none kV2 dc2 pm2 an2 cd2 ct2), sl2⟩) (c2 : PySem.W.codeIn K cd2 "minus" = true) (k2 : PySem.W.keepIn K (.ref f2) = true)
    (a3 : PySem.W.nsIn K mainGlobals "times" = some (some (.ref f3))) (l3 : K.lookup f3 = some ⟨oc3, od3, .func (PySem.W.fnOf "times" "times" (defArgs s_times) (defBody s_times) (defScope s_times) .none kV3 dc3 pm3 an3 cd3 ct3), sl3⟩) (c3 : PySem.W.codeIn K cd3 "times" = true) (k3 : PySem.W.keepIn K (.ref f3) = true)
    (a4 : PySem.W.nsIn K mainGlobals "both" = some (some (.ref f4))) (l4 : K.lookup f4 = some ⟨oc4, od4, .func (PySem.W.fnOf "both" "both" (defArgs s_both) (defBody s_both) (defScope s_both) .none kV4 dc4 pm4 an4 cd4 ct4), sl4⟩) (c4 : PySem.W.codeIn K cd4 "both" = true) (k4 : PySem.W.keepIn K (.ref f4) = true)
    (a5 : PySem.W.nsIn K mainGlobals "either" = some (some (.ref f5))) (l5 : K.lookup f5 = some ⟨oc5, od5, .func (PySem.W.fnOf "either" "either" (defArgs s_either) (defBody s_either) (defScope s_either) .none kV5 dc5 pm5 an5 cd5 ct5), sl5⟩) (c5 : PySem.W.codeIn K cd5 "either" = true) (k5 : PySem.W.keepIn K (.ref f5) = true)
    (a6 : PySem.W.nsIn K mainGlobals "differing" = some (some (.ref f6))) (l6 : K.lookup f6 = some ⟨oc6, od6, .func (PySem.W.fnOf "differing" "differing" (defArgs s_differing) (defBody s_differing) (defScope s_differing) .none kV6 dc6 pm6 an6 cd6 ct6), sl6⟩) (c6 : PySem.W.codeIn K cd6 "differing" = true) (k6 : PySem.W.keepIn K (.ref f6) = true)
    (a7 : PySem.W.nsIn K mainGlobals "shifted_left" = some (some (.ref f7))) (l7 : K.lookup f7 = some ⟨oc7, od7, .func (PySem.W.fnOf "shifted_left" "shifted_left" (defArgs s_shifted_left) (defBody s_shifted_left) (defScope s_shifted_left) .none kV7 dc7 pm7 an7 cd7 ct7), sl7⟩) (c7 : PySem.W.codeIn K cd7 "shifted_left" = true) (k7 : PySem.W.keepIn K (.ref f7) = true)
    (a8 : PySem.W.nsIn K mainGlobals "shifted_right" = some (some (.ref f8))) (l8 : K.lookup f8 = some ⟨oc8, od8, .func (PySem.W.fnOf "shifted_right" "shifted_right" (defArgs s_shifted_right) (defBody s_shifted_right) (defScope s_shifted_right) .none kV8 dc8 pm8 an8 cd8 ct8), sl8⟩) (c8 : PySem.W.codeIn K cd8 "shifted_right" = true) (k8 : PySem.W.keepIn K (.ref f8) = true)
    (a9 : PySem.W.nsIn K mainGlobals "less" = some (some (.ref f9))) (l9 : K.lookup f9 = some ⟨oc9, od9, .func (PySem.W.fnOf "less" "less" (defArgs s_less) (defBody s_less) (defScope s_less) .none kV9 dc9 pm9 an9 cd9 ct9), sl9⟩) (c9 : PySem.W.codeIn K cd9 "less" = true) (k9 : PySem.W.keepIn K (.ref f9) = true)
    (a10 : PySem.W.nsIn K mainGlobals "at_most" = some (some (.ref f10))) (l10 : K.lookup f10 = some ⟨oc10, od10, .func (PySem.W.fnOf "at_most" "at_most" (defArgs s_at_most) (defBody s_at_most) (defScope s_at_most) .none kV10 dc10 pm10 an10 cd10 ct10), sl10⟩) (c10 : PySem.W.codeIn K cd10 "at_most" = true) (k10 : PySem.W.keepIn K (.ref f10) = true)
    (a11 : PySem.W.nsIn K mainGlobals "same" = some (some (.ref f11))) (l11 : K.lookup f11 = some ⟨oc11, od11, .func (PySem.W.fnOf "same" "same" (defArgs s_same) (defBody s_same) (defScope s_same) .none kV11 dc11 pm11 an11 cd11 ct11), sl11⟩) (c11 : PySem.W.codeIn K cd11 "same" = true) (k11 : PySem.W.keepIn K (.ref f11) = true)
    (a12 : PySem.W.nsIn K mainGlobals "other" = some (some (.ref f12))) (l12 : K.lookup f12 = some ⟨oc12, od12, .func (PySem.W.fnOf "other" "other" (defArgs s_other) (defBody s_other) (defScope s_other) .none kV12 dc12 pm12 an12 cd12 ct12), sl12⟩) (c12 : PySem.W.codeIn K cd12 "other" = true) (k12 : PySem.W.keepIn K (.ref f12) = true)
    (a13 : PySem.W.nsIn K mainGlobals "cut_off" = some (some (.ref f13))) (l13 : K.lookup f13 = some ⟨oc13, od13, .func (PySem.W.fnOf "cut_off" "cut_off" (defArgs s_cut_off) (defBody s_cut_off) (defScope s_cut_off) .none kV13 dc13 pm13 an13 cd13 ct13), sl13⟩) (c13 : PySem.W.codeIn K cd13 "cut_off" = true) (k13 : PySem.W.keepIn K (.ref f13) = true)
    (a14 : PySem.W.nsIn K mainGlobals "quotient" = some (some (.ref f14))) (l14 : K.lookup f14 = some ⟨oc14, od14, .func (PySem.W.fnOf "quotient" "quotient" (defArgs s_quotient) (defBody s_quotient) (defScope s_quotient) .none kV14 dc14 pm14 an14 cd14 ct14), sl14⟩) (c14 : PySem.W.codeIn K cd14 "quotient" = true) (k14 : PySem.W.keepIn K (.ref f14) = true)
    (a15 : PySem.W.nsIn K mainGlobals "remainder" = some (some (.ref f15))) (l15 : K.lookup f15 = some ⟨oc15, od15, .func (PySem.W.fnOf "remainder" "remainder" (defArgs s_remainder) (defBody s_remainder) (defScope s_remainder) .none kV15 dc15 pm15 an15 cd15 ct15), sl15⟩) (c15 : PySem.W.codeIn K cd15 "remainder" = true) (k15 : PySem.W.keepIn K (.ref f15) = true)
    (a16 : PySem.W.nsIn K mainGlobals "result" = some (some (.ref f16))) (l16 : K.lookup f16 = some ⟨oc16, od16, .func (PySem.W.fnOf "result" "result" (defArgs s_result) (defBody s_result) (defScope s_result) .none kV16 dc16 pm16 an16 cd16 ct16), sl16⟩) (c16 : PySem.W.codeIn K cd16 "result" = true) (k16 : PySem.W.keepIn K (.ref f16) = true)
    (a17 : PySem.W.nsIn K mainGlobals "_law_pool" = some (some (.ref f17))) (l17 : K.lookup f17 = some ⟨oc17, od17, .func (PySem.W.fnOf "_law_pool" "_law_pool" (defArgs s__law_pool) (defBody s__law_pool) (defScope s__law_pool) .none kV17 dc17 pm17 an17 cd17 ct17), sl17⟩) (c17 : PySem.W.codeIn K cd17 "_law_pool" = true) (k17 : PySem.W.keepIn K (.ref f17) = true)
    (a18 : PySem.W.nsIn K mainGlobals "_law_draw" = some (some (.ref f18))) (l18 : K.lookup f18 = some ⟨oc18, od18, .func (PySem.W.fnOf "_law_draw" "_law_draw" (defArgs s__law_draw) (defBody s__law_draw) (defScope s__law_draw) .none kV18 dc18 pm18 an18 cd18 ct18), sl18⟩) (c18 : PySem.W.codeIn K cd18 "_law_draw" = true) (k18 : PySem.W.keepIn K (.ref f18) = true)
    (a19 : PySem.W.nsIn K mainGlobals "_law_word" = some (some (.ref f19))) (l19 : K.lookup f19 = some ⟨oc19, od19, .func (PySem.W.fnOf "_law_word" "_law_word" (defArgs s__law_word) (defBody s__law_word) (defScope s__law_word) .none kV19 dc19 pm19 an19 cd19 ct19), sl19⟩) (c19 : PySem.W.codeIn K cd19 "_law_word" = true) (k19 : PySem.W.keepIn K (.ref f19) = true)
    (a20 : PySem.W.nsIn K mainGlobals "_law_is_word" = some (some (.ref f20))) (l20 : K.lookup f20 = some ⟨oc20, od20, .func (PySem.W.fnOf "_law_is_word" "_law_is_word" (defArgs s__law_is_word) (defBody s__law_is_word) (defScope s__law_is_word) .none kV20 dc20 pm20 an20 cd20 ct20), sl20⟩) (c20 : PySem.W.codeIn K cd20 "_law_is_word" = true) (k20 : PySem.W.keepIn K (.ref f20) = true)
    (a21 : PySem.W.nsIn K mainGlobals "_law_bits" = some (some (.ref f21))) (l21 : K.lookup f21 = some ⟨oc21, od21, .func (PySem.W.fnOf "_law_bits" "_law_bits" (defArgs s__law_bits) (defBody s__law_bits) (defScope s__law_bits) .none kV21 dc21 pm21 an21 cd21 ct21), sl21⟩) (c21 : PySem.W.codeIn K cd21 "_law_bits" = true) (k21 : PySem.W.keepIn K (.ref f21) = true)
    (a22 : PySem.W.nsIn K mainGlobals "_law_logic" = some (some (.ref f22))) (l22 : K.lookup f22 = some ⟨oc22, od22, .func (PySem.W.fnOf "_law_logic" "_law_logic" (defArgs s__law_logic) (defBody s__law_logic) (defScope s__law_logic) .none kV22 dc22 pm22 an22 cd22 ct22), sl22⟩) (c22 : PySem.W.codeIn K cd22 "_law_logic" = true) (k22 : PySem.W.keepIn K (.ref f22) = true)
    (a23 : PySem.W.nsIn K mainGlobals "_law_shifts" = some (some (.ref f23))) (l23 : K.lookup f23 = some ⟨oc23, od23, .func (PySem.W.fnOf "_law_shifts" "_law_shifts" (defArgs s__law_shifts) (defBody s__law_shifts) (defScope s__law_shifts) .none kV23 dc23 pm23 an23 cd23 ct23), sl23⟩) (c23 : PySem.W.codeIn K cd23 "_law_shifts" = true) (k23 : PySem.W.keepIn K (.ref f23) = true)
    (a24 : PySem.W.nsIn K mainGlobals "law" = some (some (.ref f24))) (l24 : K.lookup f24 = some ⟨oc24, od24, .func (PySem.W.fnOf "law" "law" (defArgs s_law) (defBody s_law) (defScope s_law) .none kV24 dc24 pm24 an24 cd24 ct24), sl24⟩) (c24 : PySem.W.codeIn K cd24 "law" = true) (k24 : PySem.W.keepIn K (.ref f24) = true)
    (z_abs : PySem.W.nsIn K mainGlobals "abs" = some none)
    (z_list : PySem.W.nsIn K mainGlobals "list" = some none)
    (z_len : PySem.W.nsIn K mainGlobals "len" = some none)
    (z_int : PySem.W.nsIn K mainGlobals "int" = some none)
    (z_isinstance : PySem.W.nsIn K mainGlobals "isinstance" = some none)
    (z_bool : PySem.W.nsIn K mainGlobals "bool" = some none)
    (z_range : PySem.W.nsIn K mainGlobals "range" = some none)
    {tL : Tok} (zL : PySem.W.nsIn K mainGlobals "LEAST" = some (some (.int (-2147483648) tL)))
    {dA : Addr} (zA : PySem.W.nsIn K mainGlobals "ACTIONS" = some (some (.ref dA))) {esA : Array DictEntry} {nA : Nat} (zD : K.lookup dA = some ⟨.type "dict", none, .dict esA nA, #[]⟩) (zLit : PySem.W.KeysLit w.params esA.toList) (zS : (dA == sysModules) = false) (ze_add : PySem.W.nsIn K dA "add" = some (some (.ref f1))) (ze_sub : PySem.W.nsIn K dA "sub" = some (some (.ref f2))) (ze_mul : PySem.W.nsIn K dA "mul" = some (some (.ref f3))) (ze_and : PySem.W.nsIn K dA "and" = some (some (.ref f4))) (ze_or : PySem.W.nsIn K dA "or" = some (some (.ref f5))) (ze_xor : PySem.W.nsIn K dA "xor" = some (some (.ref f6))) (ze_shl : PySem.W.nsIn K dA "shl" = some (some (.ref f7))) (ze_sar : PySem.W.nsIn K dA "sar" = some (some (.ref f8))) (ze_lt : PySem.W.nsIn K dA "lt" = some (some (.ref f9))) (ze_le : PySem.W.nsIn K dA "le" = some (some (.ref f10))) (ze_eq : PySem.W.nsIn K dA "eq" = some (some (.ref f11))) (ze_ne : PySem.W.nsIn K dA "ne" = some (some (.ref f12))) (ze_quo : PySem.W.nsIn K dA "quo" = some (some (.ref f14))) (ze_mod : PySem.W.nsIn K dA "mod" = some (some (.ref f15)))
    : ∃ fd : FuncData, (∀ (s : Shared) (v : Value), BindsTo s fd ⟨[v], []⟩ [("script", v)]) ∧ ∀ base : Heap, K.In base → base.Ns mainGlobals mg → FnOk l.prog w K mg base CX0 5 fa fd ["script"] (sp_law K) := by
  have e := hfa.symm.trans (PySem.W.mg_of X G a24)
  cases e
  have F0 := fun_mk (st := s_wrap) l0 c0 k0
  have B0 := F0.binds (ps := ["n"]) fun _ _ _ _ _ _ us hl => match us, hl with | [_], _ => rfl
  have F1 := fun_mk (st := s_plus) l1 c1 k1
  have B1 := F1.binds (ps := ["a", "b"]) fun _ _ _ _ _ _ us hl => match us, hl with | [_, _], _ => rfl
  have F2 := fun_mk (st := s_minus) l2 c2 k2
  have B2 := F2.binds (ps := ["a", "b"]) fun _ _ _ _ _ _ us hl => match us, hl with | [_, _], _ => rfl
  have F3 := fun_mk (st := s_times) l3 c3 k3
  have B3 := F3.binds (ps := ["a", "b"]) fun _ _ _ _ _ _ us hl => match us, hl with | [_, _], _ => rfl
  have F4 := fun_mk (st := s_both) l4 c4 k4
  have B4 := F4.binds (ps := ["a", "b"]) fun _ _ _ _ _ _ us hl => match us, hl with | [_, _], _ => rfl
  have F5 := fun_mk (st := s_either) l5 c5 k5
  have B5 := F5.binds (ps := ["a", "b"]) fun _ _ _ _ _ _ us hl => match us, hl with | [_, _], _ => rfl
  have F6 := fun_mk (st := s_differing) l6 c6 k6
  have B6 := F6.binds (ps := ["a", "b"]) fun _ _ _ _ _ _ us hl => match us, hl with | [_, _], _ => rfl
  have F7 := fun_mk (st := s_shifted_left) l7 c7 k7
  have B7 := F7.binds (ps := ["a", "b"]) fun _ _ _ _ _ _ us hl => match us, hl with | [_, _], _ => rfl
  have F8 := fun_mk (st := s_shifted_right) l8 c8 k8
  have B8 := F8.binds (ps := ["a", "b"]) fun _ _ _ _ _ _ us hl => match us, hl with | [_, _], _ => rfl
  have F9 := fun_mk (st := s_less) l9 c9 k9
  have B9 := F9.binds (ps := ["a", "b"]) fun _ _ _ _ _ _ us hl => match us, hl with | [_, _], _ => rfl
  have F10 := fun_mk (st := s_at_most) l10 c10 k10
  have B10 := F10.binds (ps := ["a", "b"]) fun _ _ _ _ _ _ us hl => match us, hl with | [_, _], _ => rfl
  have F11 := fun_mk (st := s_same) l11 c11 k11
  have B11 := F11.binds (ps := ["a", "b"]) fun _ _ _ _ _ _ us hl => match us, hl with | [_, _], _ => rfl
  have F12 := fun_mk (st := s_other) l12 c12 k12
  have B12 := F12.binds (ps := ["a", "b"]) fun _ _ _ _ _ _ us hl => match us, hl with | [_, _], _ => rfl
  have F13 := fun_mk (st := s_cut_off) l13 c13 k13
  have B13 := F13.binds (ps := ["a", "b"]) fun _ _ _ _ _ _ us hl => match us, hl with | [_, _], _ => rfl
  have F14 := fun_mk (st := s_quotient) l14 c14 k14
  have B14 := F14.binds (ps := ["a", "b"]) fun _ _ _ _ _ _ us hl => match us, hl with | [_, _], _ => rfl
  have F15 := fun_mk (st := s_remainder) l15 c15 k15
  have B15 := F15.binds (ps := ["a", "b"]) fun _ _ _ _ _ _ us hl => match us, hl with | [_, _], _ => rfl
  have F16 := fun_mk (st := s_result) l16 c16 k16
  have B16 := F16.binds (ps := ["name", "a", "b"]) fun _ _ _ _ _ _ us hl => match us, hl with | [_, _, _], _ => rfl
  have F17 := fun_mk (st := s__law_pool) l17 c17 k17
  have B17 := F17.binds (ps := ["script"]) fun _ _ _ _ _ _ us hl => match us, hl with | [_], _ => rfl
  have F18 := fun_mk (st := s__law_draw) l18 c18 k18
  have B18 := F18.binds (ps := ["pool", "many"]) fun _ _ _ _ _ _ us hl => match us, hl with | [_, _], _ => rfl
  have F19 := fun_mk (st := s__law_word) l19 c19 k19
  have B19 := F19.binds (ps := ["pool"]) fun _ _ _ _ _ _ us hl => match us, hl with | [_], _ => rfl
  have F20 := fun_mk (st := s__law_is_word) l20 c20 k20
  have B20 := F20.binds (ps := ["said"]) fun _ _ _ _ _ _ us hl => match us, hl with | [_], _ => rfl
  have F21 := fun_mk (st := s__law_bits) l21 c21 k21
  have B21 := F21.binds (ps := ["x"]) fun _ _ _ _ _ _ us hl => match us, hl with | [_], _ => rfl
  have F22 := fun_mk (st := s__law_logic) l22 c22 k22
  have B22 := F22.binds (ps := ["a", "b"]) fun _ _ _ _ _ _ us hl => match us, hl with | [_, _], _ => rfl
  have F23 := fun_mk (st := s__law_shifts) l23 c23 k23
  have B23 := F23.binds (ps := ["a", "b"]) fun _ _ _ _ _ _ us hl => match us, hl with | [_, _], _ => rfl
  have F24 := fun_mk (st := s_law) l24 c24 k24
  have B24 := F24.binds (ps := ["script"]) fun _ _ _ _ _ _ us hl => match us, hl with | [_], _ => rfl
  skip
  have D : KDict K w dA esA nA := ⟨zD, zLit, zS⟩
  refine ⟨PySem.W.fnOf "law" "law" (defArgs s_law) (defBody s_law) (defScope s_law) .none kV24 dc24 pm24 an24 cd24 ct24, fun s v => .of_eq rfl, fun base _ _ => ?_⟩
  have O0 := ok_wrap (P := l.prog) (w := w) (mg := mg) (base := base) F0 ⟨_, PySem.W.mg_of X G zL⟩
  have C0 : Callee l.prog w K mg base 1 f0 _ "wrap" _ (sp_wrap K) := ⟨O0, k0, B0, PySem.W.mg_of X G a0⟩
  have O1 := ok_plus (P := l.prog) (w := w) (mg := mg) (base := base) F1 C0
  have C1 : Callee l.prog w K mg base 2 f1 _ "plus" _ (sp_plus K) := ⟨O1, k1, B1, PySem.W.mg_of X G a1⟩
  have O2 := ok_minus (P := l.prog) (w := w) (mg := mg) (base := base) F2 C0
  have C2 : Callee l.prog w K mg base 2 f2 _ "minus" _ (sp_minus K) := ⟨O2, k2, B2, PySem.W.mg_of X G a2⟩
  have O3 := ok_times (P := l.prog) (w := w) (mg := mg) (base := base) F3 C0
  have C3 : Callee l.prog w K mg base 2 f3 _ "times" _ (sp_times K) := ⟨O3, k3, B3, PySem.W.mg_of X G a3⟩
  have O4 := ok_both (P := l.prog) (w := w) (mg := mg) (base := base) F4
  have C4 : Callee l.prog w K mg base 1 f4 _ "both" _ (sp_both K) := ⟨O4, k4, B4, PySem.W.mg_of X G a4⟩
  have O5 := ok_either (P := l.prog) (w := w) (mg := mg) (base := base) F5
  have C5 : Callee l.prog w K mg base 1 f5 _ "either" _ (sp_either K) := ⟨O5, k5, B5, PySem.W.mg_of X G a5⟩
  have O6 := ok_differing (P := l.prog) (w := w) (mg := mg) (base := base) F6
  have C6 : Callee l.prog w K mg base 1 f6 _ "differing" _ (sp_differing K) := ⟨O6, k6, B6, PySem.W.mg_of X G a6⟩
  have O7 := ok_shifted_left (P := l.prog) (w := w) (mg := mg) (base := base) F7 C0
  have C7 : Callee l.prog w K mg base 2 f7 _ "shifted_left" _ (sp_shifted_left K) := ⟨O7, k7, B7, PySem.W.mg_of X G a7⟩
  have O8 := ok_shifted_right (P := l.prog) (w := w) (mg := mg) (base := base) F8
  have C8 : Callee l.prog w K mg base 1 f8 _ "shifted_right" _ (sp_shifted_right K) := ⟨O8, k8, B8, PySem.W.mg_of X G a8⟩
  have O9 := ok_less (P := l.prog) (w := w) (mg := mg) (base := base) F9
  have C9 : Callee l.prog w K mg base 1 f9 _ "less" _ (sp_less K) := ⟨O9, k9, B9, PySem.W.mg_of X G a9⟩
  have O10 := ok_at_most (P := l.prog) (w := w) (mg := mg) (base := base) F10
  have C10 : Callee l.prog w K mg base 1 f10 _ "at_most" _ (sp_at_most K) := ⟨O10, k10, B10, PySem.W.mg_of X G a10⟩
  have O11 := ok_same (P := l.prog) (w := w) (mg := mg) (base := base) F11
  have C11 : Callee l.prog w K mg base 1 f11 _ "same" _ (sp_same K) := ⟨O11, k11, B11, PySem.W.mg_of X G a11⟩
  have O12 := ok_other (P := l.prog) (w := w) (mg := mg) (base := base) F12
  have C12 : Callee l.prog w K mg base 1 f12 _ "other" _ (sp_other K) := ⟨O12, k12, B12, PySem.W.mg_of X G a12⟩
  have O13 := ok_cut_off (P := l.prog) (w := w) (mg := mg) (base := base) F13 (PySem.W.mg_none_of X G z_abs)
  have C13 : Callee l.prog w K mg base 1 f13 _ "cut_off" _ (sp_cut_off K) := ⟨O13, k13, B13, PySem.W.mg_of X G a13⟩
  have O14 := ok_quotient (P := l.prog) (w := w) (mg := mg) (base := base) F14 C0 C13
  have C14 : Callee l.prog w K mg base 2 f14 _ "quotient" _ (sp_quotient K) := ⟨O14, k14, B14, PySem.W.mg_of X G a14⟩
  have O15 := ok_remainder (P := l.prog) (w := w) (mg := mg) (base := base) F15 C13
  have C15 : Callee l.prog w K mg base 2 f15 _ "remainder" _ (sp_remainder K) := ⟨O15, k15, B15, PySem.W.mg_of X G a15⟩
  have O16 := ok_result (P := l.prog) (w := w) (mg := mg) (base := base) F16 C1 C2 C3 C4 C5 C6 C7 C8 C9 C10 C11 C12 C14 C15 D (PySem.W.mg_of X G zA) ze_add ze_sub ze_mul ze_and ze_or ze_xor ze_shl ze_sar ze_lt ze_le ze_eq ze_ne ze_quo ze_mod
  have C16 : Callee l.prog w K mg base 3 f16 _ "result" _ (sp_result K) := ⟨O16, k16, B16, PySem.W.mg_of X G a16⟩
  have O17 := ok__law_pool (P := l.prog) (w := w) (mg := mg) (base := base) F17 (PySem.W.mg_none_of X G z_list)
  have C17 : Callee l.prog w K mg base 1 f17 _ "_law_pool" _ (sp__law_pool K) := ⟨O17, k17, B17, PySem.W.mg_of X G a17⟩
  have O18 := ok__law_draw (P := l.prog) (w := w) (mg := mg) (base := base) F18 (PySem.W.mg_none_of X G z_len) (PySem.W.mg_none_of X G z_abs) (PySem.W.mg_none_of X G z_int)
  have C18 : Callee l.prog w K mg base 1 f18 _ "_law_draw" _ (sp__law_draw K) := ⟨O18, k18, B18, PySem.W.mg_of X G a18⟩
  have O19 := ok__law_word (P := l.prog) (w := w) (mg := mg) (base := base) F19 C18
  have C19 : Callee l.prog w K mg base 2 f19 _ "_law_word" _ (sp__law_word K) := ⟨O19, k19, B19, PySem.W.mg_of X G a19⟩
  have O20 := ok__law_is_word (P := l.prog) (w := w) (mg := mg) (base := base) F20 (PySem.W.mg_none_of X G z_isinstance) (PySem.W.mg_none_of X G z_int) (PySem.W.mg_none_of X G z_bool)
  have C20 : Callee l.prog w K mg base 1 f20 _ "_law_is_word" _ (sp__law_is_word K) := ⟨O20, k20, B20, PySem.W.mg_of X G a20⟩
  have O21 := ok__law_bits (P := l.prog) (w := w) (mg := mg) (base := base) F21 (PySem.W.mg_none_of X G z_range) (PySem.W.mg_none_of X G z_int)
  have C21 : Callee l.prog w K mg base 1 f21 _ "_law_bits" _ (sp__law_bits K) := ⟨O21, k21, B21, PySem.W.mg_of X G a21⟩
  have O22 := ok__law_logic (P := l.prog) (w := w) (mg := mg) (base := base) F22 C21 C16 C20 (PySem.W.mg_none_of X G z_range)
  have C22 : Callee l.prog w K mg base 4 f22 _ "_law_logic" _ (sp__law_logic K) := ⟨O22, k22, B22, PySem.W.mg_of X G a22⟩
  have O23 := ok__law_shifts (P := l.prog) (w := w) (mg := mg) (base := base) F23 C20 C16 (PySem.W.mg_none_of X G z_range) (PySem.W.mg_none_of X G z_int)
  have C23 : Callee l.prog w K mg base 4 f23 _ "_law_shifts" _ (sp__law_shifts K) := ⟨O23, k23, B23, PySem.W.mg_of X G a23⟩
  have O24 := ok_law (P := l.prog) (w := w) (mg := mg) (base := base) F24 C23 C17 C19 C22 (PySem.W.mg_none_of X G z_int)
  exact O24
end Lk02
open PySem PySem.W PyProof.Rows
set_option maxRecDepth 100000 in
set_option maxHeartbeats 0 in
theorem PySem.Challenge.cw_sameruns_k02_bits_holds : PySem.Challenge.rw_sameruns_k02_bits.Holds := by
  w_on; o_law; k_head; (case hw => w_witness2)
  k_fill
  refine L2.walk_of (l := PySem.Challenge.rw_sameruns_k02_bits) (n := 63) (k := 5) (x := "script") (CX := fun _ => L2.CX0) (sp := fun w => Lk02.sp_law _) rfl (by decide) rfl ⟨rfl, by decide, by decide⟩ (fun w h Y => PySem.W.kIn_of Y) ?F (fun _ _ a ns hl _ hS => ⟨a, ns, rfl, hS, hl, fun _ => rfl⟩) (fun _ _ _ _ _ h => h)
  case F =>
    intro w mg fa h KX G hmg
    refine' Lk02.all_mk KX G hmg ?a0 ?l0 ?c0 ?k0 ?a1 ?l1 ?c1 ?k1 ?a2 ?l2 ?c2 ?k2 ?a3 ?l3 ?c3 ?k3 ?a4 ?l4 ?c4 ?k4 ?a5 ?l5 ?c5 ?k5 ?a6 ?l6 ?c6 ?k6 ?a7 ?l7 ?c7 ?k7 ?a8 ?l8 ?c8 ?k8 ?a9 ?l9 ?c9 ?k9 ?a10 ?l10 ?c10 ?k10 ?a11 ?l11 ?c11 ?k11 ?a12 ?l12 ?c12 ?k12 ?a13 ?l13 ?c13 ?k13 ?a14 ?l14 ?c14 ?k14 ?a15 ?l15 ?c15 ?k15 ?a16 ?l16 ?c16 ?k16 ?a17 ?l17 ?c17 ?k17 ?a18 ?l18 ?c18 ?k18 ?a19 ?l19 ?c19 ?k19 ?a20 ?l20 ?c20 ?k20 ?a21 ?l21 ?c21 ?k21 ?a22 ?l22 ?c22 ?k22 ?a23 ?l23 ?c23 ?k23 ?a24 ?l24 ?c24 ?k24 ?z_abs ?z_list ?z_len ?z_int ?z_isinstance ?z_bool ?z_range ?zL ?zA ?zD ?zLit ?zS ?ze_add ?ze_sub ?ze_mul ?ze_and ?ze_or ?ze_xor ?ze_shl ?ze_sar ?ze_lt ?ze_le ?ze_eq ?ze_ne ?ze_quo ?ze_mod
    (case a0 => k_is); (case l0 => k_is); (case c0 => k_is); (case k0 => k_is); (case a1 => k_is); (case l1 => k_is); (case c1 => k_is); (case k1 => k_is); (case a2 => k_is); (case l2 => k_is); (case c2 => k_is); (case k2 => k_is); (case a3 => k_is); (case l3 => k_is); (case c3 => k_is); (case k3 => k_is); (case a4 => k_is); (case l4 => k_is); (case c4 => k_is); (case k4 => k_is); (case a5 => k_is); (case l5 => k_is); (case c5 => k_is); (case k5 => k_is); (case a6 => k_is); (case l6 => k_is); (case c6 => k_is); (case k6 => k_is); (case a7 => k_is); (case l7 => k_is); (case c7 => k_is); (case k7 => k_is); (case a8 => k_is); (case l8 => k_is); (case c8 => k_is); (case k8 => k_is); (case a9 => k_is); (case l9 => k_is); (case c9 => k_is); (case k9 => k_is); (case a10 => k_is); (case l10 => k_is); (case c10 => k_is); (case k10 => k_is); (case a11 => k_is); (case l11 => k_is); (case c11 => k_is); (case k11 => k_is); (case a12 => k_is); (case l12 => k_is); (case c12 => k_is); (case k12 => k_is); (case a13 => k_is); (case l13 => k_is); (case c13 => k_is); (case k13 => k_is); (case a14 => k_is); (case l14 => k_is); (case c14 => k_is); (case k14 => k_is); (case a15 => k_is); (case l15 => k_is); (case c15 => k_is); (case k15 => k_is); (case a16 => k_is); (case l16 => k_is); (case c16 => k_is); (case k16 => k_is); (case a17 => k_is); (case l17 => k_is); (case c17 => k_is); (case k17 => k_is); (case a18 => k_is); (case l18 => k_is); (case c18 => k_is); (case k18 => k_is); (case a19 => k_is); (case l19 => k_is); (case c19 => k_is); (case k19 => k_is); (case a20 => k_is); (case l20 => k_is); (case c20 => k_is); (case k20 => k_is); (case a21 => k_is); (case l21 => k_is); (case c21 => k_is); (case k21 => k_is); (case a22 => k_is); (case l22 => k_is); (case c22 => k_is); (case k22 => k_is); (case a23 => k_is); (case l23 => k_is); (case c23 => k_is); (case k23 => k_is); (case a24 => k_is); (case l24 => k_is); (case c24 => k_is); (case k24 => k_is); (case z_abs => k_is); (case z_list => k_is); (case z_len => k_is); (case z_int => k_is); (case z_isinstance => k_is); (case z_bool => k_is); (case z_range => k_is); (case zL => k_is); (case zA => k_is); (case zD => k_is); (case zLit => (exact ⟨⟨_, _, rfl, rfl⟩, ⟨_, _, rfl, rfl⟩, ⟨_, _, rfl, rfl⟩, ⟨_, _, rfl, rfl⟩, ⟨_, _, rfl, rfl⟩, ⟨_, _, rfl, rfl⟩, ⟨_, _, rfl, rfl⟩, ⟨_, _, rfl, rfl⟩, ⟨_, _, rfl, rfl⟩, ⟨_, _, rfl, rfl⟩, ⟨_, _, rfl, rfl⟩, ⟨_, _, rfl, rfl⟩, ⟨_, _, rfl, rfl⟩, ⟨_, _, rfl, rfl⟩, trivial⟩)); (case zS => rfl); (case ze_add => k_is); (case ze_sub => k_is); (case ze_mul => k_is); (case ze_and => k_is); (case ze_or => k_is); (case ze_xor => k_is); (case ze_shl => k_is); (case ze_sar => k_is); (case ze_lt => k_is); (case ze_le => k_is); (case ze_eq => k_is); (case ze_ne => k_is); (case ze_quo => k_is); (case ze_mod => k_is)
