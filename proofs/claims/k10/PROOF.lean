import PyProof.Rows.All
import Wide.All
import OpenK.AllK
import Wide.FinOn
import HandS.ForMost
import HandS.Wide
import HandS.IsInst
import HandS.More
import HandS.Codes
import PySem.Challenge.RW_sameruns_k10_tokens
set_option Elab.async false
set_option linter.all false
set_option maxRecDepth 100000
set_option maxHeartbeats 4000000
namespace Lk10
open PySem PySem.Spec PyProof.Rows L2
def topS (i : Nat) : Stmt := PySem.Challenge.pw_sameruns_k10_tokens.main.body.getD i (.Pass ⟨0, 0, 0, 0⟩)
abbrev s_is_name : Stmt := topS 11
abbrev N_is_name : List Str := ["text", "mark"]
theorem sc_is_name : FnScope ["text", "mark"] ["text"] (defScope s_is_name) := ⟨rfl, rfl, rfl, by decide +kernel, rfl, by decide +kernel, by decide +kernel⟩
abbrev s_is_number : Stmt := topS 12
abbrev N_is_number : List Str := ["text", "mark"]
theorem sc_is_number : FnScope ["text", "mark"] ["text"] (defScope s_is_number) := ⟨rfl, rfl, rfl, by decide +kernel, rfl, by decide +kernel, by decide +kernel⟩
abbrev s_piece_at : Stmt := topS 13
abbrev N_piece_at : List Str := ["text", "at", "end"]
theorem sc_piece_at : FnScope ["text", "at", "end"] ["text", "at"] (defScope s_piece_at) := ⟨rfl, rfl, rfl, by decide +kernel, rfl, by decide +kernel, by decide +kernel⟩
abbrev s_kind_of : Stmt := topS 14
abbrev N_kind_of : List Str := ["piece"]
theorem sc_kind_of : FnScope ["piece"] ["piece"] (defScope s_kind_of) := ⟨rfl, rfl, rfl, by decide +kernel, rfl, by decide +kernel, by decide +kernel⟩
abbrev s_tokens : Stmt := topS 15
abbrev N_tokens : List Str := ["text", "found", "line", "line_start", "at", "piece"]
theorem sc_tokens : FnScope ["text", "found", "line", "line_start", "at", "piece"] ["text"] (defScope s_tokens) := ⟨rfl, rfl, rfl, by decide +kernel, rfl, by decide +kernel, by decide +kernel⟩
abbrev s__law_pool : Stmt := topS 17
abbrev N__law_pool : List Str := ["script"]
theorem sc__law_pool : FnScope ["script"] ["script"] (defScope s__law_pool) := ⟨rfl, rfl, rfl, by decide +kernel, rfl, by decide +kernel, by decide +kernel⟩
abbrev s__law_draw : Stmt := topS 18
abbrev N__law_draw : List Str := ["pool", "many", "digit"]
theorem sc__law_draw : FnScope ["pool", "many", "digit"] ["pool", "many"] (defScope s__law_draw) := ⟨rfl, rfl, rfl, by decide +kernel, rfl, by decide +kernel, by decide +kernel⟩
abbrev s__law_pick : Stmt := topS 19
abbrev N__law_pick : List Str := ["pool", "things"]
theorem sc__law_pick : FnScope ["pool", "things"] ["pool", "things"] (defScope s__law_pick) := ⟨rfl, rfl, rfl, by decide +kernel, rfl, by decide +kernel, by decide +kernel⟩
abbrev s__law_integer : Stmt := topS 20
abbrev N__law_integer : List Str := ["x"]
theorem sc__law_integer : FnScope ["x"] ["x"] (defScope s__law_integer) := ⟨rfl, rfl, rfl, by decide +kernel, rfl, by decide +kernel, by decide +kernel⟩
abbrev s__law_run_kind : Stmt := topS 21
abbrev N__law_run_kind : List Str := ["run", "kept", "digits", "low", "one"]
theorem sc__law_run_kind : FnScope ["run", "kept", "digits", "low", "one"] ["run"] (defScope s__law_run_kind) := ⟨rfl, rfl, rfl, by decide +kernel, rfl, by decide +kernel, by decide +kernel⟩
abbrev s__law_drawn_run : Stmt := topS 22
abbrev N__law_drawn_run : List Str := ["pool", "kind", "kept", "edges", "signs", "run", "turn"]
theorem sc__law_drawn_run : FnScope ["pool", "kind", "kept", "edges", "signs", "run", "turn"] ["pool"] (defScope s__law_drawn_run) := ⟨rfl, rfl, rfl, by decide +kernel, rfl, by decide +kernel, by decide +kernel⟩
abbrev s__law_piece : Stmt := topS 23
abbrev N__law_piece : List Str := ["pool", "kind", "run"]
theorem sc__law_piece : FnScope ["pool", "kind", "run"] ["pool"] (defScope s__law_piece) := ⟨rfl, rfl, rfl, by decide +kernel, rfl, by decide +kernel, by decide +kernel⟩
abbrev s__law_gap : Stmt := topS 24
abbrev N__law_gap : List Str := ["pool", "kind", "blanks", "blank"]
theorem sc__law_gap : FnScope ["pool", "kind", "blanks", "blank"] ["pool"] (defScope s__law_gap) := ⟨rfl, rfl, rfl, by decide +kernel, rfl, by decide +kernel, by decide +kernel⟩
abbrev s__law_need : Stmt := topS 25
abbrev N__law_need : List Str := ["before", "after", "runs"]
theorem sc__law_need : FnScope ["before", "after", "runs"] ["before", "after"] (defScope s__law_need) := ⟨rfl, rfl, rfl, by decide +kernel, rfl, by decide +kernel, by decide +kernel⟩
abbrev s__law_moved : Stmt := topS 26
abbrev N__law_moved : List Str := ["at", "spelled", "row", "col", "one"]
theorem sc__law_moved : FnScope ["at", "spelled", "row", "col", "one"] ["at", "spelled"] (defScope s__law_moved) := ⟨rfl, rfl, rfl, by decide +kernel, rfl, by decide +kernel, by decide +kernel⟩
abbrev s__law_laid : Stmt := topS 27
abbrev N__law_laid : List Str := ["pool", "pieces", "spelled", "at", "due", "k", "piece", "blank"]
theorem sc__law_laid : FnScope ["pool", "pieces", "spelled", "at", "due", "k", "piece", "blank"] ["pool", "pieces"] (defScope s__law_laid) := ⟨rfl, rfl, rfl, by decide +kernel, rfl, by decide +kernel, by decide +kernel⟩
abbrev s__law_same : Stmt := topS 28
abbrev N__law_same : List Str := ["said", "due", "k", "one"]
theorem sc__law_same : FnScope ["said", "due", "k", "one"] ["said", "due"] (defScope s__law_same) := ⟨rfl, rfl, rfl, by decide +kernel, rfl, by decide +kernel, by decide +kernel⟩
abbrev s_law : Stmt := topS 29
abbrev N_law : List Str := ["script", "pool", "first", "turn", "run", "second", "both", "k", "said"]
theorem sc_law : FnScope ["script", "pool", "first", "turn", "run", "second", "both", "k", "said"] ["script"] (defScope s_law) := ⟨rfl, rfl, rfl, by decide +kernel, rfl, by decide +kernel, by decide +kernel⟩
/-- a def of the text that keeps its promise, for who calls it -/
structure Callee (P : Program) (w : World) (K : PySem.W.Frag) (mg : Str → Option Value) (base : Heap) (k : Nat) (f : Addr) (fd : FuncData) (nm : Str) (ps : List Str) (sp : Sp) : Prop where
  ok : FnOk P w K mg base CX0 k f fd ps sp
  kp : PySem.W.keepIn K (.ref f) = true
  b : Binds K fd ps []
  g : mg nm = some (.ref f)
section
variable {P : Program} {w : World} {K : PySem.W.Frag} {mg : Str → Option Value} {base : Heap}
theorem iteD {p A B : Prop} [Decidable p] (h1 : p → A) (h2 : ¬ p → B) : if decide p = true then A else B := by
  by_cases h : p
  · rw [decide_eq_true h]; exact iteT (h1 h)
  · rw [decide_eq_false h]; exact iteF (h2 h)
theorem iteDn {p A B : Prop} [Decidable p] (h1 : ¬ p → A) (h2 : p → B) : if (!decide p) = true then A else B := by
  by_cases h : p
  · rw [decide_eq_true h]; exact iteF (h2 h)
  · rw [decide_eq_false h]; exact iteT (h1 h)
theorem dec_t {p : Prop} [Decidable p] {Q : VK} {H : Hp} (h : p) (q : Q (.bl true) H) : Q (.bl (decide p)) H := by
  rw [decide_eq_true h]; exact q
theorem same_upd {H : Hp} {p : Addr} {o : HO} (h : H p = none) : Same H (upd H p o) := fun b x e => by
  rw [upd_ne (ne_of_none e h)]
  exact e
/-- all but the pool is as it was -/
def But (p : Addr) (H H' : Hp) : Prop := ∀ b o, H b = some o → b ≠ p → H' b = some o
theorem But.same {p : Addr} {H H1 H2 : Hp} (a : But p H H1) (b : Same H1 H2) : But p H H2 := fun c o e n => b c o (a c o e n)
theorem But.trans {p : Addr} {H H1 H2 : Hp} (a : But p H H1) (b : But p H1 H2) : But p H H2 := fun c o e n => b c o (a c o e n) n
theorem But.upd {p : Addr} {H H1 : Hp} {o : HO} (a : But p H H1) : But p H (upd H1 p o) := fun c u e n => by
  rw [upd_ne n]; exact a c u e n
def Pool (H : Hp) (p q : Addr) : Prop := ∃ (ns : List Int) (i d c : Int), p ≠ q ∧ H p = some (.lst [.ref q, .int i, .int d, .int c]) ∧ H q = some (.lst (ns.map V.int)) ∧ 0 ≤ i ∧ ns.length ≤ 1000 ∧ 0 ≤ d ∧ 0 ≤ c
theorem Pool.same {H H' : Hp} {p q : Addr} (h : Pool H p q) (s : Same H H') : Pool H' p q := by
  obtain ⟨ns, i, d, c, h1, h2, h3, h4⟩ := h
  exact ⟨ns, i, d, c, h1, s _ _ h2, s _ _ h3, h4⟩
theorem Pool.upd {H : Hp} {p q b : Addr} {o : HO} (h : Pool H p q) (n1 : b ≠ p) (n2 : b ≠ q) : Pool (upd H b o) p q := by
  obtain ⟨ns, i, d, c, h1, h2, h3, h4⟩ := h
  exact ⟨ns, i, d, c, h1, by rw [upd_ne n1.symm]; exact h2, by rw [upd_ne n2.symm]; exact h3, h4⟩
theorem pool_ne {H : Hp} {p q b : Addr} (P : Pool H p q) (n : H b = none) : b ≠ p := by
  obtain ⟨ns, i, d, c, h1, h2, h3⟩ := P
  exact (ne_of_none h2 n).symm
theorem pool_neq {H : Hp} {p q b : Addr} (P : Pool H p q) (n : H b = none) : b ≠ q := by
  obtain ⟨ns, i, d, c, h1, h2, h3, h4⟩ := P
  exact (ne_of_none h3 n).symm
theorem pool_lst {H : Hp} {p q b : Addr} {xs : List V} (P : Pool H p q) (e : H b = some (.lst xs)) (n : ∀ a i d c, xs ≠ [.ref a, .int i, .int d, .int c]) : b ≠ p := by
  obtain ⟨ns, i, d, c, h1, h2, h3, h4⟩ := P
  intro z; subst z
  rw [h2] at e
  injection e with e
  injection e with e
  exact n _ _ _ _ e.symm
theorem but_free {H H' : Hp} {p q b : Addr} (bt : But p H H') (P : Pool H' p q) (n : H' b = none) : H b = none := by
  cases e : H b with
  | none => rfl
  | some o => rw [bt b o e (pool_ne P n)] at n; cases n
theorem log2_lt {n : Nat} (h : n < 2 ^ 100) : n.log2 < 9000 := by
  by_cases h0 : n = 0
  · subst h0; decide
  · have := (Nat.log2_lt h0).mpr h
    omega
theorem divW {i j : Int} (h0 : 0 < j) (h1 : j < 1000000000000000000000000000000) : CDivW i j := ⟨h0, log2_lt (by omega)⟩
/-- a word -/
def wd (n : Int) : Prop := -2147483648 ≤ n ∧ n ≤ 2147483647
theorem set_same {σ : L2.St} {k : Nat} (h : k < σ.length) : ∃ v, σ = σ.set k v := ⟨σ[k], by rw [List.set_getElem_self]⟩
/-- a for over a list, whose turn changes but its own name among the slots -/
theorem for_list1 {K : PySem.W.Frag} {a : Addr} {xs : List V} {tb : TS} {D : Ends} {σ0 : L2.St} {H : Hp} (k : Nat) (hk : k < σ0.length) (I : Nat → Hp → Prop) (h0 : I 0 H) (hl : ∀ i H, i ≤ xs.length → I i H → SqL K H a xs)
    (hs : ∀ i x H, xs[i]? = some x → I i H → tb { D with nx := fun σ' H' => (∃ v, σ' = σ0.set k v) ∧ I (i + 1) H', ct := fun σ' H' => (∃ v, σ' = σ0.set k v) ∧ I (i + 1) H', bk := D.nx } (σ0.set k (some x)) H)
    (hd : ∀ v H, I xs.length H → D.nx (σ0.set k v) H) :
    ∃ W : Nat → Nat → L2.St → Hp → Prop, (∃ m, W 0 m σ0 H) ∧ ∀ i m σ H, W i m σ H →
      ((Itl K a).stop i H ∧ D.nx σ H) ∨ ((Itl K a).go i H ∧ ∃ N : L2.St → Hp → Prop, (∀ σ' H', N σ' H' → ∃ m', m' < m ∧ W (i + 1) m' σ' H') ∧ ∀ x H', (Itl K a).yld i H x H' → gName k x σ H' fun σ2 H2 => tb { D with nx := N, ct := N, bk := D.nx } σ2 H2) := by
  refine for_list (K := K) (a := a) (xs := xs) (g := gName k) (tb := tb) (D := D) (fun i σ H => (∃ v, σ = σ0.set k v) ∧ I i H) ⟨set_same hk, h0⟩ (fun i σ H h1 h2 => hl i H h1 h2.2) ?_ ?_
  · rintro i x σ H hx ⟨⟨v, rfl⟩, h⟩
    have q := hs i x H hx h
    show tb _ ((σ0.set k v).set k (some x)) H
    rw [List.set_set]
    exact q
  · rintro σ H ⟨⟨v, rfl⟩, h⟩
    exact hd v H h
theorem keep {H : Hp} {p q : Addr} {o u : HO} (h : H q = some u) (n : H p = none) : upd H p o q = some u := by
  rw [upd_ne (ne_of_none h n)]; exact h
/-- a for over a list of pairs, whose turn changes but its own two names among the slots -/
theorem for_list2 {K : PySem.W.Frag} {a : Addr} {xs : List V} {tb : TS} {D : Ends} {σ0 : L2.St} {H : Hp} (i j : Nat) (hi : i < σ0.length) (hj : j < σ0.length) (hij : i ≠ j) (I : Nat → Hp → Prop) (h0 : I 0 H) (hl : ∀ n H, n ≤ xs.length → I n H → SqL K H a xs)
    (hs : ∀ n x H, xs[n]? = some x → I n H → ∃ t u w, x = .ref t ∧ SqT K H t [u, w] ∧ tb { D with nx := fun σ' H' => (∃ v w, σ' = (σ0.set i v).set j w) ∧ I (n + 1) H', ct := fun σ' H' => (∃ v w, σ' = (σ0.set i v).set j w) ∧ I (n + 1) H', bk := D.nx } ((σ0.set i (some u)).set j (some w)) H)
    (hd : ∀ v w H, I xs.length H → D.nx ((σ0.set i v).set j w) H) :
    ∃ W : Nat → Nat → L2.St → Hp → Prop, (∃ m, W 0 m σ0 H) ∧ ∀ n m σ H, W n m σ H →
      ((Itl K a).stop n H ∧ D.nx σ H) ∨ ((Itl K a).go n H ∧ ∃ N : L2.St → Hp → Prop, (∀ σ' H', N σ' H' → ∃ m', m' < m ∧ W (n + 1) m' σ' H') ∧ ∀ x H', (Itl K a).yld n H x H' → gTup K 2 (gCons (gName i) (gCons (gName j) gNil)) x σ H' fun σ2 H2 => tb { D with nx := N, ct := N, bk := D.nx } σ2 H2) := by
  have st : ∃ v w, σ0 = (σ0.set i v).set j w := ⟨σ0[i], σ0[j], by rw [List.set_getElem_self, List.set_getElem_self]⟩
  have e : ∀ v w v' w', (((σ0.set i v).set j w).set i v').set j w' = (σ0.set i v').set j w' := fun v w v' w' => by
    rw [List.set_comm _ _ hij.symm, List.set_set, List.set_set]
  refine for_list (K := K) (a := a) (xs := xs) (g := gTup K 2 (gCons (gName i) (gCons (gName j) gNil))) (tb := tb) (D := D) (fun i' σ H => (∃ v w, σ = (σ0.set i v).set j w) ∧ I i' H) ⟨st, h0⟩ (fun i σ H h1 h2 => hl i H h1 h2.2) ?_ ?_
  · rintro n x σ H hx ⟨⟨v, w, rfl⟩, h⟩
    obtain ⟨t, u, z, rfl, hT, q⟩ := hs n x H hx h
    refine ⟨t, _, rfl, hT, rfl, u, _, rfl, z, _, rfl, rfl, ?_⟩
    show tb _ ((((σ0.set i v).set j w).set i (some u)).set j (some z)) H
    rw [e]
    exact q
  · rintro σ H ⟨⟨v, w, rfl⟩, h⟩
    exact hd v w H h

open SX (S)
theorem fold_rep (c : Nat) : ∀ (k : Nat) (acc : Array Nat), (List.replicate k #[c]).foldl (· ++ ·) acc = (acc.toList ++ List.replicate k c).toArray
  | 0, acc => by simp
  | k + 1, acc => by
    rw [List.replicate_succ, List.foldl_cons, fold_rep c k, List.replicate_succ]
    simp
theorem mul_one (c : Nat) {n : Int} (h : 0 ≤ n) : Txt.mul (S [c]) n = S (List.replicate n.toNat c) := by
  unfold Txt.mul
  by_cases h1 : n < 1
  · have : n = 0 := by omega
    subst this; rfl
  · rw [if_neg h1]
    by_cases h2 : n = 1
    · subst h2; rfl
    · have e : (n == 1 || (S [c]).length == 0) = false := by
        rw [Bool.or_eq_false_iff]
        exact ⟨by simpa using h2, by rfl⟩
      rw [if_neg (by rw [e]; decide)]
      have := fold_rep c n.toNat #[]
      show (⟨(List.replicate n.toNat #[c]).foldl (· ++ ·) #[]⟩ : Str) = _
      rw [this]; simp
/-- one sign, n times -/
theorem op_mulS {X : Cx} : OpR X (binaryOp .Mult) (fun x y H Q => ∃ (c : Nat) (n : Int), x = .str (S [c]) ∧ y = .int n ∧ 0 ≤ n ∧ n ≤ 10000 ∧ Q (.str (S (List.replicate n.toNat c))) H) := by
  intro pins s σ H x y v u Q I rx ry h
  obtain ⟨c, n, rfl, rfl, h0, h1, q⟩ := h
  obtain ⟨t, rfl⟩ := rx
  obtain ⟨t', rfl⟩ := ry
  refine SB.mul ⟨?_, fun a b => ?_, fun a b => ?_⟩ fun t' k => ?_
  · rw [Bool.or_eq_false_iff, decide_eq_false_iff_not, decide_eq_false_iff_not]; omega
  · have e : (((S [c]).length : Nat) : Int) = 1 := rfl
    rw [e]
    have : (1 : Int) ≤ (2 ^ 63 - 1) / n := Int.le_ediv_of_mul_le (by omega) (by omega)
    omega
  · have e : (S [c]).length = 1 := rfl
    rw [e, Nat.one_mul]
    have : n.toNat ≤ 10000 := by omega
    exact decide_eq_false (by show ¬ _ ; simp only [PySem.sizeLine]; omega)
  · rw [mul_one c h0]
    exact ⟨.str _, H, I.tok k, ⟨_, rfl⟩, q⟩
theorem inV_strs (l : List Nat) (ls : List (List Nat)) : inV (.str (S l)) (ls.map fun m => V.str (S m)) = decide (l ∈ ls) := by
  unfold inV
  induction ls with
  | nil => rfl
  | cons m r ih =>
    rw [List.map_cons, List.any_cons, ih]
    have : eqV (.str (S m)) (.str (S l)) = decide (l = m) := by
      show (S m == S l) = _
      rw [SX.S_beq]
      by_cases h : l = m
      · subst h; simp
      · simp [h, Ne.symm h]
    rw [this]
    by_cases h : l = m <;> simp [h]
theorem flat_strs (ls : List (List Nat)) : (ls.map fun m => V.str (S m)).all flatV = true := by
  rw [List.all_eq_true]
  intro x hx
  obtain ⟨m, _, rfl⟩ := List.mem_map.mp hx
  rfl
theorem lc_str {z : Str} {g : TG} {tt : TT} {te : TE} {vs : List Nat} {σ : L2.St} {H1 : Hp} {D : Addr} {Qd : Hp → Prop} (Pv : Nat → Hp → Prop) (h0 : Pv 0 (upd H1 D (.lst [])))
    (hs : ∀ i c H, z.cps[i]? = some c → Pv i H → g (.str ⟨#[c]⟩) (wipe σ vs) H fun σ2 H2 => wipe σ2 vs = wipe σ vs ∧ tt σ2 H2 fun b H3 =>
      if b = true then te σ2 H3 fun y H4 => ∃ acc, H4 D = some (.lst acc) ∧ acc.length < sizeLine ∧ Pv (i + 1) (upd H4 D (.lst (acc ++ [y]))) else Pv (i + 1) H3) (hd : ∀ H, Pv z.cps.size H → Qd H) :
    ∃ W : Nat → Nat → Hp → Prop, (∃ m, W 0 m (upd H1 D (.lst []))) ∧ ∀ i m H, W i m H →
      ((Its z).stop i H ∧ Qd H) ∨ ((Its z).go i H ∧ ∃ Nx : Hp → Prop, (∀ H', Nx H' → ∃ m', m' < m ∧ W (i + 1) m' H') ∧ ∀ x H', (Its z).yld i H x H' → g x (wipe σ vs) H' fun σ2 H2 => wipe σ2 vs = wipe σ vs ∧ tt σ2 H2 fun b H3 =>
        if b = true then te σ2 H3 fun y H4 => ∃ acc, H4 D = some (.lst acc) ∧ acc.length < sizeLine ∧ Nx (upd H4 D (.lst (acc ++ [y]))) else Nx H3) := by
  refine ⟨fun i m H => m = z.cps.size - i ∧ i ≤ z.cps.size ∧ Pv i H, ⟨z.cps.size, by simp, Nat.zero_le _, h0⟩, ?_⟩
  rintro i m H ⟨rfl, hi, p⟩
  by_cases hlt : i < z.cps.size
  · refine .inr ⟨hlt, Pv (i + 1), fun H' p' => ⟨z.cps.size - (i + 1), by omega, rfl, hlt, p'⟩, fun x H' y => ?_⟩
    obtain ⟨e, c, hc, ex⟩ := y
    subst e ex
    exact hs i c _ hc p
  · have e : i = z.cps.size := by omega
    subst e
    exact .inl ⟨Nat.le_refl _, hd H p⟩
theorem for_str {z : Str} {g : TG} {tb : TS} {D : Ends} {σ : L2.St} {H : Hp} (Pv : Nat → L2.St → Hp → Prop) (h0 : Pv 0 σ H)
    (hs : ∀ i c σ H, z.cps[i]? = some c → Pv i σ H → g (.str ⟨#[c]⟩) σ H fun σ2 H2 => tb { D with nx := Pv (i + 1), ct := Pv (i + 1), bk := D.nx } σ2 H2) (hd : ∀ σ H, Pv z.cps.size σ H → D.nx σ H) :
    ∃ W : Nat → Nat → L2.St → Hp → Prop, (∃ m, W 0 m σ H) ∧ ∀ i m σ H, W i m σ H →
      ((Its z).stop i H ∧ D.nx σ H) ∨ ((Its z).go i H ∧ ∃ N : L2.St → Hp → Prop, (∀ σ' H', N σ' H' → ∃ m', m' < m ∧ W (i + 1) m' σ' H') ∧ ∀ x H', (Its z).yld i H x H' → g x σ H' fun σ2 H2 => tb { D with nx := N, ct := N, bk := D.nx } σ2 H2) := by
  refine ⟨fun i m σ H => m = z.cps.size - i ∧ i ≤ z.cps.size ∧ Pv i σ H, ⟨z.cps.size, by simp, Nat.zero_le _, h0⟩, ?_⟩
  rintro i m σ H ⟨rfl, hi, p⟩
  by_cases hlt : i < z.cps.size
  · refine .inr ⟨hlt, Pv (i + 1), fun σ' H' p' => ⟨z.cps.size - (i + 1), by omega, rfl, hlt, p'⟩, fun x H' y => ?_⟩
    obtain ⟨e, c, hc, ex⟩ := y
    subst e ex
    exact hs i c σ _ hc p
  · have e : i = z.cps.size := by omega
    subst e
    exact .inl ⟨Nat.le_refl _, hd σ H p⟩
theorem take_snoc {α : Type} {l : List α} {i : Nat} {c : α} (h : l[i]? = some c) : l.take (i + 1) = l.take i ++ [c] := by
  rw [List.take_add_one, h]; rfl
theorem cps_at {l : List Nat} {i c : Nat} (h : (S l).cps[i]? = some c) : l[i]? = some c := by simpa using h
theorem same_fresh {H H2 : Hp} {D : Addr} {o : HO} (s : Same H H2) (n : H D = none) : Same H (upd H2 D o) := fun b u e => by
  rw [upd_ne (ne_of_none e n)]; exact s b u e
theorem cutS_nat (l : List Nat) (i j : Nat) (h : i ≤ l.length) : cutS (S l) (some (i : Int)) (some (j : Int)) = S ((l.drop i).take (j - i)) := by
  unfold cutS
  rw [HT.sIx_nat, HT.sIx_nat, SX.S_len, Nat.min_eq_left h]
  show (⟨((l.drop i).take (min j l.length - i)).toArray⟩ : Str) = _
  by_cases hj : j ≤ l.length
  · rw [Nat.min_eq_left hj]
  · have e1 : ((l.drop i).take (min j l.length - i)) = l.drop i := List.take_of_length_le (by rw [List.length_drop]; omega)
    have e2 : ((l.drop i).take (j - i)) = l.drop i := List.take_of_length_le (by rw [List.length_drop]; omega)
    rw [e1, e2]
theorem at_S {l : List Nat} {z : Int} {i c : Nat} (e : z = (i : Int)) (h : l[i]? = some c) : atI (S l).cps.toList z = some c := by
  subst e
  exact atI_nat (by simpa using h)
/-- [f(c) for c in text] -/
theorem lc_mapS {l : List Nat} {f : Nat → V} {g : TG} {te : TE} {vs : List Nat} {σ : L2.St} {H1 : Hp} {D : Addr} {Qd : Hp → Prop} (np : H1 D = none) (hl : l.length ≤ 20000)
    (step : ∀ (c : Nat) (H2 : Hp) (Q : VK), Same H1 H2 → Q (f c) H2 → g (.str ⟨#[c]⟩) (wipe σ vs) H2 fun σ2 H3 => wipe σ2 vs = wipe σ vs ∧ te σ2 H3 Q)
    (hd : ∀ H2, Same H1 H2 → H2 D = some (.lst (l.map f)) → Qd H2) :
    ∃ W : Nat → Nat → Hp → Prop, (∃ m, W 0 m (upd H1 D (.lst []))) ∧ ∀ i m H, W i m H →
      ((Its (S l)).stop i H ∧ Qd H) ∨ ((Its (S l)).go i H ∧ ∃ Nx : Hp → Prop, (∀ H', Nx H' → ∃ m', m' < m ∧ W (i + 1) m' H') ∧ ∀ x H', (Its (S l)).yld i H x H' → g x (wipe σ vs) H' fun σ2 H2 => wipe σ2 vs = wipe σ vs ∧ tYes σ2 H2 fun b H3 =>
        if b = true then te σ2 H3 fun y H4 => ∃ acc, H4 D = some (.lst acc) ∧ acc.length < sizeLine ∧ Nx (upd H4 D (.lst (acc ++ [y]))) else Nx H3) := by
  refine lc_str (fun i H => Same H1 H ∧ H D = some (.lst ((l.take i).map f))) ⟨same_upd np, upd_same⟩ ?_ ?_
  · rintro i c H hc ⟨s, hD⟩
    have hc' := cps_at hc
    have hi : i < l.length := (List.getElem?_eq_some_iff.mp hc').1
    have q := step c H (fun y H4 => ∃ acc, H4 D = some (.lst acc) ∧ acc.length < sizeLine ∧ (Same H1 (upd H4 D (.lst (acc ++ [y]))) ∧ (upd H4 D (.lst (acc ++ [y]))) D = some (.lst ((l.take (i + 1)).map f)))) s
      ⟨_, hD, Nat.lt_of_lt_of_le (by rw [List.length_map, List.length_take]; omega : _ < 20001) (by decide), same_fresh s np, by rw [upd_same, take_snoc hc', List.map_append]; rfl⟩
    exact q
  · rintro H ⟨s, hD⟩
    refine hd H s ?_
    rw [hD, List.take_of_length_le (by show l.length ≤ l.toArray.size; simp)]
/-- [c for c in text if p(c)] -/
theorem lc_filtS {l : List Nat} {p : Nat → Bool} {g : TG} {tt : TT} {te : TE} {vs : List Nat} {σ : L2.St} {H1 : Hp} {D : Addr} {Qd : Hp → Prop} (np : H1 D = none) (hl : l.length ≤ 20000)
    (step : ∀ (c : Nat) (H2 : Hp) (Q : VK) (Q2 : Hp → Prop), Same H1 H2 → (p c = true → Q (.str (S [c])) H2) → (p c = false → Q2 H2) → g (.str ⟨#[c]⟩) (wipe σ vs) H2 fun σ2 H3 => wipe σ2 vs = wipe σ vs ∧ tt σ2 H3 fun b H4 => if b = true then te σ2 H4 Q else Q2 H4)
    (hd : ∀ H2, Same H1 H2 → H2 D = some (.lst ((l.filter p).map fun c => V.str (S [c]))) → Qd H2) :
    ∃ W : Nat → Nat → Hp → Prop, (∃ m, W 0 m (upd H1 D (.lst []))) ∧ ∀ i m H, W i m H →
      ((Its (S l)).stop i H ∧ Qd H) ∨ ((Its (S l)).go i H ∧ ∃ Nx : Hp → Prop, (∀ H', Nx H' → ∃ m', m' < m ∧ W (i + 1) m' H') ∧ ∀ x H', (Its (S l)).yld i H x H' → g x (wipe σ vs) H' fun σ2 H2 => wipe σ2 vs = wipe σ vs ∧ tt σ2 H2 fun b H3 =>
        if b = true then te σ2 H3 fun y H4 => ∃ acc, H4 D = some (.lst acc) ∧ acc.length < sizeLine ∧ Nx (upd H4 D (.lst (acc ++ [y]))) else Nx H3) := by
  refine lc_str (fun i H => Same H1 H ∧ H D = some (.lst (((l.take i).filter p).map fun c => V.str (S [c])))) ⟨same_upd np, upd_same⟩ ?_ ?_
  · rintro i c H hc ⟨s, hD⟩
    have hc' := cps_at hc
    have hi : i < l.length := (List.getElem?_eq_some_iff.mp hc').1
    refine step c H (fun y H4 => ∃ acc, H4 D = some (.lst acc) ∧ acc.length < sizeLine ∧ (Same H1 (upd H4 D (.lst (acc ++ [y]))) ∧ (upd H4 D (.lst (acc ++ [y]))) D = some (.lst (((l.take (i + 1)).filter p).map fun c => V.str (S [c]))))) (fun H => Same H1 H ∧ H D = some (.lst (((l.take (i + 1)).filter p).map fun c => V.str (S [c])))) s (fun e => ?_) (fun e => ?_)
    · have h1 : ((l.take i).filter p).length ≤ 20000 := Nat.le_trans (List.length_filter_le _ _) (by rw [List.length_take]; omega)
      exact ⟨_, hD, Nat.lt_of_lt_of_le (by rw [List.length_map]; omega : _ < 20001) (by decide), same_fresh s np, by rw [upd_same, take_snoc hc', List.filter_append, List.map_append, List.filter_cons, e]; rfl⟩
    · exact ⟨s, by rw [hD, take_snoc hc', List.filter_append, List.filter_cons, e]; simp⟩
  · rintro H ⟨s, hD⟩
    refine hd H s ?_
    rw [hD, List.take_of_length_le (by show l.length ≤ l.toArray.size; simp)]
/-- a text among the texts of a list or tuple -/
theorem op_inS {X : Cx} : OpR X (compareOp .In) (fun x y H Q => ∃ (l : List Nat) (p : Addr) (ls : List (List Nat)), x = .str (S l) ∧ y = .ref p ∧ (SqL X.K H p (ls.map fun m => V.str (S m)) ∨ SqT X.K H p (ls.map fun m => V.str (S m))) ∧ Q (.bl (decide (l ∈ ls))) H) := by
  intro pins s σ H x y v u Q I rx ry h
  obtain ⟨l, p, ls, rfl, rfl, hs, q⟩ := h
  refine op_in_seq pins s σ H _ _ v u Q I rx ry ⟨p, _, rfl, hs, rfl, flat_strs ls, ?_⟩
  show Q (.bl (inV (.str (S l)) _)) H
  rw [inV_strs]; exact q
theorem op_notInS {X : Cx} : OpR X (compareOp .NotIn) (fun x y H Q => ∃ (l : List Nat) (p : Addr) (ls : List (List Nat)), x = .str (S l) ∧ y = .ref p ∧ (SqL X.K H p (ls.map fun m => V.str (S m)) ∨ SqT X.K H p (ls.map fun m => V.str (S m))) ∧ Q (.bl (!decide (l ∈ ls))) H) := by
  intro pins s σ H x y v u Q I rx ry h
  obtain ⟨l, p, ls, rfl, rfl, hs, q⟩ := h
  refine op_notIn_seq pins s σ H _ _ v u Q I rx ry ⟨p, _, rfl, hs, rfl, flat_strs ls, ?_⟩
  show Q (.bl (!inV (.str (S l)) _)) H
  rw [inV_strs]; exact q

open SX (S)
def smallL : List Nat := [97,98,99,100,101,102,103,104,105,106,107,108,109,110,111,112,113,114,115,116,117,118,119,120,121,122]
def bigL : List Nat := [65,66,67,68,69,70,71,72,73,74,75,76,77,78,79,80,81,82,83,84,85,86,87,88,89,90]
def digL : List Nat := [48,49,50,51,52,53,54,55,56,57]
def singL : List Nat := [40,41,123,125,91,93,59,44,61,43,45,42,47,38,124,94,126,33,60,62]
def badL : List Nat := [34,35,36,39,46,58,63,64,92,95,96]
def resL : List (List Nat) := [[98,114,101,97,107],[99,111,110,116,105,110,117,101],[101,108,115,101],[105,102],[109,111,100],[114,101,116,117,114,110],[116,101,108,108],[117,115,101],[119,104,105,108,101],[119,111,114,100]]
def dblL : List (List Nat) := [[60,60],[62,62],[60,61],[62,61],[61,61],[33,61],[38,38],[124,124]]
def isRun (c : Nat) : Bool := decide (c ∈ smallL ++ bigL ++ digL)
def isNm (c : Nat) : Bool := decide (c ∈ smallL ++ digL)
def isDg (c : Nat) : Bool := decide (c ∈ digL)
def isName (l : List Nat) : Bool := decide (0 < l.length) && decide (l.length ≤ 8) && (match l with | c :: _ => decide (c ∈ smallL) | [] => false) && l.all isNm && !decide (l ∈ resL)
def isNumber (l : List Nat) : Bool := decide (0 < l.length) && decide (l.length ≤ 10) && l.all isDg && (decide (l = [48]) || (match l with | c :: _ => !decide (c = 48) | [] => false)) && decide (NumText.digitsVal l ≤ 2147483647)
def signKind : List Nat → Str
  | c :: _ => if c ∈ singL then "sign" else "bad"
  | [] => "bad"
def kindOf (l : List Nat) : Str := if l ∈ resL then "reserved" else if isName l then "name" else if isNumber l then "number" else signKind l
def pieceAt (l : List Nat) : List Nat := if (l.takeWhile isRun) ≠ [] then l.takeWhile isRun else if l.take 2 ∈ dblL then l.take 2 else l.take 1
theorem pieceAt_len (c : Nat) (r : List Nat) : 0 < (pieceAt (c :: r)).length ∧ (pieceAt (c :: r)).length ≤ (c :: r).length := by
  unfold pieceAt
  split
  · rename_i h
    exact ⟨List.length_pos_iff.mpr h, (List.takeWhile_sublist _).length_le⟩
  · split
    · rw [List.length_take, List.length_cons]; omega
    · rw [List.length_take, List.length_cons]; omega
structure LTok where
  kind : Str
  text : List Nat
  line : Int
  col : Int
def toks : (l : List Nat) → Int → Int → List LTok
  | [], line, col => [⟨"end", [], line, col⟩]
  | c :: r, line, col =>
    if c = 10 then toks r (line + 1) 1
    else if c = 32 then toks r line (col + 1)
    else ⟨kindOf (pieceAt (c :: r)), pieceAt (c :: r), line, col⟩ :: toks ((c :: r).drop (pieceAt (c :: r)).length) line (col + (pieceAt (c :: r)).length)
termination_by l => l.length
decreasing_by
  · simp
  · simp
  · have := pieceAt_len c r
    simp only [List.length_drop, List.length_cons] at *
    omega
/-- where a text leads -/
def moved : List Nat → Int → Int → Int × Int
  | [], line, col => (line, col)
  | c :: r, line, col => if c = 10 then moved r (line + 1) 1 else moved r line (col + 1)
theorem moved_app (a b : List Nat) : ∀ line col, moved (a ++ b) line col = moved b (moved a line col).1 (moved a line col).2 := by
  induction a with
  | nil => intro _ _; rfl
  | cons c r ih =>
    intro line col
    rw [List.cons_append, show moved (c :: (r ++ b)) line col = if c = 10 then moved (r ++ b) (line + 1) 1 else moved (r ++ b) line (col + 1) from rfl,
      show moved (c :: r) line col = if c = 10 then moved r (line + 1) 1 else moved r line (col + 1) from rfl]
    split
    · exact ih _ _
    · exact ih _ _
theorem moved_flat : ∀ (a : List Nat) (line col : Int), 10 ∉ a → moved a line col = (line, col + a.length)
  | [], line, col, _ => by simp [moved]
  | c :: r, line, col, h => by
    have h1 : c ≠ 10 := fun e => h (by simp [e])
    unfold moved
    rw [if_neg h1, moved_flat r _ _ (fun m => h (List.mem_cons_of_mem _ m)), List.length_cons]
    congr 1
    omega
def isBlank (l : List Nat) : Prop := ∀ c ∈ l, c = 10 ∨ c = 32
theorem toks_blank : ∀ (g l : List Nat) (line col : Int), isBlank g → toks (g ++ l) line col = toks l (moved g line col).1 (moved g line col).2
  | [], _, _, _, _ => rfl
  | c :: r, l, line, col, h => by
    have hr : isBlank r := fun d m => h d (List.mem_cons_of_mem _ m)
    rw [List.cons_append]
    conv => lhs; unfold toks
    unfold moved
    rcases h c List.mem_cons_self with rfl | rfl
    · rw [if_pos rfl, if_pos rfl]; exact toks_blank r l _ _ hr
    · rw [if_neg (by decide), if_pos rfl, if_neg (by decide)]; exact toks_blank r l _ _ hr
/-- a piece of the law -/
inductive IsPiece : List Nat → Prop
  | run {l : List Nat} : l ≠ [] → l.all isRun = true → IsPiece l
  | dbl {l : List Nat} : l ∈ dblL → IsPiece l
  | one {c : Nat} : c ∈ singL ++ badL → IsPiece [c]
/-- two pieces need a blank between them -/
def need (p q : List Nat) : Bool := (match p.getLast?, q.head? with | some a, some b => isRun a && isRun b | _, _ => false) || (match q.head? with | some b => decide (p ++ [b] ∈ dblL) | none => false)
theorem tw_app (p : Nat → Bool) : ∀ (a b : List Nat), a.all p = true → (∀ c, b.head? = some c → p c = false) → (a ++ b).takeWhile p = a
  | [], b, _, h => by
    cases b with
    | nil => rfl
    | cons c r => rw [List.nil_append, List.takeWhile_cons, h c rfl]; rfl
  | x :: a, b, h, hb => by
    rw [List.all_cons, Bool.and_eq_true] at h
    rw [List.cons_append, List.takeWhile_cons, h.1]
    show x :: (a ++ b).takeWhile p = x :: a
    rw [tw_app p a b h.2 hb]
theorem piece_app {p rest : List Nat} (h : IsPiece p) (hn : ∀ c, rest.head? = some c → need p [c] = false) : pieceAt (p ++ rest) = p := by
  cases h with
  | run ne al =>
    have e : (p ++ rest).takeWhile isRun = p := by
      refine tw_app isRun p rest al fun c hc => ?_
      have := hn c hc
      unfold need at this
      rw [Bool.or_eq_false_iff] at this
      have h1 := this.1
      cases hl : p.getLast? with
      | none => exact absurd (List.getLast?_eq_none_iff.mp hl) ne
      | some a =>
        rw [hl] at h1
        have ha : isRun a = true := List.all_eq_true.mp al a (List.mem_of_getLast? hl)
        simpa [ha] using h1
    unfold pieceAt
    rw [e, if_pos ne]
  | dbl hd =>
    have e : p.length = 2 ∧ ∀ r, (p ++ r).takeWhile isRun = [] := by
      simp only [dblL, List.mem_cons, List.not_mem_nil, or_false] at hd
      rcases hd with rfl | rfl | rfl | rfl | rfl | rfl | rfl | rfl <;> exact ⟨rfl, fun r => rfl⟩
    unfold pieceAt
    have e2 : (p ++ rest).take 2 = p := by rw [← e.1]; exact List.take_left' rfl
    rw [e.2, if_neg (by simp), e2, if_pos hd]
  | @one c hc =>
    have nr : isRun c = false := by
      revert hc; unfold singL badL isRun smallL bigL digL
      intro hc
      simp only [List.cons_append, List.nil_append, List.mem_cons, List.not_mem_nil, or_false] at hc
      rcases hc with rfl | rfl | rfl | rfl | rfl | rfl | rfl | rfl | rfl | rfl | rfl | rfl | rfl | rfl | rfl | rfl | rfl | rfl | rfl | rfl | rfl | rfl | rfl | rfl | rfl | rfl | rfl | rfl | rfl | rfl | rfl <;> decide
    have e1 : ([c] ++ rest).takeWhile isRun = [] := by
      show (c :: rest).takeWhile isRun = []
      rw [List.takeWhile_cons, nr]; rfl
    unfold pieceAt
    rw [e1, if_neg (by simp)]
    cases rest with
    | nil =>
      have : ¬ ([c] ++ []).take 2 ∈ dblL := by
        show ¬ [c] ∈ dblL
        intro h
        simp [dblL] at h
      rw [if_neg this]; rfl
    | cons d r =>
      have h2 := hn d rfl
      unfold need at h2
      rw [Bool.or_eq_false_iff] at h2
      have h3 : ¬ [c, d] ∈ dblL := by simpa using h2.2
      have : ¬ ([c] ++ d :: r).take 2 ∈ dblL := h3
      rw [if_neg this]; rfl
theorem piece_first {p : List Nat} (h : IsPiece p) : ∃ c r, p = c :: r ∧ c ≠ 10 ∧ c ≠ 32 := by
  cases h with
  | run ne al =>
    cases p with
    | nil => exact absurd rfl ne
    | cons c r =>
      rw [List.all_cons, Bool.and_eq_true] at al
      refine ⟨c, r, rfl, ?_, ?_⟩ <;> (intro e; subst e; revert al; intro al; exact absurd al.1 (by decide))
  | dbl hd =>
    simp only [dblL, List.mem_cons, List.not_mem_nil, or_false] at hd
    rcases hd with rfl | rfl | rfl | rfl | rfl | rfl | rfl | rfl <;> exact ⟨_, _, rfl, by decide, by decide⟩
  | @one c hc =>
    refine ⟨c, [], rfl, ?_, ?_⟩ <;> (intro e; subst e; exact absurd hc (by decide))
theorem piece_flat {p : List Nat} (h : IsPiece p) : 10 ∉ p := by
  cases h with
  | run ne al => exact fun m => absurd (List.all_eq_true.mp al 10 m) (by decide)
  | dbl hd =>
    simp only [dblL, List.mem_cons, List.not_mem_nil, or_false] at hd
    rcases hd with rfl | rfl | rfl | rfl | rfl | rfl | rfl | rfl <;> decide
  | @one c hc =>
    intro e
    have : c = 10 := (List.mem_singleton.mp e).symm
    subst this
    exact absurd hc (by decide)
/-- one piece is read off -/
theorem toks_piece {p rest : List Nat} (h : IsPiece p) (hn : ∀ c, rest.head? = some c → need p [c] = false) (line col : Int) :
    toks (p ++ rest) line col = ⟨kindOf p, p, line, col⟩ :: toks rest (moved p line col).1 (moved p line col).2 := by
  obtain ⟨c, r, e, c10, c32⟩ := piece_first h
  have ep := piece_app h hn
  rw [moved_flat p line col (piece_flat h)]
  subst e
  rw [List.cons_append] at ep ⊢
  conv => lhs; unfold toks
  rw [if_neg c10, if_neg c32, ep]
  congr 2
  rw [← List.cons_append]
  exact List.drop_left' rfl
/-- a laid row of pieces: each piece with the blank behind it -/
def laidText : List (List Nat × List Nat) → List Nat
  | [] => []
  | (p, g) :: r => p ++ g ++ laidText r
def laidDue : List (List Nat × List Nat) → Int → Int → List LTok
  | [], line, col => [⟨"end", [], line, col⟩]
  | (p, g) :: r, line, col => ⟨kindOf p, p, line, col⟩ :: laidDue r (moved (p ++ g) line col).1 (moved (p ++ g) line col).2
def Laid : List (List Nat × List Nat) → Prop
  | [] => True
  | (p, g) :: r => IsPiece p ∧ isBlank g ∧ (g = [] → match r with | (q, _) :: _ => need p q = false | [] => True) ∧ Laid r
theorem dbl_last : ∀ q ∈ dblL, ∀ c, q.getLast? = some c → c ≠ 10 ∧ c ≠ 32 := by
  intro q hq c hc
  simp only [dblL, List.mem_cons, List.not_mem_nil, or_false] at hq
  rcases hq with rfl | rfl | rfl | rfl | rfl | rfl | rfl | rfl <;> (have := Option.some.inj hc; subst this; decide)
theorem need_head (p q : List Nat) (c : Nat) (h : q.head? = some c) : need p [c] = need p q := by
  unfold need; rw [h]; rfl
theorem laid_toks : ∀ (ps : List (List Nat × List Nat)) (line col : Int), Laid ps → toks (laidText ps) line col = laidDue ps line col
  | [], line, col, _ => by unfold laidText laidDue toks; rfl
  | (p, g) :: r, line, col, h => by
    obtain ⟨hp, hg, hn, hr⟩ := h
    have ih := laid_toks r
    unfold laidText laidDue
    rw [List.append_assoc, toks_piece hp ?_, toks_blank _ _ _ _ hg, moved_app, ih _ _ hr]
    intro c hc
    cases g with
    | cons d g =>
      have : c = d := by simpa using hc.symm
      subst this
      have hb := hg c List.mem_cons_self
      unfold need
      have : isRun c = false := by rcases hb with rfl | rfl <;> decide
      have h2 : ¬ p ++ [c] ∈ dblL := fun hm => by
        have := dbl_last _ hm c (by simp)
        omega
      show ((match p.getLast?, some c with | some a, some b => isRun a && isRun b | _, _ => false) || decide (p ++ [c] ∈ dblL)) = false
      rw [decide_eq_false h2]
      cases p.getLast? with
      | none => rfl
      | some a => simp [this]
    | nil =>
      have := hn rfl
      cases r with
      | nil => simp [laidText] at hc
      | cons qg r =>
        obtain ⟨q, g2⟩ := qg
        have hq : need p q = false := this
        obtain ⟨⟨c', r', e, _, _⟩⟩ : Nonempty _ := ⟨piece_first hr.1⟩
        subst e
        have : c = c' := by simpa [laidText] using hc.symm
        subst this
        rw [need_head p (c :: r') c rfl]; exact hq
open NumText in
theorem fold_val : ∀ (r : List Nat) (a : Nat), r.foldl (fun acc c => acc * 10 + (c - 48)) a = a * 10 ^ r.length + digitsVal r
  | [], a => by simp [digitsVal]
  | c :: r, a => by
    show r.foldl _ (a * 10 + (c - 48)) = a * 10 ^ (r.length + 1) + r.foldl (fun acc c => acc * 10 + (c - 48)) (0 * 10 + (c - 48))
    rw [fold_val r, fold_val r (0 * 10 + (c - 48)), Nat.pow_succ, Nat.add_mul, Nat.zero_mul, Nat.zero_add]
    have : a * 10 * 10 ^ r.length = a * (10 ^ r.length * 10) := by rw [Nat.mul_assoc, Nat.mul_comm 10]
    omega
theorem val_cons (c : Nat) (r : List Nat) : NumText.digitsVal (c :: r) = (c - 48) * 10 ^ r.length + NumText.digitsVal r := by
  show r.foldl _ (0 * 10 + (c - 48)) = _
  rw [fold_val, Nat.zero_mul, Nat.zero_add]
theorem dg_iff (c : Nat) : isDg c = true ↔ 48 ≤ c ∧ c ≤ 57 := by
  unfold isDg digL
  rw [decide_eq_true_eq]
  simp only [List.mem_cons, List.not_mem_nil, or_false]
  omega
theorem val_lt : ∀ l : List Nat, l.all isDg = true → NumText.digitsVal l < 10 ^ l.length
  | [], _ => by decide
  | c :: r, h => by
    rw [List.all_cons, Bool.and_eq_true] at h
    have h1 := (dg_iff c).mp h.1
    have ih := val_lt r h.2
    rw [val_cons, List.length_cons, Nat.pow_succ]
    have h2 : c - 48 ≤ 9 := by omega
    have h3 : (c - 48) * 10 ^ r.length ≤ 9 * 10 ^ r.length := Nat.mul_le_mul_right _ h2
    omega
theorem lex_val : ∀ a b : List Nat, a.length = b.length → a.all isDg = true → b.all isDg = true → (a < b ↔ NumText.digitsVal a < NumText.digitsVal b)
  | [], [], _, _, _ => by simp
  | [], _ :: _, h, _, _ => by simp at h
  | _ :: _, [], h, _, _ => by simp at h
  | c :: r, d :: t, h, h1, h2 => by
    rw [List.all_cons, Bool.and_eq_true] at h1 h2
    have c1 := (dg_iff c).mp h1.1
    have d1 := (dg_iff d).mp h2.1
    have hl : r.length = t.length := by simpa using h
    have ih := lex_val r t hl h1.2 h2.2
    have v1 := val_lt r h1.2
    have v2 := val_lt t h2.2
    rw [val_cons, val_cons, List.cons_lt_cons_iff, ih, hl]
    rw [hl] at v1
    generalize NumText.digitsVal r = x at *
    generalize NumText.digitsVal t = y at *
    generalize 10 ^ t.length = P at *
    constructor
    · rintro (q | ⟨rfl, q⟩)
      · have : (c - 48 + 1) * P ≤ (d - 48) * P := Nat.mul_le_mul_right _ (by omega)
        rw [Nat.add_mul] at this
        omega
      · omega
    · intro q
      by_cases e : c = d
      · subst e; right; exact ⟨rfl, by omega⟩
      · left
        by_cases g : c < d
        · exact g
        · exfalso
          have : (d - 48 + 1) * P ≤ (c - 48) * P := Nat.mul_le_mul_right _ (by omega)
          rw [Nat.add_mul] at this
          omega
def maxL : List Nat := [50,49,52,55,52,56,51,54,52,55]
/-- the law's own look at a run -/
def runKind (l : List Nat) : Str :=
  if l ∈ resL then "reserved"
  else if (l.filter isDg).length = l.length then
    (if 10 < l.length ∨ (l.length = 10 ∧ maxL < l) then "bad"
    else if l = [48] ∨ ¬ l.head? = some 48 then "number" else "bad")
  else if (l.filter isNm).length = l.length ∧ l.length < 9 ∧ (∀ c, l.head? = some c → ¬ c ∈ digL) then "name" else "bad"
theorem all_filter (p : Nat → Bool) (l : List Nat) : (l.filter p).length = l.length ↔ l.all p = true := by
  rw [List.length_filter_eq_length_iff, List.all_eq_true]
theorem nm_of_dg {l : List Nat} (h : l.all isDg = true) : l.all isNm = true := by
  rw [List.all_eq_true] at *
  intro c hc
  have := h c hc
  unfold isDg at this; unfold isNm
  rw [decide_eq_true_eq] at *
  exact List.mem_append_right _ this
theorem run_not_sign {c : Nat} (h : isRun c = true) : ¬ c ∈ singL := by
  intro hc
  simp only [singL, List.mem_cons, List.not_mem_nil, or_false] at hc
  rcases hc with rfl | rfl | rfl | rfl | rfl | rfl | rfl | rfl | rfl | rfl | rfl | rfl | rfl | rfl | rfl | rfl | rfl | rfl | rfl | rfl <;> exact absurd h (by decide)
theorem runKind_eq {l : List Nat} (ne : l ≠ []) (al : l.all isRun = true) : runKind l = kindOf l := by
  obtain ⟨c, r, rfl⟩ : ∃ c r, l = c :: r := by
    cases l with
    | nil => exact absurd rfl ne
    | cons c r => exact ⟨c, r, rfl⟩
  have hc : isRun c = true := by
    rw [List.all_cons, Bool.and_eq_true] at al; exact al.1
  have ns0 := run_not_sign hc
  have ns : signKind (c :: r) = "bad" := by
    show (if c ∈ singL then _ else _) = _
    rw [if_neg ns0]
  unfold runKind kindOf
  by_cases h1 : (c :: r) ∈ resL
  · rw [if_pos h1, if_pos h1]
  rw [if_neg h1, if_neg h1]
  have hsm : c ∈ smallL → ¬ isDg c = true := by
    intro hm hd
    have := (dg_iff c).mp hd
    simp only [smallL, List.mem_cons, List.not_mem_nil, or_false] at hm
    omega
  by_cases hd : (c :: r).all isDg = true
  · rw [if_pos ((all_filter _ _).mpr hd)]
    have hcd : isDg c = true := by rw [List.all_cons, Bool.and_eq_true] at hd; exact hd.1
    have nn : isName (c :: r) = false := by
      unfold isName
      have : ¬ c ∈ smallL := fun m => hsm m hcd
      simp [this]
    rw [nn, if_neg Bool.false_ne_true]
    have hv := val_lt _ hd
    have key : isNumber (c :: r) = (decide ((c :: r).length ≤ 10) && (decide (c :: r = [48]) || !decide (c = 48)) && decide (NumText.digitsVal (c :: r) ≤ 2147483647)) := by
      unfold isNumber
      rw [hd, decide_eq_true (show 0 < (c :: r).length by simp), Bool.true_and, Bool.and_true]
    rw [key, ns]
    have hh : (¬ (c :: r).head? = some 48) ↔ ¬ c = 48 := by simp
    generalize hl : c :: r = l at *
    by_cases g1 : 10 < l.length
    · rw [if_pos (.inl g1), decide_eq_false (show ¬ l.length ≤ 10 by omega)]; rfl
    · have le : l.length ≤ 10 := by omega
      rw [decide_eq_true le, Bool.true_and]
      by_cases g2 : l.length = 10 ∧ maxL < l
      · rw [if_pos (.inr g2)]
        have := (lex_val maxL l (by rw [g2.1]; rfl) (by decide) hd).mp g2.2
        rw [show NumText.digitsVal maxL = 2147483647 by decide +kernel] at this
        rw [decide_eq_false (show ¬ NumText.digitsVal l ≤ 2147483647 by omega), Bool.and_false]; rfl
      · rw [if_neg (fun z => z.elim g1 g2)]
        have vle : NumText.digitsVal l ≤ 2147483647 := by
          by_cases g3 : l.length = 10
          · have : ¬ maxL < l := fun z => g2 ⟨g3, z⟩
            rw [lex_val maxL l (by rw [g3]; rfl) (by decide) hd, show NumText.digitsVal maxL = 2147483647 by decide +kernel] at this
            omega
          · have : 10 ^ l.length ≤ 10 ^ 9 := Nat.pow_le_pow_right (by decide) (by omega)
            omega
        rw [decide_eq_true vle, Bool.and_true]
        by_cases g4 : l = [48]
        · rw [if_pos (.inl g4), decide_eq_true g4]; rfl
        · by_cases g5 : c = 48
          · rw [if_neg (fun z => z.elim g4 (fun y => hh.mp y g5)), decide_eq_false g4, decide_eq_true g5]; rfl
          · rw [if_pos (.inr (hh.mpr g5)), decide_eq_false g5]
            simp
  · rw [if_neg (fun z => hd ((all_filter _ _).mp z))]
    have nn : isNumber (c :: r) = false := by
      unfold isNumber
      rw [Bool.eq_false_iff]
      intro z
      simp only [Bool.and_eq_true] at z
      exact hd z.1.1.2
    rw [nn, if_neg Bool.false_ne_true, ns]
    have e : isName (c :: r) = (decide ((c :: r).length ≤ 8) && decide (c ∈ smallL) && (c :: r).all isNm) := by
      unfold isName
      rw [decide_eq_true (show 0 < (c :: r).length by simp), decide_eq_false h1, Bool.true_and, Bool.not_false, Bool.and_true]
    have hh : (∀ d, (c :: r).head? = some d → ¬ d ∈ digL) ↔ ¬ c ∈ digL := by simp
    have iff : ((List.filter isNm (c :: r)).length = (c :: r).length ∧ (c :: r).length < 9 ∧ ∀ d, (c :: r).head? = some d → ¬ d ∈ digL) ↔ isName (c :: r) = true := by
      rw [hh, e, all_filter]
      simp only [Bool.and_eq_true, decide_eq_true_eq]
      constructor
      · rintro ⟨g1, g2, g3⟩
        refine ⟨⟨by omega, ?_⟩, g1⟩
        rw [List.all_cons, Bool.and_eq_true] at g1
        have cm := g1.1
        unfold isNm at cm
        exact (List.mem_append.mp (of_decide_eq_true cm)).elim id fun z => absurd z g3
      · rintro ⟨⟨g1, g2⟩, g3⟩
        exact ⟨g3, by omega, fun d => hsm g2 (by unfold isDg; exact decide_eq_true d)⟩
    by_cases g : isName (c :: r) = true
    · rw [if_pos (iff.mpr g), if_pos g]
    · rw [if_neg (fun z => g (iff.mp z)), if_neg g]

def sp_is_name (K : PySem.W.Frag) : Sp := fun vs H Q _ => ∃ l : List Nat, vs = [.str (S l)] ∧ l.length ≤ 20000 ∧ ∀ H', Same H H' → Q (.bl (isName l)) H'
theorem ok_is_name {f : Addr} {fd : FuncData} (F : Fun K "is_name" "is_name" s_is_name f fd) (b_len : mg "len" = none) (b_all : mg "all" = none) (g_LONGEST_NAME : ∃ t, mg "LONGEST_NAME" = some (.int (8) t)) (g_SMALL_LETTERS : ∃ t, mg "SMALL_LETTERS" = some (.str (SX.S smallL) t)) (g_NAME_MARKS : ∃ t, mg "NAME_MARKS" = some (.str (SX.S (smallL ++ digL)) t)) {p_RESERVED : Addr} (g_RESERVED : mg "RESERVED" = some (.ref p_RESERVED)) (h_RESERVED : ∀ H, SqT K H p_RESERVED (List.map (fun m => V.str (SX.S m)) resL)) : FnOk P w K mg base CX0 (1) f fd ["text"] (sp_is_name K) := by
  refine F.ok sc_is_name (fun vs H Q E h => ?_) (fun cdv A outer s H vs Q E hr h => ?_)
  · first | (obtain ⟨rfl, _⟩ := h; rfl) | (obtain ⟨_, rfl, _⟩ := h; rfl) | (obtain ⟨_, _, rfl, _⟩ := h; rfl) | (obtain ⟨_, _, _, rfl, _⟩ := h; rfl) | (obtain ⟨_, _, _, _, rfl, _⟩ := h; rfl) | (obtain ⟨_, _, _, _, _, rfl, _⟩ := h; rfl) | (obtain ⟨_, _, _, _, _, _, rfl, _⟩ := h; rfl) | (obtain ⟨_, _, _, _, _, _, _, rfl, _⟩ := h; rfl) | (obtain ⟨_, _, _, _, _, _, _, _, rfl, _⟩ := h; rfl) | (obtain ⟨_, _, _, _, _, _, _, _, _, rfl, _⟩ := h; rfl) | (obtain ⟨_, _, _, _, _, _, _, _, _, _, rfl, _⟩ := h; rfl) | (obtain ⟨_, _, _, _, _, _, _, _, _, _, _, rfl, _⟩ := h; rfl) | (obtain ⟨_, _, _, _, _, _, _, _, _, _, _, _, rfl, _⟩ := h; rfl) | (obtain ⟨_, _, _, _, _, _, _, _, _, _, _, _, _, rfl, _⟩ := h; rfl) | (obtain ⟨_, _, _, _, _, _, _, _, _, _, _, _, _, _, rfl, _⟩ := h; rfl) | (obtain ⟨_, _, _, _, _, _, _, _, _, _, _, _, _, _, _, rfl, _⟩ := h; rfl) | (obtain ⟨_, _, _, _, _, _, _, _, _, _, _, _, _, _, _, _, rfl, _⟩ := h; rfl) | (obtain ⟨_, _, _, _, _, _, _, _, _, _, _, _, _, _, _, _, _, rfl, _⟩ := h; rfl)
  · have hu := hu_of hr
    obtain ⟨t_LONGEST_NAME, g_LONGEST_NAME⟩ := g_LONGEST_NAME
    obtain ⟨t_SMALL_LETTERS, g_SMALL_LETTERS⟩ := g_SMALL_LETTERS
    obtain ⟨t_NAME_MARKS, g_NAME_MARKS⟩ := g_NAME_MARKS

    refine ⟨_, (pss_one (ps_ret (pe_and (pe_chain op_lt op_le pe_int (pe_callB (call_len_str) (by rfl) b_len (by decide +kernel) (pa_cons (pv 0) pa_nil)) (pe_glob (v := (.int (8))) (by rfl) g_LONGEST_NAME ⟨_, rfl⟩)) (pe_and (pe_cmpR op_in_sign (pe_ix ix_str (pv 0) pe_int (fun _ _ => rfl)) (pe_glob (v := (.str (SX.S smallL))) (by rfl) g_SMALL_LETTERS ⟨_, rfl⟩) rfl) (pe_and (pe_callB (cr_all rfl) (by rfl) b_all (by decide +kernel) (pa_cons (pe_lc (own := [("mark", 1)]) (g := gName 1) (tt := tYes) rfl sc_is_name.nd (pi_str (pv 0)) (blkOk_by (own := [("mark", 1)]) (N := N_is_name) (sc := defScope s_is_name) (by decide +kernel)) (fun _ _ _ _ _ => (pg_name (i := 1) sc_is_name.nd rfl (.inl rfl))) (fun _ _ _ _ _ => pts_nil) (fun _ _ _ _ _ => (pe_cmpR op_in_sign (pv 1) (pe_glob (v := (.str (SX.S (smallL ++ digL)))) (by rfl) g_NAME_MARKS ⟨_, rfl⟩) rfl))) pa_nil)) (pe_one (pe_cmpR op_notInS (pv 0) (pe_glob (v := (.ref p_RESERVED)) (by rfl) g_RESERVED rfl) rfl))))))), ?_⟩
    obtain ⟨l, rfl, hl, q⟩ := h
    have qf : ∀ H', Same H H' → isName l = false → Q (.bl false) H' := fun H' s e => e ▸ q H' s
    have hlen : (S l).length = l.length := SX.S_len l
    have hsz : (S l).length ≤ sizeLine := by rw [hlen]; exact Nat.le_trans hl (by decide)
    refine ⟨_, rfl, _, rfl, hsz, _, _, rfl, rfl, _, rfl, iteD (fun h1 => ?_) (fun h1 => ?_)⟩
    · refine ⟨_, _, rfl, rfl, _, rfl, iteD (fun h2 => ?_) (fun h2 => ?_)⟩
      · obtain ⟨c, r, rfl⟩ : ∃ c r, l = c :: r := by
          cases l with
          | nil => exact absurd h1 (by decide)
          | cons c r => exact ⟨c, r, rfl⟩
        refine ⟨_, rfl, _, _, _, rfl, rfl, hsz, at_S (i := 0) rfl rfl, _, _, rfl, rfl, _, rfl, iteD (fun h3 => ?_) (fun h3 => ?_)⟩
        · refine ⟨_, rfl, _, rfl, fun p4 np4 => lc_mapS (f := fun c => .bl (isNm c)) np4 hl (fun c H2 Q' s2 hq => ⟨rfl, _, rfl, _, _, rfl, rfl, hq⟩) (fun H2 s2 hD => ?_)⟩
          refine ⟨_, (c :: r).map isNm, rfl, .inl (.inl (by rw [hD, List.map_map]; rfl)), _, rfl, ite2 (fun h5 => ?_) (fun h5 => ?_)⟩
          · refine ⟨_, rfl, c :: r, _, resL, rfl, rfl, .inr (h_RESERVED _), ?_⟩
            have e : isName (c :: r) = !decide (c :: r ∈ resL) := by
              rw [List.all_map] at h5
              have h5' : (c :: r).all isNm = true := h5
              have h3' : c ∈ smallL := h3
              show (decide (0 < (c :: r).length) && decide ((c :: r).length ≤ 8) && decide (c ∈ smallL) && (c :: r).all isNm && !decide (c :: r ∈ resL)) = _
              rw [h5', decide_eq_true (show 0 < (c :: r).length by simp), decide_eq_true (show (c :: r).length ≤ 8 by omega), decide_eq_true h3']; rfl
            have := q H2 s2
            rw [e] at this; exact this
          · refine qf _ s2 ?_
            rw [List.all_map] at h5
            have h5' : ¬ (c :: r).all isNm = true := h5
            unfold isName
            rw [Bool.eq_false_iff.mpr h5', Bool.and_false]; rfl
        · refine qf _ (Same.refl _) ?_
          have h3' : ¬ c ∈ smallL := h3
          unfold isName; simp [h3']
      · refine qf _ (Same.refl _) ?_
        have : ¬ l.length ≤ 8 := by omega
        unfold isName; simp [this]
    · refine ⟨_, rfl, iteF ?_⟩
      refine qf _ (Same.refl _) ?_
      have : ¬ 0 < l.length := by omega
      unfold isName; simp [this]
def sp_is_number (K : PySem.W.Frag) : Sp := fun vs H Q _ => ∃ l : List Nat, vs = [.str (S l)] ∧ l.length ≤ 20000 ∧ ∀ H', Same H H' → Q (.bl (isNumber l)) H'
theorem ok_is_number {f : Addr} {fd : FuncData} (F : Fun K "is_number" "is_number" s_is_number f fd) (b_len : mg "len" = none) (b_all : mg "all" = none) (b_int : mg "int" = none) (g_MOST_DIGITS : ∃ t, mg "MOST_DIGITS" = some (.int (10) t)) (g_DIGITS : ∃ t, mg "DIGITS" = some (.str (SX.S digL) t)) (g_GREATEST : ∃ t, mg "GREATEST" = some (.int (2147483647) t)) : FnOk P w K mg base CX0 (1) f fd ["text"] (sp_is_number K) := by
  refine F.ok sc_is_number (fun vs H Q E h => ?_) (fun cdv A outer s H vs Q E hr h => ?_)
  · first | (obtain ⟨rfl, _⟩ := h; rfl) | (obtain ⟨_, rfl, _⟩ := h; rfl) | (obtain ⟨_, _, rfl, _⟩ := h; rfl) | (obtain ⟨_, _, _, rfl, _⟩ := h; rfl) | (obtain ⟨_, _, _, _, rfl, _⟩ := h; rfl) | (obtain ⟨_, _, _, _, _, rfl, _⟩ := h; rfl) | (obtain ⟨_, _, _, _, _, _, rfl, _⟩ := h; rfl) | (obtain ⟨_, _, _, _, _, _, _, rfl, _⟩ := h; rfl) | (obtain ⟨_, _, _, _, _, _, _, _, rfl, _⟩ := h; rfl) | (obtain ⟨_, _, _, _, _, _, _, _, _, rfl, _⟩ := h; rfl) | (obtain ⟨_, _, _, _, _, _, _, _, _, _, rfl, _⟩ := h; rfl) | (obtain ⟨_, _, _, _, _, _, _, _, _, _, _, rfl, _⟩ := h; rfl) | (obtain ⟨_, _, _, _, _, _, _, _, _, _, _, _, rfl, _⟩ := h; rfl) | (obtain ⟨_, _, _, _, _, _, _, _, _, _, _, _, _, rfl, _⟩ := h; rfl) | (obtain ⟨_, _, _, _, _, _, _, _, _, _, _, _, _, _, rfl, _⟩ := h; rfl) | (obtain ⟨_, _, _, _, _, _, _, _, _, _, _, _, _, _, _, rfl, _⟩ := h; rfl) | (obtain ⟨_, _, _, _, _, _, _, _, _, _, _, _, _, _, _, _, rfl, _⟩ := h; rfl) | (obtain ⟨_, _, _, _, _, _, _, _, _, _, _, _, _, _, _, _, _, rfl, _⟩ := h; rfl)
  · have hu := hu_of hr
    obtain ⟨t_MOST_DIGITS, g_MOST_DIGITS⟩ := g_MOST_DIGITS
    obtain ⟨t_DIGITS, g_DIGITS⟩ := g_DIGITS
    obtain ⟨t_GREATEST, g_GREATEST⟩ := g_GREATEST

    refine ⟨_, (pss_one (ps_ret (pe_and (pe_chain op_lt op_le pe_int (pe_callB (call_len_str) (by rfl) b_len (by decide +kernel) (pa_cons (pv 0) pa_nil)) (pe_glob (v := (.int (10))) (by rfl) g_MOST_DIGITS ⟨_, rfl⟩)) (pe_and (pe_callB (cr_all rfl) (by rfl) b_all (by decide +kernel) (pa_cons (pe_lc (own := [("mark", 1)]) (g := gName 1) (tt := tYes) rfl sc_is_number.nd (pi_str (pv 0)) (blkOk_by (own := [("mark", 1)]) (N := N_is_number) (sc := defScope s_is_number) (by decide +kernel)) (fun _ _ _ _ _ => (pg_name (i := 1) sc_is_number.nd rfl (.inl rfl))) (fun _ _ _ _ _ => pts_nil) (fun _ _ _ _ _ => (pe_cmpR op_in_sign (pv 1) (pe_glob (v := (.str (SX.S digL))) (by rfl) g_DIGITS ⟨_, rfl⟩) rfl))) pa_nil)) (pe_and (pe_or (pe_cmpR op_eq (pv 0) pe_str (nomark _)) (pe_one (pe_cmpR op_ne (pe_ix ix_str (pv 0) pe_int (fun _ _ => rfl)) pe_str (nomark _)))) (pe_one (pe_cmp (pc_le (pe_callTy (call_int_str) (by rfl) b_int (by decide +kernel) (pa_cons (pv 0) pa_nil)) (pe_glob (v := (.int (2147483647))) (by rfl) g_GREATEST ⟨_, rfl⟩))))))))), ?_⟩
    obtain ⟨l, rfl, hl, q⟩ := h
    have qf : ∀ H', Same H H' → isNumber l = false → Q (.bl false) H' := fun H' s e => e ▸ q H' s
    have hlen : (S l).length = l.length := SX.S_len l
    have hsz : (S l).length ≤ sizeLine := by rw [hlen]; exact Nat.le_trans hl (by decide)
    refine ⟨_, rfl, _, rfl, hsz, _, _, rfl, rfl, _, rfl, iteD (fun h1 => ?_) (fun h1 => ?_)⟩
    · refine ⟨_, _, rfl, rfl, _, rfl, iteD (fun h2 => ?_) (fun h2 => ?_)⟩
      · obtain ⟨c, r, rfl⟩ : ∃ c r, l = c :: r := by
          cases l with
          | nil => exact absurd h1 (by decide)
          | cons c r => exact ⟨c, r, rfl⟩
        refine ⟨_, rfl, _, rfl, fun p4 np4 => lc_mapS (f := fun c => .bl (isDg c)) np4 hl (fun c H2 Q' s2 hq => ⟨rfl, _, rfl, _, _, rfl, rfl, hq⟩) (fun H2 s2 hD => ?_)⟩
        refine ⟨_, (c :: r).map isDg, rfl, .inl (.inl (by rw [hD, List.map_map]; rfl)), _, rfl, ite2 (fun h5 => ?_) (fun h5 => ?_)⟩
        · rw [List.all_map] at h5
          have h5' : (c :: r).all isDg = true := h5
          have hint : PySem.intText? (S (c :: r)) = some ((NumText.digitsVal (c :: r) : Nat) : Int) := by
            refine SX.int_S ?_ (by simp) (by omega)
            rw [List.all_eq_true] at h5' ⊢
            intro d hd
            have := (dg_iff d).mp (h5' d hd)
            simp [this]
          have hl2 : (S (c :: r)).length ≤ 640 := by omega
          have key : isNumber (c :: r) = ((decide (c :: r = [48]) || !decide (c = 48)) && decide (NumText.digitsVal (c :: r) ≤ 2147483647)) := by
            unfold isNumber
            rw [h5', decide_eq_true (show 0 < (c :: r).length by simp), decide_eq_true (show (c :: r).length ≤ 10 by omega)]; rfl
          have fin : (c :: r = [48] ∨ ¬ c = 48) → Q (.bl (decide (((NumText.digitsVal (c :: r) : Nat) : Int) ≤ 2147483647))) H2 := fun hz => by
            have := q H2 s2
            rw [key] at this
            have e1 : (decide (c :: r = [48]) || !decide (c = 48)) = true := by
              rcases hz with z | z
              · rw [decide_eq_true z]; rfl
              · rw [decide_eq_false z]; simp
            rw [e1, Bool.true_and] at this
            rw [show decide (((NumText.digitsVal (c :: r) : Nat) : Int) ≤ 2147483647) = decide (NumText.digitsVal (c :: r) ≤ 2147483647) by
              by_cases hv : NumText.digitsVal (c :: r) ≤ 2147483647
              · rw [decide_eq_true hv]; exact decide_eq_true (by omega)
              · rw [decide_eq_false hv]; exact decide_eq_false (by omega)]
            exact this
          refine ⟨_, rfl, rfl, _, rfl, iteD (fun h6 => ?_) (fun h6 => ?_)⟩
          · have e6 : c :: r = [48] := SX.S_inj (V.str.inj h6)
            refine ⟨_, rfl, iteT ?_⟩
            exact ⟨_, rfl, _, _, rfl, hint, hl2, _, _, rfl, rfl, fin (.inl e6)⟩
          · have n6 : ¬ c :: r = [48] := fun e => h6 (by rw [e]; rfl)
            refine ⟨_, rfl, _, _, _, rfl, rfl, hsz, at_S (i := 0) rfl rfl, rfl, _, rfl, iteDn (fun h7 => ?_) (fun h7 => ?_)⟩
            · have n7 : ¬ c = 48 := fun e => h7 (by rw [e]; rfl)
              exact ⟨_, rfl, _, _, rfl, hint, hl2, _, _, rfl, rfl, fin (.inr n7)⟩
            · have e7 : c = 48 := by
                have := SX.S_inj (V.str.inj h7 : S [c] = S [48])
                simpa using this
              refine qf _ s2 ?_
              rw [key, decide_eq_false n6, decide_eq_true e7]; rfl
        · refine qf _ s2 ?_
          rw [List.all_map] at h5
          have h5' : ¬ (c :: r).all isDg = true := h5
          unfold isNumber
          rw [Bool.eq_false_iff.mpr h5', Bool.and_false]; rfl
      · refine qf _ (Same.refl _) ?_
        have : ¬ l.length ≤ 10 := by omega
        unfold isNumber; simp [this]
    · refine ⟨_, rfl, iteF ?_⟩
      refine qf _ (Same.refl _) ?_
      have : ¬ 0 < l.length := by omega
      unfold isNumber; simp [this]
def sp_piece_at (K : PySem.W.Frag) : Sp := fun vs H Q _ => ∃ (l : List Nat) (i : Nat), vs = [.str (S l), .int i] ∧ l.length ≤ 20000 ∧ i < l.length ∧ Q (.str (S (pieceAt (l.drop i)))) H
theorem ok_piece_at {f : Addr} {fd : FuncData} (F : Fun K "piece_at" "piece_at" s_piece_at f fd) (b_len : mg "len" = none) (g_RUN_MARKS : ∃ t, mg "RUN_MARKS" = some (.str (SX.S (smallL ++ bigL ++ digL)) t)) {p_DOUBLE_SIGNS : Addr} (g_DOUBLE_SIGNS : mg "DOUBLE_SIGNS" = some (.ref p_DOUBLE_SIGNS)) (h_DOUBLE_SIGNS : ∀ H, SqT K H p_DOUBLE_SIGNS (List.map (fun m => V.str (SX.S m)) dblL)) : FnOk P w K mg base CX0 (1) f fd ["text", "at"] (sp_piece_at K) := by
  refine F.ok sc_piece_at (fun vs H Q E h => ?_) (fun cdv A outer s H vs Q E hr h => ?_)
  · first | (obtain ⟨rfl, _⟩ := h; rfl) | (obtain ⟨_, rfl, _⟩ := h; rfl) | (obtain ⟨_, _, rfl, _⟩ := h; rfl) | (obtain ⟨_, _, _, rfl, _⟩ := h; rfl) | (obtain ⟨_, _, _, _, rfl, _⟩ := h; rfl) | (obtain ⟨_, _, _, _, _, rfl, _⟩ := h; rfl) | (obtain ⟨_, _, _, _, _, _, rfl, _⟩ := h; rfl) | (obtain ⟨_, _, _, _, _, _, _, rfl, _⟩ := h; rfl) | (obtain ⟨_, _, _, _, _, _, _, _, rfl, _⟩ := h; rfl) | (obtain ⟨_, _, _, _, _, _, _, _, _, rfl, _⟩ := h; rfl) | (obtain ⟨_, _, _, _, _, _, _, _, _, _, rfl, _⟩ := h; rfl) | (obtain ⟨_, _, _, _, _, _, _, _, _, _, _, rfl, _⟩ := h; rfl) | (obtain ⟨_, _, _, _, _, _, _, _, _, _, _, _, rfl, _⟩ := h; rfl) | (obtain ⟨_, _, _, _, _, _, _, _, _, _, _, _, _, rfl, _⟩ := h; rfl) | (obtain ⟨_, _, _, _, _, _, _, _, _, _, _, _, _, _, rfl, _⟩ := h; rfl) | (obtain ⟨_, _, _, _, _, _, _, _, _, _, _, _, _, _, _, rfl, _⟩ := h; rfl) | (obtain ⟨_, _, _, _, _, _, _, _, _, _, _, _, _, _, _, _, rfl, _⟩ := h; rfl) | (obtain ⟨_, _, _, _, _, _, _, _, _, _, _, _, _, _, _, _, _, rfl, _⟩ := h; rfl)
  · have hu := hu_of hr
    obtain ⟨t_RUN_MARKS, g_RUN_MARKS⟩ := g_RUN_MARKS

    refine ⟨_, (pss_cons (ps_set (i := 2) sc_piece_at.nd rfl (.inl rfl) (pv 1))
      (pss_cons (ps_while PassesOwn.never (PW.pt (pw_and (pt_cmp (pc_lt (pv 2) (pe_callB (call_len_str) (by rfl) b_len (by decide +kernel) (pa_cons (pv 0) pa_nil)))) (pw_and1 (pt_cmpR op_in_sign (pe_ix ix_str (pv 0) (pv 2) (fun _ _ => rfl)) (pe_glob (v := (.str (SX.S (smallL ++ bigL ++ digL)))) (by rfl) g_RUN_MARKS ⟨_, rfl⟩) rfl)))) (pss_one (ps_aug (i := 2) sc_piece_at.nd rfl (.inl rfl) pe_int ip_add)))
      (pss_cons (ps_if (pt_cmp (pc_gt (pv 2) (pv 1))) (pss_one (ps_ret (pe_slice sl_str (pv 0) (po_some (pv 1)) (po_some (pv 2))))) pss_nil)
      (pss_cons (ps_if (pt_cmpR op_inS (pe_slice sl_str (pv 0) (po_some (pv 1)) (po_some (pe_op op_add (pv 1) pe_int))) (pe_glob (v := (.ref p_DOUBLE_SIGNS)) (by rfl) g_DOUBLE_SIGNS rfl) rfl) (pss_one (ps_ret (pe_slice sl_str (pv 0) (po_some (pv 1)) (po_some (pe_op op_add (pv 1) pe_int))))) pss_nil)
      (pss_one (ps_ret (pe_ix ix_str (pv 0) (pv 1) (fun _ _ => rfl)))))))), ?_⟩
    obtain ⟨l, i, rfl, hl, hi, q⟩ := h
    have hlen : (S l).length = l.length := SX.S_len l
    have hsz : (S l).length ≤ sizeLine := by rw [hlen]; exact Nat.le_trans hl (by decide)
    refine ⟨_, rfl, ?_⟩
    refine ⟨fun m σ H1 => ∃ n : Nat, σ = [some (.str (S l)), some (.int i), some (.int ((i + n : Nat) : Int))] ∧ i + n ≤ l.length ∧ ((l.drop i).take n).all isRun = true ∧ H1 = H ∧ m = l.length - (i + n), ⟨_, 0, rfl, by omega, rfl, rfl, rfl⟩, ?_⟩
    rintro m σ H1 ⟨n, rfl, hn, hall, rfl, rfl⟩
    have split : l.drop i = (l.drop i).take n ++ (l.drop i).drop n := (List.take_append_drop n _).symm
    refine ⟨_, rfl, _, rfl, _, rfl, hsz, _, _, rfl, rfl, _, rfl, iteD (fun h1 => ?_) (fun h1 => ?_)⟩
    · have hlt : i + n < l.length := by omega
      have hc : l[i + n]? = some l[i + n] := List.getElem?_eq_getElem hlt
      refine ⟨_, rfl, _, rfl, _, _, _, rfl, rfl, hsz, at_S (i := i + n) rfl hc, _, _, rfl, rfl, _, rfl, iteD (fun h2 => ?_) (fun h2 => ?_)⟩
      · refine ⟨fun σ' H' => σ' = [some (.str (S l)), some (.int i), some (.int ((i + (n + 1) : Nat) : Int))] ∧ H' = H1, fun σ' H' hN => ?_, ?_⟩
        · obtain ⟨rfl, rfl⟩ := hN
          refine ⟨_, by omega, n + 1, rfl, by omega, ?_, rfl, rfl⟩
          have : (l.drop i)[n]? = some l[i + n] := by rw [List.getElem?_drop]; exact hc
          rw [take_snoc this, List.all_append, hall]
          have h2' : isRun l[i + n] = true := decide_eq_true h2
          simp [h2']
        refine ⟨_, rfl, _, _, rfl, rfl, ?_, rfl⟩
        have e : ((i + n : Nat) : Int) + 1 = ((i + (n + 1) : Nat) : Int) := by omega
        rw [← e]; rfl
      · have etw : (l.drop i).takeWhile isRun = (l.drop i).take n := by
          conv => lhs; rw [split]
          refine tw_app isRun _ _ hall fun c' hc' => ?_
          rw [List.drop_drop, List.head?_drop, hc] at hc'
          cases hc'
          exact decide_eq_false h2
        refine ⟨_, rfl, _, rfl, _, _, rfl, rfl, _, rfl, iteD (fun h3 => ?_) (fun h3 => ?_)⟩
        · refine ⟨_, rfl, _, rfl, _, rfl, _, rfl, _, rfl, _, rfl, hsz, ?_⟩
          rw [cutS_nat l i (i + n) (by omega)]
          have e : pieceAt (l.drop i) = (l.drop i).take (i + n - i) := by
            unfold pieceAt
            rw [etw, Nat.add_sub_cancel_left, if_pos]
            intro z
            have := congrArg List.length z
            rw [List.length_take, List.length_drop, List.length_nil] at this
            omega
          rw [← e]; exact q
        · have n0 : n = 0 := by omega
          subst n0
          have e0 : (l.drop i).takeWhile isRun = [] := etw
          obtain ⟨c, r, ec⟩ : ∃ c r, l.drop i = c :: r := ⟨_, _, List.drop_eq_getElem_cons hi⟩
          have at2 : ((i : Int) + 2) = ((i + 2 : Nat) : Int) := by omega
          have ec2 : cutS (S l) (some (i : Int)) (some ((i : Int) + 2)) = S ((l.drop i).take 2) := by
            rw [at2, cutS_nat l i (i + 2) (by omega), Nat.add_sub_cancel_left]
          refine ⟨_, rfl, _, rfl, _, rfl, _, rfl, _, _, rfl, rfl, _, rfl, _, rfl, hsz, ?_⟩
          refine ⟨(l.drop i).take 2, _, dblL, congrArg V.str ec2, rfl, .inr (h_DOUBLE_SIGNS _), _, rfl, iteD (fun h6 => ?_) (fun h6 => ?_)⟩
          · refine ⟨_, rfl, _, rfl, _, rfl, _, rfl, _, _, rfl, rfl, _, rfl, _, rfl, hsz, ?_⟩
            rw [ec2]
            have e : pieceAt (l.drop i) = (l.drop i).take 2 := by
              unfold pieceAt
              rw [e0, if_neg (by simp), if_pos h6]
            rw [← e]; exact q
          · have hc : l[i]? = some c := by
              have := congrArg List.head? ec
              rw [List.head?_drop] at this
              exact this
            refine ⟨_, rfl, _, rfl, _, _, _, rfl, rfl, hsz, at_S (i := i) rfl hc, ?_⟩
            have e : pieceAt (l.drop i) = [c] := by
              unfold pieceAt
              rw [e0, if_neg (by simp), if_neg h6, ec]; rfl
            rw [e] at q; exact q
    · refine iteF ?_
      have etw : (l.drop i).takeWhile isRun = (l.drop i).take n := by
        conv => lhs; rw [split]
        refine tw_app isRun _ _ hall fun c' hc' => ?_
        rw [List.drop_drop, List.head?_drop, List.getElem?_eq_none (by omega)] at hc'
        cases hc'
      refine ⟨_, rfl, _, rfl, _, _, rfl, rfl, _, rfl, iteD (fun h3 => ?_) (fun h3 => ?_)⟩
      · refine ⟨_, rfl, _, rfl, _, rfl, _, rfl, _, rfl, _, rfl, hsz, ?_⟩
        rw [cutS_nat l i (i + n) (by omega)]
        have e : pieceAt (l.drop i) = (l.drop i).take (i + n - i) := by
          unfold pieceAt
          rw [etw, Nat.add_sub_cancel_left, if_pos]
          intro z
          have := congrArg List.length z
          rw [List.length_take, List.length_drop, List.length_nil] at this
          omega
        rw [← e]; exact q
      · have n0 : n = 0 := by omega
        subst n0
        have e0 : (l.drop i).takeWhile isRun = [] := etw
        obtain ⟨c, r, ec⟩ : ∃ c r, l.drop i = c :: r := ⟨_, _, List.drop_eq_getElem_cons hi⟩
        have at2 : ((i : Int) + 2) = ((i + 2 : Nat) : Int) := by omega
        have ec2 : cutS (S l) (some (i : Int)) (some ((i : Int) + 2)) = S ((l.drop i).take 2) := by
          rw [at2, cutS_nat l i (i + 2) (by omega), Nat.add_sub_cancel_left]
        refine ⟨_, rfl, _, rfl, _, rfl, _, rfl, _, _, rfl, rfl, _, rfl, _, rfl, hsz, ?_⟩
        refine ⟨(l.drop i).take 2, _, dblL, congrArg V.str ec2, rfl, .inr (h_DOUBLE_SIGNS _), _, rfl, iteD (fun h6 => ?_) (fun h6 => ?_)⟩
        · refine ⟨_, rfl, _, rfl, _, rfl, _, rfl, _, _, rfl, rfl, _, rfl, _, rfl, hsz, ?_⟩
          rw [ec2]
          have e : pieceAt (l.drop i) = (l.drop i).take 2 := by
            unfold pieceAt
            rw [e0, if_neg (by simp), if_pos h6]
          rw [← e]; exact q
        · have hc : l[i]? = some c := by
            have := congrArg List.head? ec
            rw [List.head?_drop] at this
            exact this
          refine ⟨_, rfl, _, rfl, _, _, _, rfl, rfl, hsz, at_S (i := i) rfl hc, ?_⟩
          have e : pieceAt (l.drop i) = [c] := by
            unfold pieceAt
            rw [e0, if_neg (by simp), if_neg h6, ec]; rfl
          rw [e] at q; exact q
def sp_kind_of (K : PySem.W.Frag) : Sp := fun vs H Q _ => ∃ (l : List Nat), vs = [.str (S l)] ∧ l ≠ [] ∧ l.length ≤ 20000 ∧ ∀ H', Same H H' → Q (.str (kindOf l)) H'
theorem ok_kind_of {f : Addr} {fd : FuncData} (F : Fun K "kind_of" "kind_of" s_kind_of f fd) {f_is_name : Addr} {fd_is_name : FuncData} (C_is_name : Callee P w K mg base 1 f_is_name fd_is_name "is_name" ["text"] (sp_is_name K)) {f_is_number : Addr} {fd_is_number : FuncData} (C_is_number : Callee P w K mg base 1 f_is_number fd_is_number "is_number" ["text"] (sp_is_number K)) {p_RESERVED : Addr} (g_RESERVED : mg "RESERVED" = some (.ref p_RESERVED)) (h_RESERVED : ∀ H, SqT K H p_RESERVED (List.map (fun m => V.str (SX.S m)) resL)) (g_SINGLE_SIGNS : ∃ t, mg "SINGLE_SIGNS" = some (.str (SX.S singL) t)) : FnOk P w K mg base CX0 (2) f fd ["piece"] (sp_kind_of K) := by
  refine F.ok sc_kind_of (fun vs H Q E h => ?_) (fun cdv A outer s H vs Q E hr h => ?_)
  · first | (obtain ⟨rfl, _⟩ := h; rfl) | (obtain ⟨_, rfl, _⟩ := h; rfl) | (obtain ⟨_, _, rfl, _⟩ := h; rfl) | (obtain ⟨_, _, _, rfl, _⟩ := h; rfl) | (obtain ⟨_, _, _, _, rfl, _⟩ := h; rfl) | (obtain ⟨_, _, _, _, _, rfl, _⟩ := h; rfl) | (obtain ⟨_, _, _, _, _, _, rfl, _⟩ := h; rfl) | (obtain ⟨_, _, _, _, _, _, _, rfl, _⟩ := h; rfl) | (obtain ⟨_, _, _, _, _, _, _, _, rfl, _⟩ := h; rfl) | (obtain ⟨_, _, _, _, _, _, _, _, _, rfl, _⟩ := h; rfl) | (obtain ⟨_, _, _, _, _, _, _, _, _, _, rfl, _⟩ := h; rfl) | (obtain ⟨_, _, _, _, _, _, _, _, _, _, _, rfl, _⟩ := h; rfl) | (obtain ⟨_, _, _, _, _, _, _, _, _, _, _, _, rfl, _⟩ := h; rfl) | (obtain ⟨_, _, _, _, _, _, _, _, _, _, _, _, _, rfl, _⟩ := h; rfl) | (obtain ⟨_, _, _, _, _, _, _, _, _, _, _, _, _, _, rfl, _⟩ := h; rfl) | (obtain ⟨_, _, _, _, _, _, _, _, _, _, _, _, _, _, _, rfl, _⟩ := h; rfl) | (obtain ⟨_, _, _, _, _, _, _, _, _, _, _, _, _, _, _, _, rfl, _⟩ := h; rfl) | (obtain ⟨_, _, _, _, _, _, _, _, _, _, _, _, _, _, _, _, _, rfl, _⟩ := h; rfl)
  · have hu := hu_of hr
    obtain ⟨t_SINGLE_SIGNS, g_SINGLE_SIGNS⟩ := g_SINGLE_SIGNS

    refine ⟨_, (pss_cons (ps_if (pt_cmpR op_inS (pv 0) (pe_glob (v := (.ref p_RESERVED)) (by rfl) g_RESERVED rfl) rfl) (pss_one (ps_ret pe_str)) pss_nil)
      (pss_cons (ps_if (pt_val (pe_call C_is_name.ok (hr.mono (by omega)) (by rfl) C_is_name.g C_is_name.kp C_is_name.b .nil pass0 (pa_cons (pv 0) pa_nil))) (pss_one (ps_ret pe_str)) pss_nil)
      (pss_cons (ps_if (pt_val (pe_call C_is_number.ok (hr.mono (by omega)) (by rfl) C_is_number.g C_is_number.kp C_is_number.b .nil pass0 (pa_cons (pv 0) pa_nil))) (pss_one (ps_ret pe_str)) pss_nil)
      (pss_cons (ps_if (pt_cmpR op_in_sign (pe_ix ix_str (pv 0) pe_int (fun _ _ => rfl)) (pe_glob (v := (.str (SX.S singL))) (by rfl) g_SINGLE_SIGNS ⟨_, rfl⟩) rfl) (pss_one (ps_ret pe_str)) pss_nil)
      (pss_one (ps_ret pe_str)))))), ?_⟩
    obtain ⟨l, rfl, ne, hl, q⟩ := h
    have hlen : (S l).length = l.length := SX.S_len l
    have hsz : (S l).length ≤ sizeLine := by rw [hlen]; exact Nat.le_trans hl (by decide)
    refine ⟨_, rfl, l, _, resL, rfl, rfl, .inr (h_RESERVED _), _, rfl, iteD (fun h1 => ?_) (fun h1 => ?_)⟩
    · have := q H (Same.refl _)
      unfold kindOf at this
      rw [if_pos h1] at this; exact this
    · refine ⟨_, rfl, _, rfl, hl, fun H2 S2 => ?_⟩
      refine ⟨_, rfl, ite2 (fun h3 => ?_) (fun h3 => ?_)⟩
      · have := q H2 S2
        unfold kindOf at this
        rw [if_neg h1, if_pos h3] at this; exact this
      · refine ⟨_, rfl, _, rfl, hl, fun H4 S4 => ?_⟩
        refine ⟨_, rfl, ite2 (fun h5 => ?_) (fun h5 => ?_)⟩
        · have := q H4 (S2.trans S4)
          unfold kindOf at this
          rw [if_neg h1, if_neg h3, if_pos h5] at this; exact this
        · obtain ⟨c, r, rfl⟩ : ∃ c r, l = c :: r := by
            cases l with
            | nil => exact absurd rfl ne
            | cons c r => exact ⟨c, r, rfl⟩
          have this := q H4 (S2.trans S4)
          unfold kindOf at this
          rw [if_neg h1, if_neg h3, if_neg h5] at this
          change Q (.str (if c ∈ singL then "sign" else "bad")) H4 at this
          refine ⟨_, rfl, _, _, _, rfl, rfl, hsz, at_S (i := 0) rfl rfl, _, _, rfl, rfl, _, rfl, iteD (fun h6 => ?_) (fun h6 => ?_)⟩
          · have h6' : c ∈ singL := h6
            rw [if_pos h6'] at this; exact this
          · have h6' : ¬ c ∈ singL := h6
            rw [if_neg h6'] at this; exact this
def RepTok (H : Hp) (r : Addr) (t : LTok) : Prop := H r = some (.tup [.str t.kind, .str (S t.text), .int t.line, .int t.col])
def TokAll (H : Hp) : List Addr → List LTok → Prop
  | [], [] => True
  | r :: rs, t :: ts => RepTok H r t ∧ TokAll H rs ts
  | _, _ => False
def TupKeep (H H' : Hp) : Prop := ∀ b xs, H b = some (.tup xs) → H' b = some (.tup xs)
theorem TokAll.keep {H H' : Hp} (k : TupKeep H H') : ∀ {rs : List Addr} {ts : List LTok}, TokAll H rs ts → TokAll H' rs ts
  | [], [], _ => trivial
  | _ :: _, _ :: _, h => ⟨k _ _ h.1, TokAll.keep k h.2⟩
  | [], _ :: _, h => h.elim
  | _ :: _, [], h => h.elim
theorem TokAll.snoc {H : Hp} {r : Addr} {t : LTok} (e : RepTok H r t) : ∀ {rs : List Addr} {ts : List LTok}, TokAll H rs ts → TokAll H (rs ++ [r]) (ts ++ [t])
  | [], [], _ => ⟨e, trivial⟩
  | _ :: _, _ :: _, h => ⟨h.1, TokAll.snoc e h.2⟩
  | [], _ :: _, h => h.elim
  | _ :: _, [], h => h.elim
theorem TokAll.len {H : Hp} : ∀ {rs : List Addr} {ts : List LTok}, TokAll H rs ts → rs.length = ts.length
  | [], [], _ => rfl
  | _ :: _, _ :: _, h => congrArg (· + 1) (TokAll.len h.2)
  | [], _ :: _, h => h.elim
  | _ :: _, [], h => h.elim
theorem TokAll.at {H : Hp} : ∀ {rs : List Addr} {ts : List LTok} {i : Nat} {r : Addr}, TokAll H rs ts → rs[i]? = some r → ∃ t, ts[i]? = some t ∧ RepTok H r t
  | [], [], _, _, _, e => by simp at e
  | _ :: _, t :: _, 0, _, h, e => ⟨t, rfl, by have := Option.some.inj e; subst this; exact h.1⟩
  | _ :: rs, _ :: ts, i + 1, _, h, e => TokAll.at (rs := rs) (ts := ts) (i := i) h.2 e
  | [], _ :: _, _, _, h, _ => h.elim
  | _ :: _, [], _, _, h, _ => h.elim
theorem Same.tup {H H' : Hp} (s : Same H H') : TupKeep H H' := fun b xs e => s b _ e
theorem tk_upd {H : Hp} {p : Addr} {xs ys : List V} (e : H p = some (.lst xs)) : TupKeep H (upd H p (.lst ys)) := fun b zs h => by
  rw [upd_ne (fun z => by subst z; rw [e] at h; cases h)]; exact h
theorem tk_new {H : Hp} {p : Addr} {o : HO} (e : H p = none) : TupKeep H (upd H p o) := fun b zs h => by
  rw [upd_ne (ne_of_none h e)]; exact h
theorem TupKeep.trans {H H1 H2 : Hp} (a : TupKeep H H1) (b : TupKeep H1 H2) : TupKeep H H2 := fun c xs h => b c xs (a c xs h)
theorem toks_nl (r : List Nat) (ln col : Int) : toks (10 :: r) ln col = toks r (ln + 1) 1 := by
  conv => lhs; unfold toks
  rw [if_pos rfl]
theorem toks_sp (r : List Nat) (ln col : Int) : toks (32 :: r) ln col = toks r ln (col + 1) := by
  conv => lhs; unfold toks
  rw [if_neg (by decide), if_pos rfl]
theorem toks_pc {c : Nat} {r : List Nat} {ln col : Int} (h1 : ¬ c = 10) (h2 : ¬ c = 32) : toks (c :: r) ln col = ⟨kindOf (pieceAt (c :: r)), pieceAt (c :: r), ln, col⟩ :: toks ((c :: r).drop (pieceAt (c :: r)).length) ln (col + (pieceAt (c :: r)).length) := by
  conv => lhs; unfold toks
  rw [if_neg h1, if_neg h2]
theorem toks_end (ln col : Int) : toks [] ln col = [⟨"end", [], ln, col⟩] := by unfold toks; rfl
theorem kind_ok (l : List Nat) : PyData.strOk (kindOf l) = true := by
  have hs : PyData.strOk (signKind l) = true := by
    cases l with
    | nil => decide +kernel
    | cons c r =>
      show PyData.strOk (if c ∈ singL then ("sign" : Str) else "bad") = true
      split <;> decide +kernel
  unfold kindOf
  split
  · decide +kernel
  · split
    · decide +kernel
    · split
      · decide +kernel
      · exact hs
theorem piece_sub (l : List Nat) : ∀ c ∈ pieceAt l, c ∈ l := by
  intro c hc
  unfold pieceAt at hc
  split at hc
  · exact (List.takeWhile_sublist _).subset hc
  · split at hc <;> exact List.mem_of_mem_take hc
theorem toks_ok (n : Nat) : ∀ (l : List Nat) (ln col : Int), l.length ≤ n → ∀ t ∈ toks l ln col, (∀ c ∈ t.text, c ∈ l) ∧ PyData.strOk t.kind = true := by
  have hend : PyData.strOk "end" = true := by decide +kernel
  induction n with
  | zero =>
    intro l ln col hl t ht
    have : l = [] := List.length_eq_zero_iff.mp (by omega)
    subst this
    rw [toks_end] at ht
    cases List.mem_singleton.mp ht
    exact ⟨fun c h => h, hend⟩
  | succ n ih =>
    intro l ln col hl t ht
    cases l with
    | nil =>
      rw [toks_end] at ht
      cases List.mem_singleton.mp ht
      exact ⟨fun c h => h, hend⟩
    | cons c r =>
      have hr : r.length ≤ n := by rw [List.length_cons] at hl; omega
      by_cases h1 : c = 10
      · subst h1
        rw [toks_nl] at ht
        have := ih r _ _ hr t ht
        exact ⟨fun d hd => List.mem_cons_of_mem _ (this.1 d hd), this.2⟩
      · by_cases h2 : c = 32
        · subst h2
          rw [toks_sp] at ht
          have := ih r _ _ hr t ht
          exact ⟨fun d hd => List.mem_cons_of_mem _ (this.1 d hd), this.2⟩
        · rw [toks_pc h1 h2] at ht
          have pl := pieceAt_len c r
          rcases List.mem_cons.mp ht with e | e
          · subst e
            exact ⟨piece_sub _, kind_ok _⟩
          · have := ih _ _ _ (by rw [List.length_drop, List.length_cons]; rw [List.length_cons] at pl; omega) t e
            exact ⟨fun d hd => List.mem_of_mem_drop (this.1 d hd), this.2⟩
theorem toks_strs {l : List Nat} (h : ∀ c ∈ l, c < 128) (ln col : Int) : ∀ t ∈ toks l ln col, PyData.strOk (S t.text) = true ∧ PyData.strOk t.kind = true := by
  intro t ht
  obtain ⟨h1, h2⟩ := toks_ok l.length l ln col (Nat.le_refl _) t ht
  refine ⟨?_, h2⟩
  unfold PyData.strOk
  rw [Array.all_eq_true_iff_forall_mem]
  intro c hc
  have := h c (h1 c (by simpa using hc))
  exact decide_eq_true (by omega)
theorem piece_128 {p : List Nat} (h : IsPiece p) : ∀ c ∈ p, c < 128 := by
  cases h with
  | run ne al =>
    intro c hc
    have := List.all_eq_true.mp al c hc
    have f : ∀ c ∈ smallL ++ bigL ++ digL, c < 128 := by decide
    exact f c (of_decide_eq_true this)
  | dbl hd =>
    exact (by decide : ∀ p ∈ dblL, ∀ c ∈ p, c < 128) p hd
  | @one d hd =>
    intro c hc
    cases List.mem_singleton.mp hc
    exact (by decide : ∀ c ∈ singL ++ badL, c < 128) _ hd
theorem toks_count (n : Nat) : ∀ (l : List Nat) (ln col : Int), l.length ≤ n → (toks l ln col).length ≤ n + 1 := by
  induction n with
  | zero =>
    intro l ln col hl
    have : l = [] := List.length_eq_zero_iff.mp (by omega)
    subst this
    rw [toks_end]; simp
  | succ n ih =>
    intro l ln col hl
    cases l with
    | nil => rw [toks_end]; simp
    | cons c r =>
      have hr : r.length ≤ n := by rw [List.length_cons] at hl; omega
      by_cases h1 : c = 10
      · subst h1
        rw [toks_nl]
        have := ih r (ln + 1) 1 hr
        omega
      · by_cases h2 : c = 32
        · subst h2
          rw [toks_sp]
          have := ih r ln (col + 1) hr
          omega
        · rw [toks_pc h1 h2, List.length_cons]
          have pl := pieceAt_len c r
          have := ih ((c :: r).drop (pieceAt (c :: r)).length) ln (col + (pieceAt (c :: r)).length) (by rw [List.length_drop, List.length_cons]; rw [List.length_cons] at pl; omega)
          omega
def sp_tokens (K : PySem.W.Frag) : Sp := fun vs H Q _ => ∃ (l : List Nat), vs = [.str (S l)] ∧ l.length ≤ 20000 ∧ ∀ H' p rs, Same H H' → H p = none → H' p = some (.lst (rs.map V.ref)) → TokAll H' rs (toks l 1 1) → Q (.ref p) H'
theorem ok_tokens {f : Addr} {fd : FuncData} (F : Fun K "tokens" "tokens" s_tokens f fd) {f_piece_at : Addr} {fd_piece_at : FuncData} (C_piece_at : Callee P w K mg base 1 f_piece_at fd_piece_at "piece_at" ["text", "at"] (sp_piece_at K)) {f_kind_of : Addr} {fd_kind_of : FuncData} (C_kind_of : Callee P w K mg base 2 f_kind_of fd_kind_of "kind_of" ["piece"] (sp_kind_of K)) (b_len : mg "len" = none) : FnOk P w K mg base CX0 (3) f fd ["text"] (sp_tokens K) := by
  refine F.ok sc_tokens (fun vs H Q E h => ?_) (fun cdv A outer s H vs Q E hr h => ?_)
  · first | (obtain ⟨rfl, _⟩ := h; rfl) | (obtain ⟨_, rfl, _⟩ := h; rfl) | (obtain ⟨_, _, rfl, _⟩ := h; rfl) | (obtain ⟨_, _, _, rfl, _⟩ := h; rfl) | (obtain ⟨_, _, _, _, rfl, _⟩ := h; rfl) | (obtain ⟨_, _, _, _, _, rfl, _⟩ := h; rfl) | (obtain ⟨_, _, _, _, _, _, rfl, _⟩ := h; rfl) | (obtain ⟨_, _, _, _, _, _, _, rfl, _⟩ := h; rfl) | (obtain ⟨_, _, _, _, _, _, _, _, rfl, _⟩ := h; rfl) | (obtain ⟨_, _, _, _, _, _, _, _, _, rfl, _⟩ := h; rfl) | (obtain ⟨_, _, _, _, _, _, _, _, _, _, rfl, _⟩ := h; rfl) | (obtain ⟨_, _, _, _, _, _, _, _, _, _, _, rfl, _⟩ := h; rfl) | (obtain ⟨_, _, _, _, _, _, _, _, _, _, _, _, rfl, _⟩ := h; rfl) | (obtain ⟨_, _, _, _, _, _, _, _, _, _, _, _, _, rfl, _⟩ := h; rfl) | (obtain ⟨_, _, _, _, _, _, _, _, _, _, _, _, _, _, rfl, _⟩ := h; rfl) | (obtain ⟨_, _, _, _, _, _, _, _, _, _, _, _, _, _, _, rfl, _⟩ := h; rfl) | (obtain ⟨_, _, _, _, _, _, _, _, _, _, _, _, _, _, _, _, rfl, _⟩ := h; rfl) | (obtain ⟨_, _, _, _, _, _, _, _, _, _, _, _, _, _, _, _, _, rfl, _⟩ := h; rfl)
  · have hu := hu_of hr

    refine ⟨_, (pss_cons (ps_set (i := 1) sc_tokens.nd rfl (.inl rfl) (pe_lst pa_nil))
      (pss_cons (ps_set (i := 2) sc_tokens.nd rfl (.inl rfl) pe_int)
      (pss_cons (ps_set (i := 3) sc_tokens.nd rfl (.inl rfl) pe_int)
      (pss_cons (ps_set (i := 4) sc_tokens.nd rfl (.inl rfl) pe_int)
      (pss_cons (ps_while PassesOwn.never (pt_cmp (pc_lt (pv 4) (pe_callB (call_len_str) (by rfl) b_len (by decide +kernel) (pa_cons (pv 0) pa_nil)))) (pss_one (ps_if (pt_cmpR op_eq (pe_ix ix_str (pv 0) (pv 4) (fun _ _ => rfl)) pe_str (nomark _)) (pss_cons (ps_aug (i := 4) sc_tokens.nd rfl (.inl rfl) pe_int ip_add)
      (pss_cons (ps_aug (i := 2) sc_tokens.nd rfl (.inl rfl) pe_int ip_add)
      (pss_one (ps_set (i := 3) sc_tokens.nd rfl (.inl rfl) (pv 4))))) (pss_one (ps_if (pt_cmpR op_eq (pe_ix ix_str (pv 0) (pv 4) (fun _ _ => rfl)) pe_str (nomark _)) (pss_one (ps_aug (i := 4) sc_tokens.nd rfl (.inl rfl) pe_int ip_add)) (pss_cons (ps_set (i := 5) sc_tokens.nd rfl (.inl rfl) (pe_call C_piece_at.ok (hr.mono (by omega)) (by rfl) C_piece_at.g C_piece_at.kp C_piece_at.b .nil pass0 (pa_cons (pv 0) (pa_cons (pv 4) pa_nil))))
      (pss_cons (ps_expr (pe_bm PySem.F.plainAttrs_list PySem.F.slot_list_append PySem.F.type_list_append mt_append (pv 1) (pa_cons (pe_tup (pa_cons (pe_call C_kind_of.ok (hr.mono (by omega)) (by rfl) C_kind_of.g C_kind_of.kp C_kind_of.b .nil pass0 (pa_cons (pv 5) pa_nil)) (pa_cons (pv 5) (pa_cons (pv 2) (pa_cons (pe_op op_add (pe_op op_sub (pv 4) (pv 3)) pe_int) pa_nil))))) pa_nil)))
      (pss_one (ps_aug (i := 4) sc_tokens.nd rfl (.inl rfl) (pe_callB (call_len_str) (by rfl) b_len (by decide +kernel) (pa_cons (pv 5) pa_nil)) ip_add)))))))))
      (pss_cons (ps_expr (pe_bm PySem.F.plainAttrs_list PySem.F.slot_list_append PySem.F.type_list_append mt_append (pv 1) (pa_cons (pe_tup (pa_cons pe_str (pa_cons pe_str (pa_cons (pv 2) (pa_cons (pe_op op_add (pe_op op_sub (pv 4) (pv 3)) pe_int) pa_nil))))) pa_nil)))
      (pss_one (ps_ret (pv 1))))))))), ?_⟩
    obtain ⟨l, rfl, hl, q⟩ := h
    have hlen : (S l).length = l.length := SX.S_len l
    have hsz : (S l).length ≤ sizeLine := by rw [hlen]; exact Nat.le_trans hl (by decide)
    refine ⟨(by show (0 : Nat) ≤ sizeLine; decide), fun p np => ?_⟩
    refine ⟨fun m σ H1 => ∃ (i : Nat) (ln ls : Int) (pc : Option V) (rs : List Addr) (dn : List LTok), σ = [some (.str (S l)), some (.ref p), some (.int ln), some (.int ls), some (.int i), pc] ∧ i ≤ l.length ∧ H1 p = some (.lst (rs.map V.ref)) ∧ TokAll H1 rs dn ∧ toks l 1 1 = dn ++ toks (l.drop i) ln (i - ls + 1) ∧ Same H H1 ∧ rs.length ≤ i ∧ m = l.length - i,
      ⟨_, 0, 1, 0, none, [], [], rfl, by omega, upd_same, trivial, rfl, same_upd np, Nat.le_refl _, rfl⟩, ?_⟩
    rintro m σ H1 ⟨i, ln, ls, pc, rs, dn, rfl, hi, hp, hT, he, hS, hr, rfl⟩
    refine ⟨_, rfl, _, rfl, _, rfl, hsz, _, _, rfl, rfl, _, rfl, iteD (fun h2 => ?_) (fun h2 => ?_)⟩
    · have hlt : i < l.length := by omega
      have ec := List.drop_eq_getElem_cons hlt
      have hc : l[i]? = some l[i] := List.getElem?_eq_getElem hlt
      generalize l[i] = c at ec hc
      rw [ec] at he
      refine ⟨_, fun _ _ h => h, ?_⟩
      refine ⟨_, rfl, _, rfl, _, _, _, rfl, rfl, hsz, at_S (i := i) rfl hc, rfl, _, rfl, iteD (fun h3 => ?_) (fun h3 => ?_)⟩
      · have c10 : c = 10 := by
          have e : S [c] = S [10] := (V.str.inj h3).trans (by decide +kernel)
          simpa using SX.S_inj e
        subst c10
        refine ⟨_, rfl, _, _, rfl, rfl, _, rfl, _, _, rfl, rfl, _, rfl, ?_⟩
        refine ⟨l.length - (i + 1), by omega, i + 1, ln + 1, ((i : Int) + 1), pc, rs, dn, rfl, by omega, hp, hT, ?_, hS, by omega, rfl⟩
        rw [he, toks_nl]
        congr 2
        omega
      · have n10 : ¬ c = 10 := fun e => h3 (by subst e; exact congrArg V.str (by decide +kernel))
        refine ⟨_, rfl, _, rfl, _, _, _, rfl, rfl, hsz, at_S (i := i) rfl hc, rfl, _, rfl, iteD (fun h4 => ?_) (fun h4 => ?_)⟩
        · have c32 : c = 32 := by
            have e : S [c] = S [32] := (V.str.inj h4).trans (by decide +kernel)
            simpa using SX.S_inj e
          subst c32
          refine ⟨_, rfl, _, _, rfl, rfl, ?_⟩
          refine ⟨l.length - (i + 1), by omega, i + 1, ln, ls, pc, rs, dn, rfl, by omega, hp, hT, ?_, hS, by omega, rfl⟩
          rw [he, toks_sp]
          congr 2
          omega
        · have n32 : ¬ c = 32 := fun e => h4 (by subst e; exact congrArg V.str (by decide +kernel))
          have pl := pieceAt_len c (l.drop (i + 1))
          have lc : (c :: l.drop (i + 1)).length = l.length - i := by rw [← ec, List.length_drop]
          have hpc : pieceAt (l.drop i) = pieceAt (c :: l.drop (i + 1)) := by rw [ec]
          generalize hw : pieceAt (c :: l.drop (i + 1)) = w at pl hpc
          have he2 : toks l 1 1 = (dn ++ [⟨kindOf w, w, ln, i - ls + 1⟩]) ++ toks (l.drop (i + w.length)) ln (((i + w.length : Nat) : Int) - ls + 1) := by
            rw [he, toks_pc n10 n32, hw, List.append_assoc, List.singleton_append, ← ec, List.drop_drop]
            congr 3
            omega
          have wne : w ≠ [] := fun z => by rw [z] at pl; exact absurd pl.1 (by decide)
          refine ⟨_, rfl, _, rfl, _, _, rfl, hl, hlt, ?_⟩
          rw [hpc]
          refine ⟨_, rfl, .inl ⟨rfl, _, .inl (.inl hp)⟩, _, rfl, _, rfl, wne, by omega, fun H6 S6 => ?_⟩
          refine ⟨_, rfl, _, rfl, _, rfl, _, rfl, _, _, rfl, rfl, _, _, rfl, rfl, (by show (4 : Nat) ≤ sizeLine; decide), fun p7 np7 => ?_⟩
          have hp7 := keep (o := .tup [.str (kindOf w), .str (S w), .int ln, .int (i - ls + 1)]) (S6 _ _ hp) np7
          refine ⟨_, _, _, rfl, rfl, hp7, ?_, _, rfl, _, rfl, _, rfl, ?_, _, _, rfl, rfl, ?_⟩
          · rw [List.length_map]; exact Nat.lt_of_lt_of_le (by omega : _ < 20001) (by decide)
          · rw [SX.S_len]; exact Nat.le_trans (by omega : _ ≤ 20000) (by decide)
          · refine ⟨l.length - (i + w.length), by omega, i + w.length, ln, ls, some (.str (S w)), rs ++ [p7], _, rfl, by omega, ?_, ?_, he2, ?_, ?_, rfl⟩
            · rw [upd_same, List.map_append]; rfl
            · have k1 : TupKeep H1 (upd H6 p7 (.tup [.str (kindOf w), .str (S w), .int ln, .int (i - ls + 1)])) := (Same.tup S6).trans (tk_new np7)
              exact (TokAll.snoc (show RepTok _ p7 ⟨kindOf w, w, ln, i - ls + 1⟩ from upd_same) (hT.keep k1)).keep (tk_upd hp7)
            · exact same_fresh ((hS.trans S6).trans (same_upd np7)) np
            · rw [List.length_append, List.length_singleton]; omega
    · -- behind the loop
      have ei : i = l.length := by omega
      subst ei
      refine ⟨_, rfl, .inl ⟨rfl, _, .inl (.inl hp)⟩, _, rfl, _, rfl, _, rfl, _, _, rfl, rfl, _, _, rfl, rfl, (by show (4 : Nat) ≤ sizeLine; decide), fun p8 np8 => ?_⟩
      have hp8 := keep (o := .tup [.str "end", .str (S []), .int ln, .int ((l.length : Int) - ls + 1)]) hp np8
      refine ⟨_, _, _, rfl, rfl, hp8, ?_, _, rfl, ?_⟩
      · rw [List.length_map]; exact Nat.lt_of_lt_of_le (by omega : _ < 20001) (by decide)
      refine q _ p (rs ++ [p8]) (same_fresh (hS.trans (same_upd np8)) np) np ?_ ?_
      · rw [upd_same, List.map_append]; rfl
      · rw [he, List.drop_length, toks_end]
        exact (TokAll.snoc (show RepTok _ p8 ⟨"end", [], ln, (l.length : Int) - ls + 1⟩ from upd_same) (hT.keep (tk_new np8))).keep (tk_upd hp8)
def sp__law_pool (K : PySem.W.Frag) : Sp := fun vs H Q _ => ∃ (a : Addr) (ns : List Int), vs = [.ref a] ∧ SqL K H a (ns.map V.int) ∧ ns.length ≤ 63 ∧ ∀ H' p q, Same H H' → H p = none → H q = none → Pool H' p q → Q (.ref p) H'
theorem ok__law_pool {f : Addr} {fd : FuncData} (F : Fun K "_law_pool" "_law_pool" s__law_pool f fd) (b_list : mg "list" = none) : FnOk P w K mg base CX0 (1) f fd ["script"] (sp__law_pool K) := by
  refine F.ok sc__law_pool (fun vs H Q E h => ?_) (fun cdv A outer s H vs Q E hr h => ?_)
  · first | (obtain ⟨rfl, _⟩ := h; rfl) | (obtain ⟨_, rfl, _⟩ := h; rfl) | (obtain ⟨_, _, rfl, _⟩ := h; rfl) | (obtain ⟨_, _, _, rfl, _⟩ := h; rfl) | (obtain ⟨_, _, _, _, rfl, _⟩ := h; rfl) | (obtain ⟨_, _, _, _, _, rfl, _⟩ := h; rfl) | (obtain ⟨_, _, _, _, _, _, rfl, _⟩ := h; rfl) | (obtain ⟨_, _, _, _, _, _, _, rfl, _⟩ := h; rfl) | (obtain ⟨_, _, _, _, _, _, _, _, rfl, _⟩ := h; rfl) | (obtain ⟨_, _, _, _, _, _, _, _, _, rfl, _⟩ := h; rfl) | (obtain ⟨_, _, _, _, _, _, _, _, _, _, rfl, _⟩ := h; rfl) | (obtain ⟨_, _, _, _, _, _, _, _, _, _, _, rfl, _⟩ := h; rfl) | (obtain ⟨_, _, _, _, _, _, _, _, _, _, _, _, rfl, _⟩ := h; rfl) | (obtain ⟨_, _, _, _, _, _, _, _, _, _, _, _, _, rfl, _⟩ := h; rfl) | (obtain ⟨_, _, _, _, _, _, _, _, _, _, _, _, _, _, rfl, _⟩ := h; rfl) | (obtain ⟨_, _, _, _, _, _, _, _, _, _, _, _, _, _, _, rfl, _⟩ := h; rfl) | (obtain ⟨_, _, _, _, _, _, _, _, _, _, _, _, _, _, _, _, rfl, _⟩ := h; rfl) | (obtain ⟨_, _, _, _, _, _, _, _, _, _, _, _, _, _, _, _, _, rfl, _⟩ := h; rfl)
  · have hu := hu_of hr

    refine ⟨_, (pss_one (ps_ret (pe_lst (pa_cons (pe_callTy (call_list_of) (by rfl) b_list (by decide +kernel) (pa_cons (pe_slice sl_list (pv 0) po_none (po_some pe_int)) pa_nil)) (pa_cons pe_int (pa_cons pe_int (pa_cons pe_int pa_nil))))))), ?_⟩
    obtain ⟨a, ns, rfl, hS, hl, q⟩ := h
    refine ⟨_, rfl, _, rfl, _, _, rfl, hS, fun p1 np1 => ?_⟩
    refine ⟨_, _, rfl, .inl (.inl (.inl upd_same)), fun p2 np2 => ?_⟩
    refine ⟨(by show (4 : Nat) ≤ sizeLine; decide), fun p3 np3 => ?_⟩
    have S1 := same_upd (o := .lst (cutV (ns.map V.int) none (some 63))) np1
    have S2 := S1.trans (same_upd (o := .lst (cutV (ns.map V.int) none (some 63))) np2)
    have S3 := S2.trans (same_upd (o := .lst [V.ref p2, V.int 0, V.int 0, V.int 11]) np3)
    have n32 : p2 ≠ p3 := ne_of_none upd_same np3
    refine q _ p3 p2 S3 (S2.free np3) (S1.free np2) ⟨(ns.drop (HT.sIx (ns.map V.int).length 0 none)).take (HT.sIx (ns.map V.int).length (ns.map V.int).length (some 63) - HT.sIx (ns.map V.int).length 0 none), 0, 0, 11, Ne.symm n32, upd_same, ?_, by decide, ?_, by decide, by decide⟩
    · rw [upd_ne n32, upd_same, List.map_take, List.map_drop]; rfl
    · rw [List.length_take, List.length_drop]; omega
def sp__law_draw (K : PySem.W.Frag) : Sp := fun vs H Q _ => ∃ (p q : Addr) (many : Int), vs = [.ref p, .int many] ∧ 0 < many ∧ many < 1000000000000000000000000000000 ∧ Pool H p q ∧ ∀ H' r, But p H H' → Pool H' p q → 0 ≤ r → r < many → Q (.int r) H'
theorem ok__law_draw {f : Addr} {fd : FuncData} (F : Fun K "_law_draw" "_law_draw" s__law_draw f fd) (b_len : mg "len" = none) (b_abs : mg "abs" = none) (b_int : mg "int" = none) : FnOk P w K mg base CX0 (1) f fd ["pool", "many"] (sp__law_draw K) := by
  refine F.ok sc__law_draw (fun vs H Q E h => ?_) (fun cdv A outer s H vs Q E hr h => ?_)
  · first | (obtain ⟨rfl, _⟩ := h; rfl) | (obtain ⟨_, rfl, _⟩ := h; rfl) | (obtain ⟨_, _, rfl, _⟩ := h; rfl) | (obtain ⟨_, _, _, rfl, _⟩ := h; rfl) | (obtain ⟨_, _, _, _, rfl, _⟩ := h; rfl) | (obtain ⟨_, _, _, _, _, rfl, _⟩ := h; rfl) | (obtain ⟨_, _, _, _, _, _, rfl, _⟩ := h; rfl) | (obtain ⟨_, _, _, _, _, _, _, rfl, _⟩ := h; rfl) | (obtain ⟨_, _, _, _, _, _, _, _, rfl, _⟩ := h; rfl) | (obtain ⟨_, _, _, _, _, _, _, _, _, rfl, _⟩ := h; rfl) | (obtain ⟨_, _, _, _, _, _, _, _, _, _, rfl, _⟩ := h; rfl) | (obtain ⟨_, _, _, _, _, _, _, _, _, _, _, rfl, _⟩ := h; rfl) | (obtain ⟨_, _, _, _, _, _, _, _, _, _, _, _, rfl, _⟩ := h; rfl) | (obtain ⟨_, _, _, _, _, _, _, _, _, _, _, _, _, rfl, _⟩ := h; rfl) | (obtain ⟨_, _, _, _, _, _, _, _, _, _, _, _, _, _, rfl, _⟩ := h; rfl) | (obtain ⟨_, _, _, _, _, _, _, _, _, _, _, _, _, _, _, rfl, _⟩ := h; rfl) | (obtain ⟨_, _, _, _, _, _, _, _, _, _, _, _, _, _, _, _, rfl, _⟩ := h; rfl) | (obtain ⟨_, _, _, _, _, _, _, _, _, _, _, _, _, _, _, _, _, rfl, _⟩ := h; rfl)
  · have hu := hu_of hr

    refine ⟨_, (pss_cons (ps_while PassesOwn.never (PW.pt (pw_and (pt_cmp (pc_eqI (pe_ix ix_list (pv 0) pe_int (fun _ _ => rfl)) pe_int)) (pw_and1 (pt_cmp (pc_lt (pe_ix ix_list (pv 0) pe_int (fun _ _ => rfl)) (pe_callB (call_len_seq) (by rfl) b_len (by decide +kernel) (pa_cons (pe_ix ix_list (pv 0) pe_int (fun _ _ => rfl)) pa_nil))))))) (pss_cons (ps_asg (pe_callB (call_abs) (by rfl) b_abs (by decide +kernel) (pa_cons (pe_ix ix_list (pe_ix ix_list (pv 0) pe_int (fun _ _ => rfl)) (pe_ix ix_list (pv 0) pe_int (fun _ _ => rfl)) (fun _ _ => rfl)) pa_nil)) (pg_sub (pv 0) pe_int set_list))
      (pss_one (ps_asg (pe_op op_add (pe_ix ix_list (pv 0) pe_int (fun _ _ => rfl)) pe_int) (pg_sub (pv 0) pe_int set_list)))))
      (pss_cons (ps_if (pt_cmp (pc_eqI (pe_ix ix_list (pv 0) pe_int (fun _ _ => rfl)) pe_int)) (pss_cons (ps_asg (pe_op op_add (pe_ix ix_list (pv 0) pe_int (fun _ _ => rfl)) pe_int) (pg_sub (pv 0) pe_int set_list))
      (pss_one (ps_ret (pe_op op_mod (pe_callTy (call_int1) (by rfl) b_int (by decide +kernel) (pa_cons (pe_op op_fdiv (pe_ix ix_list (pv 0) pe_int (fun _ _ => rfl)) pe_int) pa_nil)) (pv 1))))) pss_nil)
      (pss_cons (ps_set (i := 2) sc__law_draw.nd rfl (.inl rfl) (pe_op op_mod (pe_callTy (call_int1) (by rfl) b_int (by decide +kernel) (pa_cons (pe_ix ix_list (pv 0) pe_int (fun _ _ => rfl)) pa_nil)) (pv 1)))
      (pss_cons (ps_asg (pe_op op_fdivW (pe_callTy (call_int1) (by rfl) b_int (by decide +kernel) (pa_cons (pe_ix ix_list (pv 0) pe_int (fun _ _ => rfl)) pa_nil)) (pv 1)) (pg_sub (pv 0) pe_int set_list))
      (pss_one (ps_ret (pv 2))))))), ?_⟩
    obtain ⟨p, q, many, rfl, m0, m1, ⟨ns, i0, d0, c0, npq, hp, hq, hi, hn, hd, hc⟩, k⟩ := h
    refine ⟨fun m σ H1 => ∃ i d c, σ = [some (.ref p), some (.int many), none] ∧ H1 p = some (.lst [.ref q, .int i, .int d, .int c]) ∧ But p H H1 ∧ 0 ≤ i ∧ 0 ≤ d ∧ 0 ≤ c ∧ m = ns.length - i.toNat, ⟨_, i0, d0, c0, rfl, hp, fun _ _ e _ => e, hi, hd, hc, rfl⟩, ?_⟩
    rintro m σ H1 ⟨i, d, c, rfl, hp1, bt, hi1, hd1, hc1, rfl⟩
    have hq1 : H1 q = some (.lst (ns.map V.int)) := bt _ _ hq (Ne.symm npq)
    have hpL : SqL K H1 p [.ref q, .int i, .int d, .int c] := .inl (.inl hp1)
    have hqL : SqL K H1 q (ns.map V.int) := .inl (.inl hq1)
    have A0 : atI [V.ref q, .int i, .int d, .int c] 0 = some (.ref q) := rfl
    have A1 : atI [V.ref q, .int i, .int d, .int c] 1 = some (.int i) := rfl
    have A2 : atI [V.ref q, .int i, .int d, .int c] 2 = some (.int d) := rfl
    have A3 : atI [V.ref q, .int i, .int d, .int c] 3 = some (.int c) := rfl
    refine ⟨_, rfl, _, _, _, _, rfl, rfl, hpL, A2, _, _, rfl, rfl, _, rfl, iteD (fun h1 => ?_) (fun h1 => ?_)⟩
    · subst h1
      refine ⟨_, rfl, _, _, _, _, rfl, rfl, hpL, A1, _, rfl, _, _, _, _, rfl, rfl, hpL, A0, _, _, rfl, .inl hqL, _, _, rfl, rfl, _, rfl, iteD (fun h2 => ?_) (fun h2 => ?_)⟩
      · have hlt : i.toNat < ns.length := by rw [List.length_map] at h2; omega
        have g : atI (ns.map V.int) i = some (.int ns[i.toNat]) := at_of (j := i.toNat) (by omega) (by rw [List.getElem?_map, List.getElem?_eq_getElem hlt]; rfl)
        refine ⟨fun σ' H' => ∃ d' c', σ' = [some (.ref p), some (.int many), none] ∧ H' p = some (.lst [.ref q, .int (i + 1), .int d', .int c']) ∧ But p H H' ∧ 0 ≤ d' ∧ 0 ≤ c', fun σ' H' hN => ?_, ?_⟩
        · obtain ⟨d', c', e1, e2, e3, e4, e5⟩ := hN
          exact ⟨_, by omega, i + 1, d', c', e1, e2, e3, by omega, e4, e5, rfl⟩
        refine ⟨_, rfl, _, _, _, _, rfl, rfl, hpL, A0, _, rfl, _, _, _, _, rfl, rfl, hpL, A1, _, _, _, _, rfl, rfl, hqL, g, _, rfl, _, rfl, _, _, _, _, rfl, rfl, hp1, rfl, _, rfl, _, _, _, _, rfl, rfl, .inl (.inl upd_same), A1, _, _, rfl, rfl, _, rfl, _, _, _, _, rfl, rfl, upd_same, rfl, ?_⟩
        refine ⟨_, c, rfl, upd_same, bt.upd.upd, ?_, hc1⟩
        split <;> omega
      · -- behind the loop
        refine ⟨_, rfl, _, _, _, _, rfl, rfl, hpL, A2, _, _, rfl, rfl, _, rfl, iteD (fun h3 => ?_) (fun h3 => absurd rfl h3)⟩
        refine ⟨_, rfl, _, _, _, _, rfl, rfl, hpL, A3, _, _, rfl, rfl, _, rfl, _, _, _, _, rfl, rfl, hp1, rfl, _, rfl, _, _, _, _, rfl, rfl, .inl (.inl upd_same), rfl, _, _, rfl, rfl, ⟨by decide, by decide⟩, .inl ⟨_, rfl, ?_⟩⟩
        refine ⟨_, rfl, _, _, rfl, rfl, m0, ?_⟩
        exact k _ _ bt.upd ⟨ns, i, 0, c + 7, npq, upd_same, by rw [upd_ne (Ne.symm npq)]; exact hq1, hi1, hn, by decide, by omega⟩ (Int.emod_nonneg _ (by omega)) (Int.emod_lt_of_pos _ m0)
    · refine iteF ?_
      -- behind the loop
      refine ⟨_, rfl, _, _, _, _, rfl, rfl, hpL, A2, _, _, rfl, rfl, _, rfl, iteD (fun h4 => absurd h4 h1) (fun h4 => ?_)⟩
      refine ⟨_, rfl, _, _, _, _, rfl, rfl, hpL, A2, .inl ⟨_, rfl, ?_⟩⟩
      refine ⟨_, rfl, _, _, rfl, rfl, m0, _, rfl, _, _, _, _, rfl, rfl, hpL, A2, .inl ⟨_, rfl, ?_⟩⟩
      refine ⟨_, rfl, _, _, rfl, rfl, divW m0 m1, _, rfl, _, _, _, _, rfl, rfl, hp1, rfl, _, rfl, ?_⟩
      exact k _ _ bt.upd ⟨ns, i, d / many, c, npq, upd_same, by rw [upd_ne (Ne.symm npq)]; exact hq1, hi1, hn, Int.ediv_nonneg hd1 (by omega), hc1⟩ (Int.emod_nonneg _ (by omega)) (Int.emod_lt_of_pos _ m0)

def runs4 : List Nat := [49, 48, 97, 90]
def edL : List (List Nat) := [[48],[48,48],[48,48,55],[50,49,52,55,52,56,51,54,52,55],[50,49,52,55,52,56,51,54,52,56],[50,49,52,55,52,56,51,54,53,48],[51,48,48,48,48,48,48,48,48,48],[49,50,97,98],[65,98],[97,66],[73,102],[87,72,73,76,69],[119,104,105,108,101,115],[109,111,100,101],[99,111,110,116,105,110,117,101,115],[97,98,99,100,101,102,103,104],[97,98,99,100,101,102,103,104,105],[97,49,50,51,52,53,54,55],[97,49,50,51,52,53,54,55,56],[49,48,48,48,48,48,48,48,48,48,48],[48,120,49,102],[49,101,57]]
def sp__law_pick (K : PySem.W.Frag) : Sp := fun vs H Q _ => ∃ (p q0 : Addr) (th : V) (ls : List (List Nat)), vs = [.ref p, th] ∧ Pool H p q0 ∧ ls ≠ [] ∧ ls.length ≤ 20000 ∧ ((∃ q, th = .ref q ∧ q ≠ p ∧ H q = some (.lst (ls.map fun m => V.str (S m)))) ∨ ∃ l, th = .str (S l) ∧ ls = l.map fun c => [c]) ∧ ∀ H' l, But p H H' → Pool H' p q0 → l ∈ ls → Q (.str (S l)) H'
theorem ok__law_pick {f : Addr} {fd : FuncData} (F : Fun K "_law_pick" "_law_pick" s__law_pick f fd) {f__law_draw : Addr} {fd__law_draw : FuncData} (C__law_draw : Callee P w K mg base 1 f__law_draw fd__law_draw "_law_draw" ["pool", "many"] (sp__law_draw K)) (b_len : mg "len" = none) : FnOk P w K mg base CX0 (2) f fd ["pool", "things"] (sp__law_pick K) := by
  refine F.ok sc__law_pick (fun vs H Q E h => ?_) (fun cdv A outer s H vs Q E hr h => ?_)
  · first | (obtain ⟨rfl, _⟩ := h; rfl) | (obtain ⟨_, rfl, _⟩ := h; rfl) | (obtain ⟨_, _, rfl, _⟩ := h; rfl) | (obtain ⟨_, _, _, rfl, _⟩ := h; rfl) | (obtain ⟨_, _, _, _, rfl, _⟩ := h; rfl) | (obtain ⟨_, _, _, _, _, rfl, _⟩ := h; rfl) | (obtain ⟨_, _, _, _, _, _, rfl, _⟩ := h; rfl) | (obtain ⟨_, _, _, _, _, _, _, rfl, _⟩ := h; rfl) | (obtain ⟨_, _, _, _, _, _, _, _, rfl, _⟩ := h; rfl) | (obtain ⟨_, _, _, _, _, _, _, _, _, rfl, _⟩ := h; rfl) | (obtain ⟨_, _, _, _, _, _, _, _, _, _, rfl, _⟩ := h; rfl) | (obtain ⟨_, _, _, _, _, _, _, _, _, _, _, rfl, _⟩ := h; rfl) | (obtain ⟨_, _, _, _, _, _, _, _, _, _, _, _, rfl, _⟩ := h; rfl) | (obtain ⟨_, _, _, _, _, _, _, _, _, _, _, _, _, rfl, _⟩ := h; rfl) | (obtain ⟨_, _, _, _, _, _, _, _, _, _, _, _, _, _, rfl, _⟩ := h; rfl) | (obtain ⟨_, _, _, _, _, _, _, _, _, _, _, _, _, _, _, rfl, _⟩ := h; rfl) | (obtain ⟨_, _, _, _, _, _, _, _, _, _, _, _, _, _, _, _, rfl, _⟩ := h; rfl) | (obtain ⟨_, _, _, _, _, _, _, _, _, _, _, _, _, _, _, _, _, rfl, _⟩ := h; rfl)
  · have hu := hu_of hr

    refine ⟨_, (pss_one (ps_ret (pe_ix ix_seq (pv 1) (pe_call C__law_draw.ok (hr.mono (by omega)) (by rfl) C__law_draw.g C__law_draw.kp C__law_draw.b .nil pass0 (pa_cons (pv 0) (pa_cons (pe_callB (call_len) (by rfl) b_len (by decide +kernel) (pa_cons (pv 1) pa_nil)) pa_nil))) (fun _ _ => rfl)))), ?_⟩
    obtain ⟨p, q0, th, ls, rfl, P, ne, le, ht, q⟩ := h
    have hpos : 0 < ls.length := List.length_pos_iff.mpr ne
    have pick : ∀ r : Int, 0 ≤ r → r < ls.length → ∃ l, ls[r.toNat]? = some l ∧ l ∈ ls := fun r h0 h1 => by
      have hlt : r.toNat < ls.length := by omega
      exact ⟨_, List.getElem?_eq_getElem hlt, List.getElem_mem hlt⟩
    rcases ht with ⟨d, rfl, nd, hd⟩ | ⟨l, rfl, rfl⟩
    · refine ⟨_, rfl, _, rfl, _, rfl, _, _, rfl, .inl ⟨_, .inl (.inl hd), rfl⟩, _, _, _, rfl, ?_, ?_, P, fun H1 r1 bt1 P1 lo1 hi1 => ?_⟩
      · rw [List.length_map]; omega
      · rw [List.length_map]; omega
      rw [List.length_map] at hi1
      obtain ⟨m, hm, hin⟩ := pick r1 lo1 hi1
      refine .inl ⟨_, _, _, _, rfl, rfl, .inl (.inl (bt1 _ _ hd nd)), at_of (j := r1.toNat) (by omega) (by rw [List.getElem?_map, hm]; rfl), ?_⟩
      exact q _ _ bt1 P1 hin
    · rw [List.length_map] at hpos le pick
      have hlen : (S l).length = l.length := SX.S_len l
      have hsz : (S l).length ≤ sizeLine := by rw [hlen]; exact Nat.le_trans le (by decide)
      refine ⟨_, rfl, _, rfl, _, rfl, _, _, rfl, ⟨hsz, rfl⟩, _, _, _, rfl, ?_, ?_, P, fun H1 r1 bt1 P1 lo1 hi1 => ?_⟩
      · omega
      · omega
      obtain ⟨m, hm, hin⟩ := pick r1 lo1 (by omega)
      rw [List.getElem?_map] at hm
      cases hc : l[r1.toNat]? with
      | none => rw [hc] at hm; cases hm
      | some c =>
        rw [hc] at hm
        cases hm
        exact .inr (.inr ⟨_, _, _, rfl, rfl, hsz, at_S (i := r1.toNat) (by omega) hc, q _ _ bt1 P1 hin⟩)
def sp__law_integer (K : PySem.W.Frag) : Sp := fun vs H Q _ => ∃ (x : Int), vs = [.int x] ∧ Q (.bl true) H
theorem ok__law_integer {f : Addr} {fd : FuncData} (F : Fun K "_law_integer" "_law_integer" s__law_integer f fd) (b_isinstance : mg "isinstance" = none) (b_int : mg "int" = none) (b_bool : mg "bool" = none) : FnOk P w K mg base CX0 (1) f fd ["x"] (sp__law_integer K) := by
  refine F.ok sc__law_integer (fun vs H Q E h => ?_) (fun cdv A outer s H vs Q E hr h => ?_)
  · first | (obtain ⟨rfl, _⟩ := h; rfl) | (obtain ⟨_, rfl, _⟩ := h; rfl) | (obtain ⟨_, _, rfl, _⟩ := h; rfl) | (obtain ⟨_, _, _, rfl, _⟩ := h; rfl) | (obtain ⟨_, _, _, _, rfl, _⟩ := h; rfl) | (obtain ⟨_, _, _, _, _, rfl, _⟩ := h; rfl) | (obtain ⟨_, _, _, _, _, _, rfl, _⟩ := h; rfl) | (obtain ⟨_, _, _, _, _, _, _, rfl, _⟩ := h; rfl) | (obtain ⟨_, _, _, _, _, _, _, _, rfl, _⟩ := h; rfl) | (obtain ⟨_, _, _, _, _, _, _, _, _, rfl, _⟩ := h; rfl) | (obtain ⟨_, _, _, _, _, _, _, _, _, _, rfl, _⟩ := h; rfl) | (obtain ⟨_, _, _, _, _, _, _, _, _, _, _, rfl, _⟩ := h; rfl) | (obtain ⟨_, _, _, _, _, _, _, _, _, _, _, _, rfl, _⟩ := h; rfl) | (obtain ⟨_, _, _, _, _, _, _, _, _, _, _, _, _, rfl, _⟩ := h; rfl) | (obtain ⟨_, _, _, _, _, _, _, _, _, _, _, _, _, _, rfl, _⟩ := h; rfl) | (obtain ⟨_, _, _, _, _, _, _, _, _, _, _, _, _, _, _, rfl, _⟩ := h; rfl) | (obtain ⟨_, _, _, _, _, _, _, _, _, _, _, _, _, _, _, _, rfl, _⟩ := h; rfl) | (obtain ⟨_, _, _, _, _, _, _, _, _, _, _, _, _, _, _, _, _, rfl, _⟩ := h; rfl)
  · have hu := hu_of hr

    refine ⟨_, (pss_one (ps_ret (pe_and (pe_callB call_isi (by rfl) b_isinstance (by decide +kernel) (pa_cons (pv 0) (pa_cons (pe_bltn (v := .ty "int") (by rfl) b_int (by decide +kernel) rfl) pa_nil))) (pe_one (pe_not (pe_callB call_isi (by rfl) b_isinstance (by decide +kernel) (pa_cons (pv 0) (pa_cons (pe_bltn (v := .ty "bool") (by rfl) b_bool (by decide +kernel) rfl) pa_nil)))))))), ?_⟩
    obtain ⟨x, rfl, q⟩ := h
    refine ⟨_, rfl, _, _, _, _, true, rfl, .ty "int", .base (.int _), kit_ty (by decide +kernel), _, rfl, iteT ?_⟩
    exact ⟨_, rfl, _, _, _, _, false, rfl, .ty "bool", .base (.int _), kit_ty (by decide +kernel), _, rfl, q⟩

def sp__law_run_kind (K : PySem.W.Frag) : Sp := fun vs H Q _ => ∃ (l : List Nat), vs = [.str (S l)] ∧ l ≠ [] ∧ l.length ≤ 20000 ∧ ∀ H', Same H H' → Q (.str (runKind l)) H'
theorem ok__law_run_kind {f : Addr} {fd : FuncData} (F : Fun K "_law_run_kind" "_law_run_kind" s__law_run_kind f fd) (b_len : mg "len" = none) : FnOk P w K mg base CX0 (1) f fd ["run"] (sp__law_run_kind K) := by
  refine F.ok sc__law_run_kind (fun vs H Q E h => ?_) (fun cdv A outer s H vs Q E hr h => ?_)
  · first | (obtain ⟨rfl, _⟩ := h; rfl) | (obtain ⟨_, rfl, _⟩ := h; rfl) | (obtain ⟨_, _, rfl, _⟩ := h; rfl) | (obtain ⟨_, _, _, rfl, _⟩ := h; rfl) | (obtain ⟨_, _, _, _, rfl, _⟩ := h; rfl) | (obtain ⟨_, _, _, _, _, rfl, _⟩ := h; rfl) | (obtain ⟨_, _, _, _, _, _, rfl, _⟩ := h; rfl) | (obtain ⟨_, _, _, _, _, _, _, rfl, _⟩ := h; rfl) | (obtain ⟨_, _, _, _, _, _, _, _, rfl, _⟩ := h; rfl) | (obtain ⟨_, _, _, _, _, _, _, _, _, rfl, _⟩ := h; rfl) | (obtain ⟨_, _, _, _, _, _, _, _, _, _, rfl, _⟩ := h; rfl) | (obtain ⟨_, _, _, _, _, _, _, _, _, _, _, rfl, _⟩ := h; rfl) | (obtain ⟨_, _, _, _, _, _, _, _, _, _, _, _, rfl, _⟩ := h; rfl) | (obtain ⟨_, _, _, _, _, _, _, _, _, _, _, _, _, rfl, _⟩ := h; rfl) | (obtain ⟨_, _, _, _, _, _, _, _, _, _, _, _, _, _, rfl, _⟩ := h; rfl) | (obtain ⟨_, _, _, _, _, _, _, _, _, _, _, _, _, _, _, rfl, _⟩ := h; rfl) | (obtain ⟨_, _, _, _, _, _, _, _, _, _, _, _, _, _, _, _, rfl, _⟩ := h; rfl) | (obtain ⟨_, _, _, _, _, _, _, _, _, _, _, _, _, _, _, _, _, rfl, _⟩ := h; rfl)
  · have hu := hu_of hr

    refine ⟨_, (pss_cons (ps_set (i := 1) sc__law_run_kind.nd rfl (.inl rfl) (pe_lst (pa_cons pe_str (pa_cons pe_str (pa_cons pe_str (pa_cons pe_str (pa_cons pe_str (pa_cons pe_str (pa_cons pe_str (pa_cons pe_str (pa_cons pe_str (pa_cons pe_str pa_nil))))))))))))
      (pss_cons (ps_if (pt_cmpR op_inS (pv 0) (pv 1) rfl) (pss_one (ps_ret pe_str)) pss_nil)
      (pss_cons (ps_setLc (i := 2) (own := [("one", 4)]) (g := gName 4) rfl sc__law_run_kind.nd rfl rfl (sw_true rfl rfl rfl (by decide +kernel)) (pi_str (pv 0)) (blkOk_by (own := [("one", 4)]) (N := N__law_run_kind) (sc := defScope s__law_run_kind) (by decide +kernel)) (fun _ _ _ _ _ => (pg_name (i := 4) sc__law_run_kind.nd rfl (.inl rfl))) (fun _ _ _ _ _ => (pts_one (pt_cmpR op_in_sign (pv 4) pe_str rfl))) (fun _ _ _ _ _ => (pv 4)))
      (pss_cons (ps_if (pt_cmp (pc_eqI (pe_callB (call_len_seq) (by rfl) b_len (by decide +kernel) (pa_cons (pv 2) pa_nil)) (pe_callB (call_len_str) (by rfl) b_len (by decide +kernel) (pa_cons (pv 0) pa_nil)))) (pss_cons (ps_if (PW.pt (pw_or (pt_cmp (pc_gt (pe_callB (call_len_str) (by rfl) b_len (by decide +kernel) (pa_cons (pv 0) pa_nil)) pe_int)) (pw_or1 (PW.pt (pw_and (pt_cmp (pc_eqI (pe_callB (call_len_str) (by rfl) b_len (by decide +kernel) (pa_cons (pv 0) pa_nil)) pe_int)) (pw_and1 (pt_cmpR op_gt_str (pv 0) pe_str (nomark _)))))))) (pss_one (ps_ret pe_str)) pss_nil)
      (pss_one (ps_ret (pe_ifExp (PW.pt (pw_or (pt_cmpR op_eq (pv 0) pe_str (nomark _)) (pw_or1 (pt_cmpR op_ne (pe_ix ix_str (pv 0) pe_int (fun _ _ => rfl)) pe_str (nomark _))))) pe_str pe_str)))) pss_nil)
      (pss_cons (ps_setLc (i := 3) (own := [("one", 4)]) (g := gName 4) rfl sc__law_run_kind.nd rfl rfl (sw_true rfl rfl rfl (by decide +kernel)) (pi_str (pv 0)) (blkOk_by (own := [("one", 4)]) (N := N__law_run_kind) (sc := defScope s__law_run_kind) (by decide +kernel)) (fun _ _ _ _ _ => (pg_name (i := 4) sc__law_run_kind.nd rfl (.inl rfl))) (fun _ _ _ _ _ => (pts_one (pt_cmpR op_in_sign (pv 4) pe_str rfl))) (fun _ _ _ _ _ => (pv 4)))
      (pss_cons (ps_if (PW.pt (pw_and (pt_cmp (pc_eqI (pe_callB (call_len_seq) (by rfl) b_len (by decide +kernel) (pa_cons (pv 3) pa_nil)) (pe_callB (call_len_str) (by rfl) b_len (by decide +kernel) (pa_cons (pv 0) pa_nil)))) (pw_and (pt_cmp (pc_lt (pe_callB (call_len_str) (by rfl) b_len (by decide +kernel) (pa_cons (pv 0) pa_nil)) pe_int)) (pw_and1 (pt_cmpR op_notIn_sign (pe_ix ix_str (pv 0) pe_int (fun _ _ => rfl)) pe_str rfl))))) (pss_one (ps_ret pe_str)) pss_nil)
      (pss_one (ps_ret pe_str)))))))), ?_⟩
    obtain ⟨l, rfl, ne, hl, q⟩ := h
    have hlen : (S l).length = l.length := SX.S_len l
    have hsz : (S l).length ≤ sizeLine := by rw [hlen]; exact Nat.le_trans hl (by decide)
    obtain ⟨c0, r0, e0⟩ : ∃ c r, l = c :: r := by
      cases l with
      | nil => exact absurd rfl ne
      | cons c r => exact ⟨c, r, rfl⟩
    have h0 : l[0]? = some c0 := by rw [e0]; rfl
    have ekept : [V.str "break", .str "continue", .str "else", .str "if", .str "mod", .str "return", .str "tell", .str "use", .str "while", .str "word"] = resL.map fun m => V.str (S m) := by decide +kernel
    have edig : ("0123456789" : Str) = S digL := by decide +kernel
    have elow : ("abcdefghijklmnopqrstuvwxyz0123456789" : Str) = S (smallL ++ digL) := by decide +kernel
    have emax : ("2147483647" : Str) = S maxL := by decide +kernel
    have e48 : ("0" : Str) = S [48] := by decide +kernel
    refine ⟨(by show (10 : Nat) ≤ sizeLine; decide), fun p1 np1 => ?_⟩
    refine ⟨_, rfl, _, rfl, l, _, resL, rfl, rfl, .inl (.inl (.inl (upd_same.trans (congrArg (fun x => some (HO.lst x)) ekept)))), _, rfl, iteD (fun h2 => ?_) (fun h2 => ?_)⟩
    · have := q _ (same_upd (o := .lst [V.str "break", .str "continue", .str "else", .str "if", .str "mod", .str "return", .str "tell", .str "use", .str "while", .str "word"]) np1)
      unfold runKind at this
      rw [if_pos h2] at this; exact this
    · have S1 := same_upd (o := .lst [V.str "break", .str "continue", .str "else", .str "if", .str "mod", .str "return", .str "tell", .str "use", .str "while", .str "word"]) np1
      refine ⟨_, rfl, _, rfl, fun p3 np3 => lc_filtS (p := isDg) np3 hl (fun c H2 Q' Q2 s2 h1 h2 => ⟨rfl, _, rfl, c, _, rfl, rfl, _, rfl, iteD (fun hc => ⟨_, rfl, h1 ?_⟩) (fun hc => h2 ?_)⟩) (fun H3 s3 hD3 => ?_)⟩
      · rw [edig] at hc; exact decide_eq_true hc
      · rw [edig] at hc; exact decide_eq_false hc
      have S3 := S1.trans s3
      refine ⟨_, rfl, _, _, rfl, .inl (.inl (.inl hD3)), _, rfl, _, rfl, hsz, _, _, rfl, rfl, _, rfl, iteD (fun h4 => ?_) (fun h4 => ?_)⟩
      · have h4' : (l.filter isDg).length = l.length := by rw [List.length_map] at h4; omega
        refine ⟨_, rfl, _, rfl, hsz, _, _, rfl, rfl, _, rfl, iteD (fun h5 => ?_) (fun h5 => ?_)⟩
        · refine iteT ?_
          have := q _ S3
          unfold runKind at this
          rw [if_neg h2, if_pos h4', if_pos (.inl (by omega))] at this; exact this
        · have fin : ¬ (10 < l.length ∨ (l.length = 10 ∧ maxL < l)) → (if l = [48] ∨ ¬ l.head? = some 48 then Q (.str "number") H3 else Q (.str "bad") H3) := fun hz => by
            have := q _ S3
            unfold runKind at this
            rw [if_neg h2, if_pos h4', if_neg hz] at this
            split
            · rename_i z; rw [if_pos z] at this; exact this
            · rename_i z; rw [if_neg z] at this; exact this
          refine ⟨_, rfl, _, rfl, hsz, _, _, rfl, rfl, _, rfl, iteD (fun h6 => ?_) (fun h6 => ?_)⟩
          · refine ⟨_, rfl, _, _, rfl, rfl, _, rfl, iteD (fun h7 => ?_) (fun h7 => ?_)⟩
            · have := q _ S3
              unfold runKind at this
              rw [emax] at h7
              rw [if_neg h2, if_pos h4', if_pos (.inr ⟨by omega, h7⟩)] at this; exact this
            · rw [emax] at h7
              have fin' := fin (fun z => z.elim (fun y => h5 (by omega)) (fun y => h7 y.2))
              refine ⟨_, rfl, rfl, _, rfl, iteD (fun h8 => ?_) (fun h8 => ?_)⟩
              · have e8 : l = [48] := SX.S_inj ((V.str.inj h8).trans e48)
                rw [if_pos (.inl e8)] at fin'
                exact iteT fin'
              · have n8 : ¬ l = [48] := fun e => h8 (by rw [e]; exact congrArg V.str e48.symm)
                refine ⟨_, rfl, _, _, _, rfl, rfl, hsz, at_S (i := 0) rfl h0, rfl, _, rfl, iteDn (fun h9 => ?_) (fun h9 => ?_)⟩
                · have n9 : ¬ l.head? = some 48 := fun e => h9 (by rw [e0] at e; cases e; exact congrArg V.str e48.symm)
                  rw [if_pos (.inr n9)] at fin'; exact fin'
                · have e9 : l.head? = some 48 := by
                    have : S [c0] = S [48] := (V.str.inj h9).trans e48
                    have := SX.S_inj this
                    rw [e0]; simpa using this
                  rw [if_neg (fun z => z.elim n8 (fun y => y e9))] at fin'; exact fin'
          · refine iteF ?_
            have fin' := fin (fun z => z.elim (fun y => h5 (by omega)) (fun y => h6 (by omega)))
            refine ⟨_, rfl, rfl, _, rfl, iteD (fun h8 => ?_) (fun h8 => ?_)⟩
            · have e8 : l = [48] := SX.S_inj ((V.str.inj h8).trans e48)
              rw [if_pos (.inl e8)] at fin'
              exact iteT fin'
            · have n8 : ¬ l = [48] := fun e => h8 (by rw [e]; exact congrArg V.str e48.symm)
              refine ⟨_, rfl, _, _, _, rfl, rfl, hsz, at_S (i := 0) rfl h0, rfl, _, rfl, iteDn (fun h9 => ?_) (fun h9 => ?_)⟩
              · have n9 : ¬ l.head? = some 48 := fun e => h9 (by rw [e0] at e; cases e; exact congrArg V.str e48.symm)
                rw [if_pos (.inr n9)] at fin'; exact fin'
              · have e9 : l.head? = some 48 := by
                  have : S [c0] = S [48] := (V.str.inj h9).trans e48
                  have := SX.S_inj this
                  rw [e0]; simpa using this
                rw [if_neg (fun z => z.elim n8 (fun y => y e9))] at fin'; exact fin'
      · have h4' : ¬ (l.filter isDg).length = l.length := fun z => h4 (by rw [List.length_map]; omega)
        have fin : (if (l.filter isNm).length = l.length ∧ l.length < 9 ∧ (∀ c, l.head? = some c → ¬ c ∈ digL) then Q (.str "name") H3 else Q (.str "bad") H3) ∧ ∀ H', Same H3 H' → (if (l.filter isNm).length = l.length ∧ l.length < 9 ∧ (∀ c, l.head? = some c → ¬ c ∈ digL) then Q (.str "name") H' else Q (.str "bad") H') := by
          have g : ∀ H', Same H3 H' → (if (l.filter isNm).length = l.length ∧ l.length < 9 ∧ (∀ c, l.head? = some c → ¬ c ∈ digL) then Q (.str "name") H' else Q (.str "bad") H') := fun H' s => by
            have := q _ (S3.trans s)
            unfold runKind at this
            rw [if_neg h2, if_neg h4'] at this
            split
            · rename_i z; rw [if_pos z] at this; exact this
            · rename_i z; rw [if_neg z] at this; exact this
          exact ⟨g _ (Same.refl _), g⟩
        refine ⟨_, rfl, _, rfl, fun p12 np12 => lc_filtS (p := isNm) np12 hl (fun c H2 Q' Q2 s2 h1 h2 => ⟨rfl, _, rfl, c, _, rfl, rfl, _, rfl, iteD (fun hc => ⟨_, rfl, h1 ?_⟩) (fun hc => h2 ?_)⟩) (fun H5 s5 hD5 => ?_)⟩
        · rw [elow] at hc; exact decide_eq_true hc
        · rw [elow] at hc; exact decide_eq_false hc
        have f5 := fin.2 H5 s5
        refine ⟨_, rfl, _, _, rfl, .inl (.inl (.inl hD5)), _, rfl, _, rfl, hsz, _, _, rfl, rfl, _, rfl, iteD (fun h13 => ?_) (fun h13 => ?_)⟩
        · have h13' : (l.filter isNm).length = l.length := by rw [List.length_map] at h13; omega
          refine ⟨_, rfl, _, rfl, hsz, _, _, rfl, rfl, _, rfl, iteD (fun h14 => ?_) (fun h14 => ?_)⟩
          · refine ⟨_, rfl, _, _, _, rfl, rfl, hsz, at_S (i := 0) rfl h0, c0, _, rfl, rfl, _, rfl, iteDn (fun h15 => ?_) (fun h15 => ?_)⟩
            · rw [edig] at h15
              rw [if_pos ⟨h13', by omega, fun c hc => by rw [e0] at hc; cases hc; exact h15⟩] at f5; exact f5
            · rw [edig] at h15
              rw [if_neg (fun z => z.2.2 c0 (by rw [e0]; rfl) h15)] at f5; exact f5
          · refine iteF ?_
            rw [if_neg (fun z => h14 (by have := z.2.1; omega))] at f5; exact f5
        · refine iteF ?_
          rw [if_neg (fun z => h13 (by have := z.1; rw [List.length_map]; omega))] at f5; exact f5
def sp__law_drawn_run (K : PySem.W.Frag) : Sp := fun vs H Q _ => ∃ (p q0 : Addr), vs = [.ref p] ∧ Pool H p q0 ∧ ∀ H' l, But p H H' → Pool H' p q0 → l ≠ [] → l.all isRun = true → l.length ≤ 20 → Q (.str (S l)) H'
theorem ok__law_drawn_run {f : Addr} {fd : FuncData} (F : Fun K "_law_drawn_run" "_law_drawn_run" s__law_drawn_run f fd) {f__law_draw : Addr} {fd__law_draw : FuncData} (C__law_draw : Callee P w K mg base 1 f__law_draw fd__law_draw "_law_draw" ["pool", "many"] (sp__law_draw K)) {f__law_pick : Addr} {fd__law_pick : FuncData} (C__law_pick : Callee P w K mg base 2 f__law_pick fd__law_pick "_law_pick" ["pool", "things"] (sp__law_pick K)) (b_str : mg "str" = none) (b_range : mg "range" = none) : FnOk P w K mg base CX0 (3) f fd ["pool"] (sp__law_drawn_run K) := by
  refine F.ok sc__law_drawn_run (fun vs H Q E h => ?_) (fun cdv A outer s H vs Q E hr h => ?_)
  · first | (obtain ⟨rfl, _⟩ := h; rfl) | (obtain ⟨_, rfl, _⟩ := h; rfl) | (obtain ⟨_, _, rfl, _⟩ := h; rfl) | (obtain ⟨_, _, _, rfl, _⟩ := h; rfl) | (obtain ⟨_, _, _, _, rfl, _⟩ := h; rfl) | (obtain ⟨_, _, _, _, _, rfl, _⟩ := h; rfl) | (obtain ⟨_, _, _, _, _, _, rfl, _⟩ := h; rfl) | (obtain ⟨_, _, _, _, _, _, _, rfl, _⟩ := h; rfl) | (obtain ⟨_, _, _, _, _, _, _, _, rfl, _⟩ := h; rfl) | (obtain ⟨_, _, _, _, _, _, _, _, _, rfl, _⟩ := h; rfl) | (obtain ⟨_, _, _, _, _, _, _, _, _, _, rfl, _⟩ := h; rfl) | (obtain ⟨_, _, _, _, _, _, _, _, _, _, _, rfl, _⟩ := h; rfl) | (obtain ⟨_, _, _, _, _, _, _, _, _, _, _, _, rfl, _⟩ := h; rfl) | (obtain ⟨_, _, _, _, _, _, _, _, _, _, _, _, _, rfl, _⟩ := h; rfl) | (obtain ⟨_, _, _, _, _, _, _, _, _, _, _, _, _, _, rfl, _⟩ := h; rfl) | (obtain ⟨_, _, _, _, _, _, _, _, _, _, _, _, _, _, _, rfl, _⟩ := h; rfl) | (obtain ⟨_, _, _, _, _, _, _, _, _, _, _, _, _, _, _, _, rfl, _⟩ := h; rfl) | (obtain ⟨_, _, _, _, _, _, _, _, _, _, _, _, _, _, _, _, _, rfl, _⟩ := h; rfl)
  · have hu := hu_of hr

    refine ⟨_, (pss_cons (ps_set (i := 1) sc__law_drawn_run.nd rfl (.inl rfl) (pe_call C__law_draw.ok (hr.mono (by omega)) (by rfl) C__law_draw.g C__law_draw.kp C__law_draw.b .nil pass0 (pa_cons (pv 0) (pa_cons pe_int pa_nil))))
      (pss_cons (ps_if (pt_cmp (pc_eqI (pv 1) pe_int)) (pss_cons (ps_set (i := 2) sc__law_drawn_run.nd rfl (.inl rfl) (pe_lst (pa_cons pe_str (pa_cons pe_str (pa_cons pe_str (pa_cons pe_str (pa_cons pe_str (pa_cons pe_str (pa_cons pe_str (pa_cons pe_str (pa_cons pe_str (pa_cons pe_str pa_nil))))))))))))
      (pss_one (ps_ret (pe_call C__law_pick.ok (hr.mono (by omega)) (by rfl) C__law_pick.g C__law_pick.kp C__law_pick.b .nil pass0 (pa_cons (pv 0) (pa_cons (pv 2) pa_nil)))))) pss_nil)
      (pss_cons (ps_if (pt_cmp (pc_eqI (pv 1) pe_int)) (pss_one (ps_ret (pe_callTy (call_str_int) (by rfl) b_str (by decide +kernel) (pa_cons (pe_call C__law_draw.ok (hr.mono (by omega)) (by rfl) C__law_draw.g C__law_draw.kp C__law_draw.b .nil pass0 (pa_cons (pv 0) (pa_cons pe_int pa_nil))) pa_nil)))) pss_nil)
      (pss_cons (ps_if (pt_cmp (pc_eqI (pv 1) pe_int)) (pss_cons (ps_set (i := 3) sc__law_drawn_run.nd rfl (.inl rfl) (pe_lst (pa_cons pe_str (pa_cons pe_str (pa_cons pe_str (pa_cons pe_str (pa_cons pe_str (pa_cons pe_str (pa_cons pe_str (pa_cons pe_str (pa_cons pe_str pa_nil)))))))))))
      (pss_cons (ps_set (i := 3) sc__law_drawn_run.nd rfl (.inl rfl) (pe_op op_cat (pv 3) (pe_lst (pa_cons pe_str (pa_cons pe_str (pa_cons pe_str (pa_cons pe_str (pa_cons pe_str (pa_cons pe_str (pa_cons pe_str (pa_cons pe_str pa_nil)))))))))))
      (pss_one (ps_ret (pe_call C__law_pick.ok (hr.mono (by omega)) (by rfl) C__law_pick.g C__law_pick.kp C__law_pick.b .nil pass0 (pa_cons (pv 0) (pa_cons (pe_op op_cat (pv 3) (pe_lst (pa_cons pe_str (pa_cons pe_str (pa_cons pe_str (pa_cons pe_str (pa_cons pe_str pa_nil))))))) pa_nil))))))) pss_nil)
      (pss_cons (ps_set (i := 4) sc__law_drawn_run.nd rfl (.inl rfl) pe_str)
      (pss_cons (ps_if (pt_cmp (pc_eqI (pv 1) pe_int)) (pss_one (ps_set (i := 4) sc__law_drawn_run.nd rfl (.inl rfl) (pe_op op_add_str (pv 4) pe_str))) pss_nil)
      (pss_cons (ps_set (i := 5) sc__law_drawn_run.nd rfl (.inl rfl) pe_str)
      (pss_cons (ps_for PassesOwn.never rfl (pi_range1 (by rfl) b_range (pa_cons (pe_op op_add pe_int (pe_call C__law_draw.ok (hr.mono (by omega)) (by rfl) C__law_draw.g C__law_draw.kp C__law_draw.b .nil pass0 (pa_cons (pv 0) (pa_cons pe_int pa_nil)))) pa_nil)) (pg_name (i := 6) sc__law_drawn_run.nd rfl (.inl rfl)) (pss_one (ps_set (i := 5) sc__law_drawn_run.nd rfl (.inl rfl) (pe_op op_add_str (pv 5) (pe_call C__law_pick.ok (hr.mono (by omega)) (by rfl) C__law_pick.g C__law_pick.kp C__law_pick.b .nil pass0 (pa_cons (pv 0) (pa_cons (pv 4) pa_nil)))))))
      (pss_one (ps_ret (pv 5))))))))))), ?_⟩
    obtain ⟨p, q0, rfl, P, q⟩ := h
    refine ⟨_, rfl, _, _, _, rfl, by decide, by decide, P, fun H1 r1 bt1 P1 lo1 hi1 => ?_⟩
    refine ⟨_, rfl, _, _, rfl, rfl, _, rfl, iteD (fun h2 => ?_) (fun h2 => ?_)⟩
    · refine ⟨(by show (10 : Nat) ≤ sizeLine; decide), fun p3 np3 => ?_⟩
      have ekept : [V.str "break", .str "continue", .str "else", .str "if", .str "mod", .str "return", .str "tell", .str "use", .str "while", .str "word"] = resL.map fun m => V.str (S m) := by decide +kernel
      have S3 := same_upd (o := .lst [V.str "break", .str "continue", .str "else", .str "if", .str "mod", .str "return", .str "tell", .str "use", .str "while", .str "word"]) np3
      refine ⟨_, rfl, _, rfl, _, _, _, resL, rfl, P1.same S3, by decide, by decide, .inl ⟨p3, rfl, pool_ne P1 np3, upd_same.trans (congrArg (fun x => some (HO.lst x)) ekept)⟩, fun H4 l4 bt4 P4 m4 => ?_⟩
      have f : ∀ m ∈ resL, m ≠ [] ∧ m.all isRun = true ∧ m.length ≤ 20 := by decide +kernel
      obtain ⟨f1, f2, f3⟩ := f l4 m4
      exact q _ _ ((bt1.same S3).trans bt4) P4 f1 f2 f3
    · refine ⟨_, rfl, _, _, rfl, rfl, _, rfl, iteD (fun h5 => ?_) (fun h5 => ?_)⟩
      · refine ⟨_, rfl, _, _, _, rfl, by decide, by decide, P1, fun H6 r6 bt6 P6 lo6 hi6 => ?_⟩
        obtain ⟨n, rfl⟩ : ∃ n : Nat, r6 = n := ⟨r6.toNat, by omega⟩
        refine ⟨_, rfl, ?_, ?_⟩
        · have : n.log2 < 1920 := by
            by_cases h0 : n = 0
            · subst h0; decide
            · have := (Nat.log2_lt (k := 32) h0).mpr (by omega)
              omega
          simpa using this
        · have e : (Str.ofString (toString ((n : Nat) : Int))) = S (TL.numL n) := SX.num_S n
          show Q (.str (Str.ofString (toString ((n : Nat) : Int)))) H6
          rw [e]
          refine q _ _ (bt1.trans bt6) P6 (TL.numL_ne n) ?_ (Nat.le_trans (TL.numL_len (k := 10) (by decide) (by omega)) (by decide))
          rw [List.all_eq_true]
          intro c hc
          have := TL.numL_digits n c hc
          have hd : isDg c = true := (dg_iff c).mpr this
          unfold isDg at hd; unfold isRun
          exact decide_eq_true (List.mem_append_right _ (of_decide_eq_true hd))
      · refine ⟨_, rfl, _, _, rfl, rfl, _, rfl, iteD (fun h7 => ?_) (fun h7 => ?_)⟩
        · refine ⟨(by show (9 : Nat) ≤ sizeLine; decide), fun p8 np8 => ?_⟩
          refine ⟨_, rfl, (by show (8 : Nat) ≤ sizeLine; decide), fun p9 np9 => ?_⟩
          refine ⟨_, _, _, _, rfl, rfl, (by repeat (first | exact upd_same | assumption | refine keep ?_ (by assumption))), (by repeat (first | exact upd_same | assumption | refine keep ?_ (by assumption))), (by show (17 : Nat) ≤ sizeLine; decide), fun p10 np10 => ?_⟩
          refine ⟨_, rfl, _, rfl, (by show (5 : Nat) ≤ sizeLine; decide), fun p11 np11 => ?_⟩
          refine ⟨_, _, _, _, rfl, rfl, (by repeat (first | exact upd_same | assumption | refine keep ?_ (by assumption))), (by repeat (first | exact upd_same | assumption | refine keep ?_ (by assumption))), (by show (22 : Nat) ≤ sizeLine; decide), fun p12 np12 => ?_⟩
          have eed : (([V.str "0", .str "00", .str "007", .str "2147483647", .str "2147483648", .str "2147483650", .str "3000000000", .str "12ab", .str "Ab"] ++ [V.str "aB", .str "If", .str "WHILE", .str "whiles", .str "mode", .str "continues", .str "abcdefgh", .str "abcdefghi"]) ++ [V.str "a1234567", .str "a12345678", .str "10000000000", .str "0x1f", .str "1e9"]) = edL.map fun m => V.str (S m) := by decide +kernel
          generalize hH : upd _ p12 _ = HH
          have SS : Same H1 HH := by rw [← hH]; exact (by repeat (first | exact Same.refl _ | assumption | exact same_upd (by assumption) | refine Same.trans ?_ (same_upd (by assumption))))
          have T12 : HH p12 = some (.lst (edL.map fun m => V.str (S m))) := by rw [← hH, ← eed]; exact upd_same
          have n12 : p12 ≠ p := by
            obtain ⟨ns, i, d, c, g1, g2, g3⟩ := P1
            intro z; subst z
            have := SS _ _ g2
            rw [T12] at this
            injection this with this
            injection this with this
            have := congrArg List.length this
            simp [edL] at this
          refine ⟨_, _, _, edL, rfl, P1.same SS, by decide, by decide, .inl ⟨p12, rfl, n12, T12⟩, fun H13 l13 bt13 P13 m13 => ?_⟩
          have f : ∀ m ∈ edL, m ≠ [] ∧ m.all isRun = true ∧ m.length ≤ 20 := by decide +kernel
          obtain ⟨f1, f2, f3⟩ := f l13 m13
          exact q _ _ ((bt1.same SS).trans bt13) P13 f1 f2 f3
        · refine ⟨_, rfl, _, _, rfl, rfl, _, rfl, iteD (fun h14 => ?_) (fun h14 => ?_)⟩
          · refine ⟨_, rfl, _, _, rfl, rfl, (by decide +kernel), ?_⟩
            generalize esg' : ("abcdefghijklmnopqrstuvwxyz0123456789" : Str) ++ ("ABCDEFGHIJKLMNOPQRSTUVWXYZ" : Str) = sg
            obtain ⟨sgl, esg, hne, hle, hsg⟩ : ∃ sgl : List Nat, sg = S sgl ∧ sgl.map (fun c => [c]) ≠ [] ∧ (sgl.map (fun c => [c])).length ≤ 20000 ∧ ∀ c ∈ sgl, isRun c = true := ⟨smallL ++ digL ++ bigL, by rw [← esg']; decide +kernel, by decide, by decide, by decide⟩
            refine ⟨_, rfl, _, _, _, rfl, by decide, by decide, P1, fun H15 r15 bt15 P15 lo15 hi15 => ?_⟩
            refine ⟨_, _, rfl, rfl, _, rfl, (by omega), (by omega), ?_⟩
            refine for_range (lo := 0) (n := (1 + r15).toNat) (fun i σ H' => (∃ run v, σ = [some (.ref p), some (.int r1), none, none, some (.str sg), some (.str (S run)), v] ∧ run.length = i ∧ run.all isRun = true) ∧ But p H H' ∧ Pool H' p q0) ⟨⟨[], none, rfl, rfl, rfl⟩, bt1.trans bt15, P15⟩ ?_ ?_
            · rintro i σ H' hi ⟨⟨run, v, rfl, hrl, hra⟩, bt', P'⟩
              refine ⟨_, rfl, _, rfl, _, rfl, _, _, _, _, rfl, P', hne, hle, .inr ⟨sgl, congrArg V.str esg, rfl⟩, fun H16 l16 bt16 P16 m16 => ?_⟩
              obtain ⟨c, hc, rfl⟩ := List.mem_map.mp m16
              refine ⟨_, _, rfl, rfl, ?_, ⟨⟨run ++ [c], some (.int (0 + i)), ?_, ?_, ?_⟩, bt'.trans bt16, P16⟩⟩
              · rw [SX.S_len, SX.S_len]; exact Nat.le_trans (by rw [List.length_singleton]; omega : _ ≤ 20) (by decide)
              · rw [← SX.S_cat]; rfl
              · rw [List.length_append, List.length_singleton, hrl]
              · rw [List.all_append, hra]; simp [hsg c hc]
            · rintro σ H' ⟨⟨run, v, rfl, hrl, hra⟩, bt', P'⟩
              refine ⟨_, rfl, ?_⟩
              exact q _ _ bt' P' (fun z => by rw [z] at hrl; simp at hrl; omega) hra (by omega)
          · generalize esg' : ("abcdefghijklmnopqrstuvwxyz0123456789" : Str) = sg
            obtain ⟨sgl, esg, hne, hle, hsg⟩ : ∃ sgl : List Nat, sg = S sgl ∧ sgl.map (fun c => [c]) ≠ [] ∧ (sgl.map (fun c => [c])).length ≤ 20000 ∧ ∀ c ∈ sgl, isRun c = true := ⟨smallL ++ digL, by rw [← esg']; decide +kernel, by decide, by decide, by decide⟩
            refine ⟨_, rfl, _, _, _, rfl, by decide, by decide, P1, fun H15 r15 bt15 P15 lo15 hi15 => ?_⟩
            refine ⟨_, _, rfl, rfl, _, rfl, (by omega), (by omega), ?_⟩
            refine for_range (lo := 0) (n := (1 + r15).toNat) (fun i σ H' => (∃ run v, σ = [some (.ref p), some (.int r1), none, none, some (.str sg), some (.str (S run)), v] ∧ run.length = i ∧ run.all isRun = true) ∧ But p H H' ∧ Pool H' p q0) ⟨⟨[], none, rfl, rfl, rfl⟩, bt1.trans bt15, P15⟩ ?_ ?_
            · rintro i σ H' hi ⟨⟨run, v, rfl, hrl, hra⟩, bt', P'⟩
              refine ⟨_, rfl, _, rfl, _, rfl, _, _, _, _, rfl, P', hne, hle, .inr ⟨sgl, congrArg V.str esg, rfl⟩, fun H16 l16 bt16 P16 m16 => ?_⟩
              obtain ⟨c, hc, rfl⟩ := List.mem_map.mp m16
              refine ⟨_, _, rfl, rfl, ?_, ⟨⟨run ++ [c], some (.int (0 + i)), ?_, ?_, ?_⟩, bt'.trans bt16, P16⟩⟩
              · rw [SX.S_len, SX.S_len]; exact Nat.le_trans (by rw [List.length_singleton]; omega : _ ≤ 20) (by decide)
              · rw [← SX.S_cat]; rfl
              · rw [List.length_append, List.length_singleton, hrl]
              · rw [List.all_append, hra]; simp [hsg c hc]
            · rintro σ H' ⟨⟨run, v, rfl, hrl, hra⟩, bt', P'⟩
              refine ⟨_, rfl, ?_⟩
              exact q _ _ bt' P' (fun z => by rw [z] at hrl; simp at hrl; omega) hra (by omega)
def sp__law_piece (K : PySem.W.Frag) : Sp := fun vs H Q _ => ∃ (p q0 : Addr), vs = [.ref p] ∧ Pool H p q0 ∧ ∀ H' r l, But p H H' → Pool H' p q0 → H r = none → H' r = some (.tup [.str (kindOf l), .str (S l)]) → IsPiece l → l.length ≤ 20 → Q (.ref r) H'
theorem ok__law_piece {f : Addr} {fd : FuncData} (F : Fun K "_law_piece" "_law_piece" s__law_piece f fd) {f__law_run_kind : Addr} {fd__law_run_kind : FuncData} (C__law_run_kind : Callee P w K mg base 1 f__law_run_kind fd__law_run_kind "_law_run_kind" ["run"] (sp__law_run_kind K)) {f__law_draw : Addr} {fd__law_draw : FuncData} (C__law_draw : Callee P w K mg base 1 f__law_draw fd__law_draw "_law_draw" ["pool", "many"] (sp__law_draw K)) {f__law_pick : Addr} {fd__law_pick : FuncData} (C__law_pick : Callee P w K mg base 2 f__law_pick fd__law_pick "_law_pick" ["pool", "things"] (sp__law_pick K)) {f__law_drawn_run : Addr} {fd__law_drawn_run : FuncData} (C__law_drawn_run : Callee P w K mg base 3 f__law_drawn_run fd__law_drawn_run "_law_drawn_run" ["pool"] (sp__law_drawn_run K)) : FnOk P w K mg base CX0 (4) f fd ["pool"] (sp__law_piece K) := by
  refine F.ok sc__law_piece (fun vs H Q E h => ?_) (fun cdv A outer s H vs Q E hr h => ?_)
  · first | (obtain ⟨rfl, _⟩ := h; rfl) | (obtain ⟨_, rfl, _⟩ := h; rfl) | (obtain ⟨_, _, rfl, _⟩ := h; rfl) | (obtain ⟨_, _, _, rfl, _⟩ := h; rfl) | (obtain ⟨_, _, _, _, rfl, _⟩ := h; rfl) | (obtain ⟨_, _, _, _, _, rfl, _⟩ := h; rfl) | (obtain ⟨_, _, _, _, _, _, rfl, _⟩ := h; rfl) | (obtain ⟨_, _, _, _, _, _, _, rfl, _⟩ := h; rfl) | (obtain ⟨_, _, _, _, _, _, _, _, rfl, _⟩ := h; rfl) | (obtain ⟨_, _, _, _, _, _, _, _, _, rfl, _⟩ := h; rfl) | (obtain ⟨_, _, _, _, _, _, _, _, _, _, rfl, _⟩ := h; rfl) | (obtain ⟨_, _, _, _, _, _, _, _, _, _, _, rfl, _⟩ := h; rfl) | (obtain ⟨_, _, _, _, _, _, _, _, _, _, _, _, rfl, _⟩ := h; rfl) | (obtain ⟨_, _, _, _, _, _, _, _, _, _, _, _, _, rfl, _⟩ := h; rfl) | (obtain ⟨_, _, _, _, _, _, _, _, _, _, _, _, _, _, rfl, _⟩ := h; rfl) | (obtain ⟨_, _, _, _, _, _, _, _, _, _, _, _, _, _, _, rfl, _⟩ := h; rfl) | (obtain ⟨_, _, _, _, _, _, _, _, _, _, _, _, _, _, _, _, rfl, _⟩ := h; rfl) | (obtain ⟨_, _, _, _, _, _, _, _, _, _, _, _, _, _, _, _, _, rfl, _⟩ := h; rfl)
  · have hu := hu_of hr

    refine ⟨_, (pss_cons (ps_set (i := 1) sc__law_piece.nd rfl (.inl rfl) (pe_call C__law_draw.ok (hr.mono (by omega)) (by rfl) C__law_draw.g C__law_draw.kp C__law_draw.b .nil pass0 (pa_cons (pv 0) (pa_cons pe_int pa_nil))))
      (pss_cons (ps_if (pt_cmp (pc_lt (pv 1) pe_int)) (pss_one (ps_ret (pe_tup (pa_cons pe_str (pa_cons (pe_call C__law_pick.ok (hr.mono (by omega)) (by rfl) C__law_pick.g C__law_pick.kp C__law_pick.b .nil pass0 (pa_cons (pv 0) (pa_cons (pe_lst (pa_cons pe_str (pa_cons pe_str (pa_cons pe_str (pa_cons pe_str (pa_cons pe_str (pa_cons pe_str (pa_cons pe_str (pa_cons pe_str pa_nil))))))))) pa_nil))) pa_nil))))) pss_nil)
      (pss_cons (ps_if (pt_cmp (pc_lt (pv 1) pe_int)) (pss_one (ps_ret (pe_tup (pa_cons pe_str (pa_cons (pe_call C__law_pick.ok (hr.mono (by omega)) (by rfl) C__law_pick.g C__law_pick.kp C__law_pick.b .nil pass0 (pa_cons (pv 0) (pa_cons pe_str pa_nil))) pa_nil))))) pss_nil)
      (pss_cons (ps_if (pt_cmp (pc_eqI (pv 1) pe_int)) (pss_one (ps_ret (pe_tup (pa_cons pe_str (pa_cons (pe_call C__law_pick.ok (hr.mono (by omega)) (by rfl) C__law_pick.g C__law_pick.kp C__law_pick.b .nil pass0 (pa_cons (pv 0) (pa_cons pe_str pa_nil))) pa_nil))))) pss_nil)
      (pss_cons (ps_set (i := 2) sc__law_piece.nd rfl (.inl rfl) (pe_call C__law_drawn_run.ok (hr.mono (by omega)) (by rfl) C__law_drawn_run.g C__law_drawn_run.kp C__law_drawn_run.b .nil pass0 (pa_cons (pv 0) pa_nil)))
      (pss_one (ps_ret (pe_tup (pa_cons (pe_call C__law_run_kind.ok (hr.mono (by omega)) (by rfl) C__law_run_kind.g C__law_run_kind.kp C__law_run_kind.b .nil pass0 (pa_cons (pv 2) pa_nil)) (pa_cons (pv 2) pa_nil)))))))))), ?_⟩
    obtain ⟨p, q0, rfl, P, q⟩ := h
    have edbl : [V.str "<<", .str ">>", .str "<=", .str ">=", .str "==", .str "!=", .str "&&", .str "||"] = dblL.map fun m => V.str (S m) := by decide +kernel
    refine ⟨_, rfl, _, _, _, rfl, by decide, by decide, P, fun H1 r1 bt1 P1 lo1 hi1 => ?_⟩
    refine ⟨_, rfl, _, _, rfl, rfl, _, rfl, iteD (fun h2 => ?_) (fun h2 => ?_)⟩
    · refine ⟨_, rfl, (by show (8 : Nat) ≤ sizeLine; decide), fun p3 np3 => ?_⟩
      have S3 := same_upd (o := .lst [V.str "<<", .str ">>", .str "<=", .str ">=", .str "==", .str "!=", .str "&&", .str "||"]) np3
      refine ⟨_, _, _, dblL, rfl, P1.same S3, by decide, by decide, .inl ⟨p3, rfl, pool_ne P1 np3, upd_same.trans (congrArg (fun x => some (HO.lst x)) edbl)⟩, fun H4 l4 bt4 P4 m4 => ?_⟩
      refine ⟨(by show (2 : Nat) ≤ sizeLine; decide), fun p5 np5 => ?_⟩
      have ek : kindOf l4 = "sign" := (by decide +kernel : ∀ m ∈ dblL, kindOf m = "sign") l4 m4
      have el : l4.length ≤ 20 := (by decide : ∀ m ∈ dblL, m.length ≤ 20) l4 m4
      have bt := (bt1.same S3).trans bt4
      have S5 := same_upd (o := .tup [.str "sign", .str (S l4)]) np5
      exact q _ p5 l4 (bt.same S5) (P4.same S5) (but_free bt P4 np5) (by rw [ek]; exact upd_same) (.dbl m4) el
    · refine ⟨_, rfl, _, _, rfl, rfl, _, rfl, iteD (fun h6 => ?_) (fun h6 => ?_)⟩
      · refine ⟨_, rfl, _, _, _, singL.map (fun c => [c]), rfl, P1, by decide, by decide, .inr ⟨singL, congrArg V.str (by decide +kernel), rfl⟩, fun H7 l7 bt7 P7 m7 => ?_⟩
        refine ⟨(by show (2 : Nat) ≤ sizeLine; decide), fun p8 np8 => ?_⟩
        have ek : kindOf l7 = "sign" := (by decide +kernel : ∀ m ∈ singL.map (fun c => [c]), kindOf m = "sign") l7 m7
        obtain ⟨c, hc, rfl⟩ := List.mem_map.mp m7
        have bt := bt1.trans bt7
        have S5 := same_upd (o := .tup [.str "sign", .str (S [c])]) np8
        exact q _ p8 [c] (bt.same S5) (P7.same S5) (but_free bt P7 np8) (by rw [ek]; exact upd_same) (.one (List.mem_append_left _ hc)) (by simp)
      · refine ⟨_, rfl, _, _, rfl, rfl, _, rfl, iteD (fun h9 => ?_) (fun h9 => ?_)⟩
        · refine ⟨_, rfl, _, _, _, badL.map (fun c => [c]), rfl, P1, by decide, by decide, .inr ⟨badL, congrArg V.str (by decide +kernel), rfl⟩, fun H7 l7 bt7 P7 m7 => ?_⟩
          refine ⟨(by show (2 : Nat) ≤ sizeLine; decide), fun p8 np8 => ?_⟩
          have ek : kindOf l7 = "bad" := (by decide +kernel : ∀ m ∈ badL.map (fun c => [c]), kindOf m = "bad") l7 m7
          obtain ⟨c, hc, rfl⟩ := List.mem_map.mp m7
          have bt := bt1.trans bt7
          have S5 := same_upd (o := .tup [.str "bad", .str (S [c])]) np8
          exact q _ p8 [c] (bt.same S5) (P7.same S5) (but_free bt P7 np8) (by rw [ek]; exact upd_same) (.one (List.mem_append_right _ hc)) (by simp)
        · refine ⟨_, rfl, _, _, rfl, P1, fun H12 l12 bt12 P12 ne12 al12 le12 => ?_⟩
          refine ⟨_, rfl, _, rfl, ne12, by omega, fun H13 S13 => ?_⟩
          refine ⟨_, rfl, (by show (2 : Nat) ≤ sizeLine; decide), fun p14 np14 => ?_⟩
          have bt := (bt1.trans bt12).same S13
          have P13 := P12.same S13
          have S5 := same_upd (o := .tup [.str (runKind l12), .str (S l12)]) np14
          exact q _ p14 l12 (bt.same S5) (P13.same S5) (but_free bt P13 np14) (by rw [← runKind_eq ne12 al12]; exact upd_same) (.run ne12 al12) le12
def sp__law_gap (K : PySem.W.Frag) : Sp := fun vs H Q _ => ∃ (p q0 : Addr), vs = [.ref p] ∧ Pool H p q0 ∧ ∀ H' g, But p H H' → Pool H' p q0 → isBlank g → g.length ≤ 50 → Q (.str (S g)) H'
theorem ok__law_gap {f : Addr} {fd : FuncData} (F : Fun K "_law_gap" "_law_gap" s__law_gap f fd) {f__law_draw : Addr} {fd__law_draw : FuncData} (C__law_draw : Callee P w K mg base 1 f__law_draw fd__law_draw "_law_draw" ["pool", "many"] (sp__law_draw K)) : FnOk P w K mg base CX0 (2) f fd ["pool"] (sp__law_gap K) := by
  refine F.ok sc__law_gap (fun vs H Q E h => ?_) (fun cdv A outer s H vs Q E hr h => ?_)
  · first | (obtain ⟨rfl, _⟩ := h; rfl) | (obtain ⟨_, rfl, _⟩ := h; rfl) | (obtain ⟨_, _, rfl, _⟩ := h; rfl) | (obtain ⟨_, _, _, rfl, _⟩ := h; rfl) | (obtain ⟨_, _, _, _, rfl, _⟩ := h; rfl) | (obtain ⟨_, _, _, _, _, rfl, _⟩ := h; rfl) | (obtain ⟨_, _, _, _, _, _, rfl, _⟩ := h; rfl) | (obtain ⟨_, _, _, _, _, _, _, rfl, _⟩ := h; rfl) | (obtain ⟨_, _, _, _, _, _, _, _, rfl, _⟩ := h; rfl) | (obtain ⟨_, _, _, _, _, _, _, _, _, rfl, _⟩ := h; rfl) | (obtain ⟨_, _, _, _, _, _, _, _, _, _, rfl, _⟩ := h; rfl) | (obtain ⟨_, _, _, _, _, _, _, _, _, _, _, rfl, _⟩ := h; rfl) | (obtain ⟨_, _, _, _, _, _, _, _, _, _, _, _, rfl, _⟩ := h; rfl) | (obtain ⟨_, _, _, _, _, _, _, _, _, _, _, _, _, rfl, _⟩ := h; rfl) | (obtain ⟨_, _, _, _, _, _, _, _, _, _, _, _, _, _, rfl, _⟩ := h; rfl) | (obtain ⟨_, _, _, _, _, _, _, _, _, _, _, _, _, _, _, rfl, _⟩ := h; rfl) | (obtain ⟨_, _, _, _, _, _, _, _, _, _, _, _, _, _, _, _, rfl, _⟩ := h; rfl) | (obtain ⟨_, _, _, _, _, _, _, _, _, _, _, _, _, _, _, _, _, rfl, _⟩ := h; rfl)
  · have hu := hu_of hr

    refine ⟨_, (pss_cons (ps_set (i := 1) sc__law_gap.nd rfl (.inl rfl) (pe_call C__law_draw.ok (hr.mono (by omega)) (by rfl) C__law_draw.g C__law_draw.kp C__law_draw.b .nil pass0 (pa_cons (pv 0) (pa_cons pe_int pa_nil))))
      (pss_cons (ps_if (pt_cmp (pc_lt (pv 1) pe_int)) (pss_cons (ps_set (i := 2) sc__law_gap.nd rfl (.inl rfl) (pe_lst (pa_cons pe_str (pa_cons pe_str (pa_cons pe_str (pa_cons pe_str (pa_cons pe_str (pa_cons pe_str (pa_cons pe_str (pa_cons pe_str (pa_cons pe_str (pa_cons pe_str (pa_cons pe_str pa_nil)))))))))))))
      (pss_one (ps_ret (pe_ix ix_list (pv 2) (pv 1) (fun _ _ => rfl))))) pss_nil)
      (pss_cons (ps_set (i := 3) sc__law_gap.nd rfl (.inl rfl) (pe_op op_add_str (pe_op op_mulS pe_str (pe_call C__law_draw.ok (hr.mono (by omega)) (by rfl) C__law_draw.g C__law_draw.kp C__law_draw.b .nil pass0 (pa_cons (pv 0) (pa_cons pe_int pa_nil)))) (pe_op op_mulS pe_str (pe_call C__law_draw.ok (hr.mono (by omega)) (by rfl) C__law_draw.g C__law_draw.kp C__law_draw.b .nil pass0 (pa_cons (pv 0) (pa_cons pe_int pa_nil))))))
      (pss_one (ps_ret (pe_op op_add_str (pv 3) (pe_op op_mulS pe_str (pe_call C__law_draw.ok (hr.mono (by omega)) (by rfl) C__law_draw.g C__law_draw.kp C__law_draw.b .nil pass0 (pa_cons (pv 0) (pa_cons pe_int pa_nil)))))))))), ?_⟩
    obtain ⟨p, q0, rfl, P, q⟩ := h
    have rep : ∀ (n : Nat) (c : Nat), (c = 10 ∨ c = 32) → isBlank (List.replicate n c) := fun n c hc d hd => by
      rw [List.eq_of_mem_replicate hd]; exact hc
    have app : ∀ a b, isBlank a → isBlank b → isBlank (a ++ b) := fun a b ha hb c hc => (List.mem_append.mp hc).elim (ha c) (hb c)
    have e32 : (" " : Str) = S [32] := by decide +kernel
    have e10 : ("\n" : Str) = S [10] := by decide +kernel
    refine ⟨_, rfl, _, _, _, rfl, by decide, by decide, P, fun H1 r1 bt1 P1 lo1 hi1 => ?_⟩
    refine ⟨_, rfl, _, _, rfl, rfl, _, rfl, iteD (fun h2 => ?_) (fun h2 => ?_)⟩
    · refine ⟨(by show (11 : Nat) ≤ sizeLine; decide), fun p3 np3 => ?_⟩
      have S3 := same_upd (o := .lst [V.str "", .str " ", .str "\n", .str "", .str "  ", .str "\n\n", .str " \n", .str "\n ", .str "", .str " \n  \n ", .str "   "]) np3
      have eg : [V.str "", .str " ", .str "\n", .str "", .str "  ", .str "\n\n", .str " \n", .str "\n ", .str "", .str " \n  \n ", .str "   "] = ([[], [32], [10], [], [32, 32], [10, 10], [32, 10], [10, 32], [], [32, 10, 32, 32, 10, 32], [32, 32, 32]] : List (List Nat)).map fun m => V.str (S m) := by decide +kernel
      have f : ∀ m ∈ ([[], [32], [10], [], [32, 32], [10, 10], [32, 10], [10, 32], [], [32, 10, 32, 32, 10, 32], [32, 32, 32]] : List (List Nat)), isBlank m ∧ m.length ≤ 50 := by unfold isBlank; decide
      have hlt : r1.toNat < ([[], [32], [10], [], [32, 32], [10, 10], [32, 10], [10, 32], [], [32, 10, 32, 32, 10, 32], [32, 32, 32]] : List (List Nat)).length := by
        show r1.toNat < 11; omega
      have g := List.getElem?_eq_getElem hlt
      generalize hm : ([[], [32], [10], [], [32, 32], [10, 10], [32, 10], [10, 32], [], [32, 10, 32, 32, 10, 32], [32, 32, 32]] : List (List Nat))[r1.toNat] = m at g
      obtain ⟨f1, f2⟩ := f m (hm ▸ List.getElem_mem hlt)
      refine ⟨_, rfl, _, rfl, _, _, _, _, rfl, rfl, .inl (.inl upd_same), (by rw [eg]; exact at_of (j := r1.toNat) (by omega) (by rw [List.getElem?_map, g]; rfl)), ?_⟩
      exact q _ m (bt1.same S3) (P1.same S3) f1 f2
    · refine ⟨_, rfl, _, _, _, rfl, by decide, by decide, P1, fun H4 r4 bt4 P4 lo4 hi4 => ?_⟩
      refine ⟨32, r4, congrArg V.str e32, rfl, lo4, by omega, _, rfl, _, _, _, rfl, by decide, by decide, P4, fun H5 r5 bt5 P5 lo5 hi5 => ?_⟩
      refine ⟨10, r5, congrArg V.str e10, rfl, lo5, by omega, _, _, rfl, rfl, ?_, _, rfl, _, rfl, _, _, _, rfl, by decide, by decide, P5, fun H6 r6 bt6 P6 lo6 hi6 => ?_⟩
      · rw [SX.S_len, SX.S_len, List.length_replicate, List.length_replicate]; exact Nat.le_trans (by omega : _ ≤ 50) (by decide)
      refine ⟨32, r6, congrArg V.str e32, rfl, lo6, by omega, _, _, rfl, rfl, ?_, ?_⟩
      · rw [SX.S_cat, SX.S_len, SX.S_len, List.length_append, List.length_replicate, List.length_replicate, List.length_replicate]; exact Nat.le_trans (by omega : _ ≤ 50) (by decide)
      rw [SX.S_cat, SX.S_cat]
      refine q _ _ (((bt1.trans bt4).trans bt5).trans bt6) P6 (app _ _ (app _ _ (rep _ _ (.inr rfl)) (rep _ _ (.inl rfl))) (rep _ _ (.inr rfl))) ?_
      rw [List.length_append, List.length_append, List.length_replicate, List.length_replicate, List.length_replicate]; omega
def sp__law_need (K : PySem.W.Frag) : Sp := fun vs H Q _ => ∃ (a b : List Nat), vs = [.str (S a), .str (S b)] ∧ a ≠ [] ∧ b ≠ [] ∧ (a.length ≤ 20000 ∧ b.length ≤ 20000) ∧ ∀ H', Same H H' → Q (.bl (need a b)) H'
theorem ok__law_need {f : Addr} {fd : FuncData} (F : Fun K "_law_need" "_law_need" s__law_need f fd) : FnOk P w K mg base CX0 (1) f fd ["before", "after"] (sp__law_need K) := by
  refine F.ok sc__law_need (fun vs H Q E h => ?_) (fun cdv A outer s H vs Q E hr h => ?_)
  · first | (obtain ⟨rfl, _⟩ := h; rfl) | (obtain ⟨_, rfl, _⟩ := h; rfl) | (obtain ⟨_, _, rfl, _⟩ := h; rfl) | (obtain ⟨_, _, _, rfl, _⟩ := h; rfl) | (obtain ⟨_, _, _, _, rfl, _⟩ := h; rfl) | (obtain ⟨_, _, _, _, _, rfl, _⟩ := h; rfl) | (obtain ⟨_, _, _, _, _, _, rfl, _⟩ := h; rfl) | (obtain ⟨_, _, _, _, _, _, _, rfl, _⟩ := h; rfl) | (obtain ⟨_, _, _, _, _, _, _, _, rfl, _⟩ := h; rfl) | (obtain ⟨_, _, _, _, _, _, _, _, _, rfl, _⟩ := h; rfl) | (obtain ⟨_, _, _, _, _, _, _, _, _, _, rfl, _⟩ := h; rfl) | (obtain ⟨_, _, _, _, _, _, _, _, _, _, _, rfl, _⟩ := h; rfl) | (obtain ⟨_, _, _, _, _, _, _, _, _, _, _, _, rfl, _⟩ := h; rfl) | (obtain ⟨_, _, _, _, _, _, _, _, _, _, _, _, _, rfl, _⟩ := h; rfl) | (obtain ⟨_, _, _, _, _, _, _, _, _, _, _, _, _, _, rfl, _⟩ := h; rfl) | (obtain ⟨_, _, _, _, _, _, _, _, _, _, _, _, _, _, _, rfl, _⟩ := h; rfl) | (obtain ⟨_, _, _, _, _, _, _, _, _, _, _, _, _, _, _, _, rfl, _⟩ := h; rfl) | (obtain ⟨_, _, _, _, _, _, _, _, _, _, _, _, _, _, _, _, _, rfl, _⟩ := h; rfl)
  · have hu := hu_of hr

    refine ⟨_, (pss_cons (ps_set (i := 2) sc__law_need.nd rfl (.inl rfl) pe_str)
      (pss_cons (ps_if (PW.pt (pw_and (pt_cmpR op_in_sign (pe_ix ix_str (pv 0) (pe_un un_neg pe_int) (fun _ _ => rfl)) (pv 2) rfl) (pw_and1 (pt_cmpR op_in_sign (pe_ix ix_str (pv 1) pe_int (fun _ _ => rfl)) (pv 2) rfl)))) (pss_one (ps_ret pe_bl)) pss_nil)
      (pss_one (ps_ret (pe_cmpR op_inS (pe_op op_add_str (pv 0) (pe_ix ix_str (pv 1) pe_int (fun _ _ => rfl))) (pe_lst (pa_cons pe_str (pa_cons pe_str (pa_cons pe_str (pa_cons pe_str (pa_cons pe_str (pa_cons pe_str (pa_cons pe_str (pa_cons pe_str pa_nil))))))))) rfl))))), ?_⟩
    obtain ⟨a, b, rfl, na, nb, ⟨la, lb⟩, q⟩ := h
    have hsza : (S a).length ≤ sizeLine := by rw [SX.S_len]; exact Nat.le_trans la (by decide)
    have hszb : (S b).length ≤ sizeLine := by rw [SX.S_len]; exact Nat.le_trans lb (by decide)
    have erun : ("abcdefghijklmnopqrstuvwxyzABCDEFGHIJKLMNOPQRSTUVWXYZ0123456789" : Str) = S (smallL ++ bigL ++ digL) := by decide +kernel
    have edbl : [V.str "<<", .str ">>", .str "<=", .str ">=", .str "==", .str "!=", .str "&&", .str "||"] = dblL.map fun m => V.str (S m) := by decide +kernel
    obtain ⟨b0, br, rfl⟩ : ∃ c r, b = c :: r := by
      cases b with
      | nil => exact absurd rfl nb
      | cons c r => exact ⟨c, r, rfl⟩
    have hb0 : (b0 :: br)[0]? = some b0 := rfl
    have hal := List.getLast?_eq_some_getLast na
    generalize a.getLast na = z at hal
    have ha0 : atI (S a).cps.toList (-1) = some z := by
      obtain ⟨a', rfl⟩ := List.getLast?_eq_some_iff.mp hal
      show atI (a' ++ [z]) (-1) = some z
      exact atI_last _ _
    have key : need a (b0 :: br) = ((isRun z && isRun b0) || decide (a ++ [b0] ∈ dblL)) := by
      unfold need
      rw [hal]; rfl
    refine ⟨_, rfl, _, rfl, _, _, _, rfl, rfl, hsza, ha0, _, rfl, z, _, rfl, rfl, _, rfl, iteD (fun h1 => ?_) (fun h1 => ?_)⟩
    · rw [erun] at h1
      have h1' : isRun z = true := decide_eq_true h1
      refine ⟨_, rfl, _, _, _, rfl, rfl, hszb, at_S (i := 0) rfl hb0, _, rfl, b0, _, rfl, rfl, _, rfl, iteD (fun h2 => ?_) (fun h2 => ?_)⟩
      · rw [erun] at h2
        have h2' : isRun b0 = true := decide_eq_true h2
        have := q _ (Same.refl _)
        rw [key, h1', h2'] at this; exact this
      · rw [erun] at h2
        have h2' : isRun b0 = false := decide_eq_false h2
        refine ⟨_, rfl, _, rfl, _, _, _, rfl, rfl, hszb, at_S (i := 0) rfl hb0, _, _, rfl, rfl, ?_, (by show (8 : Nat) ≤ sizeLine; decide), fun p3 np3 => ?_⟩
        · rw [SX.S_len]; exact Nat.le_trans (by show _ + 1 ≤ 20001; omega) (by decide)
        refine ⟨a ++ [b0], _, dblL, congrArg V.str (SX.S_cat a [b0]), rfl, .inl (.inl (.inl (upd_same.trans (congrArg (fun x => some (HO.lst x)) edbl)))), ?_⟩
        have := q _ (same_upd (o := .lst [V.str "<<", .str ">>", .str "<=", .str ">=", .str "==", .str "!=", .str "&&", .str "||"]) np3)
        rw [key] at this
        rw [h1', h2'] at this; exact this
    · refine iteF ?_
      rw [erun] at h1
      have h1' : isRun z = false := decide_eq_false h1
      refine ⟨_, rfl, _, rfl, _, _, _, rfl, rfl, hszb, at_S (i := 0) rfl hb0, _, _, rfl, rfl, ?_, (by show (8 : Nat) ≤ sizeLine; decide), fun p3 np3 => ?_⟩
      · rw [SX.S_len]; exact Nat.le_trans (by show _ + 1 ≤ 20001; omega) (by decide)
      refine ⟨a ++ [b0], _, dblL, congrArg V.str (SX.S_cat a [b0]), rfl, .inl (.inl (.inl (upd_same.trans (congrArg (fun x => some (HO.lst x)) edbl)))), ?_⟩
      have := q _ (same_upd (o := .lst [V.str "<<", .str ">>", .str "<=", .str ">=", .str "==", .str "!=", .str "&&", .str "||"]) np3)
      rw [key] at this
      rw [h1'] at this; exact this
def sp__law_moved (K : PySem.W.Frag) : Sp := fun vs H Q _ => ∃ (t : Addr) (l : List Nat) (r c : Int), vs = [.ref t, .str (S l)] ∧ H t = some (.tup [.int r, .int c]) ∧ l.length ≤ 20000 ∧ ∀ H' p, Same H H' → H p = none → H' p = some (.tup [.int (moved l r c).1, .int (moved l r c).2]) → Q (.ref p) H'
theorem ok__law_moved {f : Addr} {fd : FuncData} (F : Fun K "_law_moved" "_law_moved" s__law_moved f fd) : FnOk P w K mg base CX0 (1) f fd ["at", "spelled"] (sp__law_moved K) := by
  refine F.ok sc__law_moved (fun vs H Q E h => ?_) (fun cdv A outer s H vs Q E hr h => ?_)
  · first | (obtain ⟨rfl, _⟩ := h; rfl) | (obtain ⟨_, rfl, _⟩ := h; rfl) | (obtain ⟨_, _, rfl, _⟩ := h; rfl) | (obtain ⟨_, _, _, rfl, _⟩ := h; rfl) | (obtain ⟨_, _, _, _, rfl, _⟩ := h; rfl) | (obtain ⟨_, _, _, _, _, rfl, _⟩ := h; rfl) | (obtain ⟨_, _, _, _, _, _, rfl, _⟩ := h; rfl) | (obtain ⟨_, _, _, _, _, _, _, rfl, _⟩ := h; rfl) | (obtain ⟨_, _, _, _, _, _, _, _, rfl, _⟩ := h; rfl) | (obtain ⟨_, _, _, _, _, _, _, _, _, rfl, _⟩ := h; rfl) | (obtain ⟨_, _, _, _, _, _, _, _, _, _, rfl, _⟩ := h; rfl) | (obtain ⟨_, _, _, _, _, _, _, _, _, _, _, rfl, _⟩ := h; rfl) | (obtain ⟨_, _, _, _, _, _, _, _, _, _, _, _, rfl, _⟩ := h; rfl) | (obtain ⟨_, _, _, _, _, _, _, _, _, _, _, _, _, rfl, _⟩ := h; rfl) | (obtain ⟨_, _, _, _, _, _, _, _, _, _, _, _, _, _, rfl, _⟩ := h; rfl) | (obtain ⟨_, _, _, _, _, _, _, _, _, _, _, _, _, _, _, rfl, _⟩ := h; rfl) | (obtain ⟨_, _, _, _, _, _, _, _, _, _, _, _, _, _, _, _, rfl, _⟩ := h; rfl) | (obtain ⟨_, _, _, _, _, _, _, _, _, _, _, _, _, _, _, _, _, rfl, _⟩ := h; rfl)
  · have hu := hu_of hr

    refine ⟨_, (pss_cons (ps_set (i := 2) sc__law_moved.nd rfl (.inl rfl) (pe_ix ix_tup (pv 0) pe_int (fun _ _ => rfl)))
      (pss_cons (ps_set (i := 3) sc__law_moved.nd rfl (.inl rfl) (pe_ix ix_tup (pv 0) pe_int (fun _ _ => rfl)))
      (pss_cons (ps_for PassesOwn.never rfl (pi_str (pv 1)) (pg_name (i := 4) sc__law_moved.nd rfl (.inl rfl)) (pss_cons (ps_set (i := 3) sc__law_moved.nd rfl (.inl rfl) (pe_op op_add (pv 3) pe_int))
      (pss_one (ps_if (pt_cmpR op_eq (pv 4) pe_str (nomark _)) (pss_cons (ps_set (i := 2) sc__law_moved.nd rfl (.inl rfl) (pe_op op_add (pv 2) pe_int))
      (pss_one (ps_set (i := 3) sc__law_moved.nd rfl (.inl rfl) pe_int))) pss_nil))))
      (pss_one (ps_ret (pe_tup (pa_cons (pv 2) (pa_cons (pv 3) pa_nil)))))))), ?_⟩
    obtain ⟨t, l, r, c, rfl, ht, hl, q⟩ := h
    have e10 : ("\n" : Str) = S [10] := by decide +kernel
    refine ⟨_, rfl, _, _, _, _, rfl, rfl, .inl (.inl ht), rfl, _, rfl, _, _, _, _, rfl, rfl, .inl (.inl ht), rfl, _, rfl, S l, rfl, ?_⟩
    refine for_str (fun i σ H' => (∃ v, σ = [some (.ref t), some (.str (S l)), some (.int (moved (l.take i) r c).1), some (.int (moved (l.take i) r c).2), v]) ∧ H' = H) ⟨⟨_, rfl⟩, rfl⟩ ?_ ?_
    · rintro i d σ H' hd ⟨⟨v, rfl⟩, rfl⟩
      have hd' := cps_at hd
      have em : moved (l.take (i + 1)) r c = if d = 10 then ((moved (l.take i) r c).1 + 1, 1) else ((moved (l.take i) r c).1, (moved (l.take i) r c).2 + 1) := by
        rw [take_snoc hd', moved_app]; rfl
      refine ⟨_, rfl, _, _, rfl, rfl, _, rfl, rfl, _, rfl, iteD (fun h1 => ?_) (fun h1 => ?_)⟩
      · have d10 : d = 10 := by simpa using SX.S_inj ((V.str.inj h1 : S [d] = _).trans e10)
        rw [if_pos d10] at em
        refine ⟨_, rfl, _, _, rfl, rfl, ⟨some (.str ⟨#[d]⟩), ?_⟩, rfl⟩
        rw [em]; rfl
      · have n10 : ¬ d = 10 := fun e => h1 (by subst e; exact congrArg V.str e10.symm)
        rw [if_neg n10] at em
        refine ⟨⟨some (.str ⟨#[d]⟩), ?_⟩, rfl⟩
        rw [em]; rfl
    · rintro σ H' ⟨⟨v, rfl⟩, rfl⟩
      have el : l.take (S l).cps.size = l := List.take_of_length_le (by show l.length ≤ l.toArray.size; simp)
      rw [el]
      refine ⟨_, rfl, _, rfl, (by show (2 : Nat) ≤ sizeLine; decide), fun p2 np2 => ?_⟩
      exact q _ p2 (same_upd np2) np2 upd_same
/-- a list of pieces -/
def Pieces (H : Hp) : List Addr → List (List Nat) → Prop
  | [], [] => True
  | r :: rs, l :: ls => H r = some (.tup [.str (kindOf l), .str (S l)]) ∧ Pieces H rs ls
  | _, _ => False
def LaidTo : List (List Nat × List Nat) → Option (List Nat) → Prop
  | [], _ => True
  | (p, g) :: r, nx => IsPiece p ∧ isBlank g ∧ (g = [] → ∀ q, ((r.head?.map Prod.fst).or nx) = some q → need p q = false) ∧ LaidTo r nx
theorem LaidTo.snoc {p g : List Nat} {nx : Option (List Nat)} (hp : IsPiece p) (hg : isBlank g) (hn : g = [] → ∀ q, nx = some q → need p q = false) : ∀ {r : List (List Nat × List Nat)}, LaidTo r (some p) → LaidTo (r ++ [(p, g)]) nx
  | [], _ => ⟨hp, hg, fun e q hq => hn e q (by simpa using hq), trivial⟩
  | [(p', g')], h => ⟨h.1, h.2.1, fun e q hq => h.2.2.1 e q (by simpa using hq), hp, hg, fun e q hq => hn e q (by simpa using hq), trivial⟩
  | (p', g') :: (p2, g2) :: r, h => ⟨h.1, h.2.1, fun e q hq => h.2.2.1 e q (by simpa using hq), LaidTo.snoc (r := (p2, g2) :: r) hp hg hn h.2.2.2⟩
theorem LaidTo.laid : ∀ {r : List (List Nat × List Nat)}, LaidTo r none → Laid r
  | [], _ => trivial
  | [(p, g)], h => ⟨h.1, h.2.1, fun _ => trivial, trivial⟩
  | (p, g) :: (p2, g2) :: r, h => ⟨h.1, h.2.1, fun e => h.2.2.1 e p2 rfl, LaidTo.laid (r := (p2, g2) :: r) h.2.2.2⟩
theorem laidText_snoc (p g : List Nat) : ∀ r : List (List Nat × List Nat), laidText (r ++ [(p, g)]) = laidText r ++ (p ++ g)
  | [] => by simp [laidText]
  | (p', g') :: r => by
    show p' ++ g' ++ laidText (r ++ [(p, g)]) = p' ++ g' ++ laidText r ++ (p ++ g)
    rw [laidText_snoc p g r]; simp
def dueOf : List (List Nat × List Nat) → Int → Int → List LTok
  | [], _, _ => []
  | (p, g) :: r, line, col => ⟨kindOf p, p, line, col⟩ :: dueOf r (moved (p ++ g) line col).1 (moved (p ++ g) line col).2
theorem dueOf_snoc (p g : List Nat) : ∀ (r : List (List Nat × List Nat)) (ln col : Int), dueOf (r ++ [(p, g)]) ln col = dueOf r ln col ++ [⟨kindOf p, p, (moved (laidText r) ln col).1, (moved (laidText r) ln col).2⟩]
  | [], ln, col => rfl
  | (p', g') :: r, ln, col => by
    show _ :: dueOf (r ++ [(p, g)]) _ _ = (_ :: dueOf r _ _) ++ _
    rw [dueOf_snoc p g r, show laidText ((p', g') :: r) = (p' ++ g') ++ laidText r from rfl, moved_app (p' ++ g')]
    rfl
theorem laidDue_eq : ∀ (r : List (List Nat × List Nat)) (ln col : Int), laidDue r ln col = dueOf r ln col ++ [⟨"end", [], (moved (laidText r) ln col).1, (moved (laidText r) ln col).2⟩]
  | [], ln, col => rfl
  | (p, g) :: r, ln, col => by
    show _ :: laidDue r _ _ = (_ :: dueOf r _ _) ++ _
    rw [laidDue_eq r, show laidText ((p, g) :: r) = (p ++ g) ++ laidText r from rfl, moved_app (p ++ g)]
    rfl
theorem Pieces.at {H : Hp} : ∀ {rs : List Addr} {ls : List (List Nat)} {i : Nat}, Pieces H rs ls → i < ls.length → ∃ r l, rs[i]? = some r ∧ ls[i]? = some l ∧ H r = some (.tup [.str (kindOf l), .str (S l)])
  | [], [], _, _, h => by simp at h
  | r :: _, l :: _, 0, h, _ => ⟨r, l, rfl, rfl, h.1⟩
  | _ :: rs, _ :: ls, i + 1, h, hi => Pieces.at (rs := rs) (ls := ls) (i := i) h.2 (by simpa using hi)
  | [], _ :: _, _, h, _ => h.elim
  | _ :: _, [], _, h, _ => h.elim
theorem Pieces.len {H : Hp} : ∀ {rs : List Addr} {ls : List (List Nat)}, Pieces H rs ls → rs.length = ls.length
  | [], [], _ => rfl
  | _ :: _, _ :: _, h => congrArg (· + 1) (Pieces.len h.2)
  | [], _ :: _, h => h.elim
  | _ :: _, [], h => h.elim
theorem Pieces.keep {H H' : Hp} (k : TupKeep H H') : ∀ {rs : List Addr} {ls : List (List Nat)}, Pieces H rs ls → Pieces H' rs ls
  | [], [], _ => trivial
  | _ :: _, _ :: _, h => ⟨k _ _ h.1, Pieces.keep k h.2⟩
  | [], _ :: _, h => h.elim
  | _ :: _, [], h => h.elim
theorem Pieces.app {H : Hp} {rs' : List Addr} {ls' : List (List Nat)} (h' : Pieces H rs' ls') : ∀ {rs : List Addr} {ls : List (List Nat)}, Pieces H rs ls → Pieces H (rs ++ rs') (ls ++ ls')
  | [], [], _ => h'
  | _ :: _, _ :: _, h => ⟨h.1, Pieces.app h' h.2⟩
  | [], _ :: _, h => h.elim
  | _ :: _, [], h => h.elim
theorem Pieces.take {H : Hp} : ∀ {rs : List Addr} {ls : List (List Nat)} (n : Nat), Pieces H rs ls → Pieces H (rs.take n) (ls.take n)
  | _, _, 0, _ => trivial
  | [], [], _ + 1, _ => trivial
  | _ :: _, _ :: _, n + 1, h => ⟨h.1, Pieces.take n h.2⟩
  | [], _ :: _, _ + 1, h => h.elim
  | _ :: _, [], _ + 1, h => h.elim
theorem Pieces.drop {H : Hp} : ∀ {rs : List Addr} {ls : List (List Nat)} (n : Nat), Pieces H rs ls → Pieces H (rs.drop n) (ls.drop n)
  | _, _, 0, h => h
  | [], [], _ + 1, _ => trivial
  | _ :: _, _ :: _, n + 1, h => Pieces.drop n h.2
  | [], _ :: _, _ + 1, h => h.elim
  | _ :: _, [], _ + 1, h => h.elim
theorem but_tup {H H' : Hp} {p q : Addr} (bt : But p H H') (P : Pool H p q) : TupKeep H H' := fun b xs e => bt b _ e (fun z => by
  subst z
  obtain ⟨ns, i, d, c, h1, h2, h3⟩ := P
  rw [h2] at e; cases e)
theorem but_fresh {H H' : Hp} {p b : Addr} {o : HO} (bt : But p H H') (n : H b = none) : But p H (upd H' b o) := fun c u e z => by
  rw [upd_ne (ne_of_none e n)]; exact bt c u e z
def sp__law_laid (K : PySem.W.Frag) : Sp := fun vs H Q _ => ∃ (p q0 d : Addr) (rs : List Addr) (ls : List (List Nat)), vs = [.ref p, .ref d] ∧ Pool H p q0 ∧ d ≠ p ∧ H d = some (.lst (rs.map V.ref)) ∧ Pieces H rs ls ∧ (∀ l ∈ ls, IsPiece l) ∧ (ls.length ≤ 30 ∧ (ls.map List.length).sum ≤ 6000) ∧ ∀ H' t u ts l, But p H H' → Pool H' p q0 → H t = none → H' t = some (.tup [.str (S l), .ref u]) → H' u = some (.lst (ts.map V.ref)) → TokAll H' ts (toks l 1 1) → l.length ≤ 20000 → (∀ c ∈ l, c < 128) → Q (.ref t) H'
theorem ok__law_laid {f : Addr} {fd : FuncData} (F : Fun K "_law_laid" "_law_laid" s__law_laid f fd) {f__law_gap : Addr} {fd__law_gap : FuncData} (C__law_gap : Callee P w K mg base 2 f__law_gap fd__law_gap "_law_gap" ["pool"] (sp__law_gap K)) {f__law_moved : Addr} {fd__law_moved : FuncData} (C__law_moved : Callee P w K mg base 1 f__law_moved fd__law_moved "_law_moved" ["at", "spelled"] (sp__law_moved K)) {f__law_need : Addr} {fd__law_need : FuncData} (C__law_need : Callee P w K mg base 1 f__law_need fd__law_need "_law_need" ["before", "after"] (sp__law_need K)) (b_range : mg "range" = none) (b_len : mg "len" = none) : FnOk P w K mg base CX0 (3) f fd ["pool", "pieces"] (sp__law_laid K) := by
  refine F.ok sc__law_laid (fun vs H Q E h => ?_) (fun cdv A outer s H vs Q E hr h => ?_)
  · first | (obtain ⟨rfl, _⟩ := h; rfl) | (obtain ⟨_, rfl, _⟩ := h; rfl) | (obtain ⟨_, _, rfl, _⟩ := h; rfl) | (obtain ⟨_, _, _, rfl, _⟩ := h; rfl) | (obtain ⟨_, _, _, _, rfl, _⟩ := h; rfl) | (obtain ⟨_, _, _, _, _, rfl, _⟩ := h; rfl) | (obtain ⟨_, _, _, _, _, _, rfl, _⟩ := h; rfl) | (obtain ⟨_, _, _, _, _, _, _, rfl, _⟩ := h; rfl) | (obtain ⟨_, _, _, _, _, _, _, _, rfl, _⟩ := h; rfl) | (obtain ⟨_, _, _, _, _, _, _, _, _, rfl, _⟩ := h; rfl) | (obtain ⟨_, _, _, _, _, _, _, _, _, _, rfl, _⟩ := h; rfl) | (obtain ⟨_, _, _, _, _, _, _, _, _, _, _, rfl, _⟩ := h; rfl) | (obtain ⟨_, _, _, _, _, _, _, _, _, _, _, _, rfl, _⟩ := h; rfl) | (obtain ⟨_, _, _, _, _, _, _, _, _, _, _, _, _, rfl, _⟩ := h; rfl) | (obtain ⟨_, _, _, _, _, _, _, _, _, _, _, _, _, _, rfl, _⟩ := h; rfl) | (obtain ⟨_, _, _, _, _, _, _, _, _, _, _, _, _, _, _, rfl, _⟩ := h; rfl) | (obtain ⟨_, _, _, _, _, _, _, _, _, _, _, _, _, _, _, _, rfl, _⟩ := h; rfl) | (obtain ⟨_, _, _, _, _, _, _, _, _, _, _, _, _, _, _, _, _, rfl, _⟩ := h; rfl)
  · have hu := hu_of hr

    refine ⟨_, (pss_cons (ps_set (i := 2) sc__law_laid.nd rfl (.inl rfl) (pe_call C__law_gap.ok (hr.mono (by omega)) (by rfl) C__law_gap.g C__law_gap.kp C__law_gap.b .nil pass0 (pa_cons (pv 0) pa_nil)))
      (pss_cons (ps_set (i := 3) sc__law_laid.nd rfl (.inl rfl) (pe_call C__law_moved.ok (hr.mono (by omega)) (by rfl) C__law_moved.g C__law_moved.kp C__law_moved.b .nil pass0 (pa_cons (pe_tup (pa_cons pe_int (pa_cons pe_int pa_nil))) (pa_cons (pv 2) pa_nil))))
      (pss_cons (ps_set (i := 4) sc__law_laid.nd rfl (.inl rfl) (pe_lst pa_nil))
      (pss_cons (ps_for PassesOwn.never rfl (pi_range1 (by rfl) b_range (pa_cons (pe_callB (call_len_seq) (by rfl) b_len (by decide +kernel) (pa_cons (pv 1) pa_nil)) pa_nil)) (pg_name (i := 5) sc__law_laid.nd rfl (.inl rfl)) (pss_cons (ps_set (i := 6) sc__law_laid.nd rfl (.inl rfl) (pe_ix ix_list (pv 1) (pv 5) (fun _ _ => rfl)))
      (pss_cons (ps_expr (pe_bm PySem.F.plainAttrs_list PySem.F.slot_list_append PySem.F.type_list_append mt_append (pv 4) (pa_cons (pe_tup (pa_cons (pe_ix ix_tup (pv 6) pe_int (fun _ _ => rfl)) (pa_cons (pe_ix ix_tup (pv 6) pe_int (fun _ _ => rfl)) (pa_cons (pe_ix ix_tup (pv 3) pe_int (fun _ _ => rfl)) (pa_cons (pe_ix ix_tup (pv 3) pe_int (fun _ _ => rfl)) pa_nil))))) pa_nil)))
      (pss_cons (ps_set (i := 7) sc__law_laid.nd rfl (.inl rfl) (pe_call C__law_gap.ok (hr.mono (by omega)) (by rfl) C__law_gap.g C__law_gap.kp C__law_gap.b .nil pass0 (pa_cons (pv 0) pa_nil)))
      (C8.pss_cut (ps_if (PW.pt (pw_and (pt_cmpR op_eq (pv 7) pe_str (nomark _)) (pw_and1 (pt_cmp (pc_lt (pe_op op_add (pv 5) pe_int) (pe_callB (call_len_seq) (by rfl) b_len (by decide +kernel) (pa_cons (pv 1) pa_nil))))))) (pss_one (ps_set (i := 7) sc__law_laid.nd rfl (.inl rfl) (pe_ifExp (pt_val (pe_call C__law_need.ok (hr.mono (by omega)) (by rfl) C__law_need.g C__law_need.kp C__law_need.b .nil pass0 (pa_cons (pe_ix ix_tup (pv 6) pe_int (fun _ _ => rfl)) (pa_cons (pe_ix ix_tup (pe_ix ix_list (pv 1) (pe_op op_add (pv 5) pe_int) (fun _ _ => rfl)) pe_int (fun _ _ => rfl)) pa_nil)))) pe_str pe_str))) pss_nil)
      (pss_cons (ps_set (i := 2) sc__law_laid.nd rfl (.inl rfl) (pe_op op_add_str (pe_op op_add_str (pv 2) (pe_ix ix_tup (pv 6) pe_int (fun _ _ => rfl))) (pv 7)))
      (pss_one (ps_set (i := 3) sc__law_laid.nd rfl (.inl rfl) (pe_call C__law_moved.ok (hr.mono (by omega)) (by rfl) C__law_moved.g C__law_moved.kp C__law_moved.b .nil pass0 (pa_cons (pv 3) (pa_cons (pe_op op_add_str (pe_ix ix_tup (pv 6) pe_int (fun _ _ => rfl)) (pv 7)) pa_nil)))))))))))
      (pss_cons (ps_expr (pe_bm PySem.F.plainAttrs_list PySem.F.slot_list_append PySem.F.type_list_append mt_append (pv 4) (pa_cons (pe_tup (pa_cons pe_str (pa_cons pe_str (pa_cons (pe_ix ix_tup (pv 3) pe_int (fun _ _ => rfl)) (pa_cons (pe_ix ix_tup (pv 3) pe_int (fun _ _ => rfl)) pa_nil))))) pa_nil)))
      (pss_one (ps_ret (pe_tup (pa_cons (pv 2) (pa_cons (pv 4) pa_nil)))))))))), ?_⟩
    obtain ⟨p, q0, d, rs, ls, rfl, P, ndp, hd, hP, hI, ⟨hn, hs⟩, q⟩ := h
    have e0 : ("" : Str) = S [] := by decide +kernel
    have e32 : (" " : Str) = S [32] := by decide +kernel
    have lrs := hP.len
    have lsum : ∀ k, ((ls.take k).map List.length).sum ≤ (ls.map List.length).sum := fun k => by
      conv => rhs; rw [← List.take_append_drop k ls]
      rw [List.map_append, List.sum_append]; omega
    refine ⟨_, rfl, _, _, rfl, P, fun H1 g1 bt1 P1 bl1 le1 => ?_⟩
    refine ⟨(by show (2 : Nat) ≤ sizeLine; decide), fun p2 np2 => ?_⟩
    refine ⟨_, rfl, _, _, _, _, rfl, upd_same, by omega, fun H3 r3 S3 n3 t3 => ?_⟩
    have S13 : Same H1 H3 := (same_upd np2).trans S3
    have bt3 := bt1.same S13
    have P3 := P1.same S13
    refine ⟨(by show (0 : Nat) ≤ sizeLine; decide), fun p4 np4 => ?_⟩
    have n4p : p4 ≠ p := pool_ne P3 np4
    have n4q : p4 ≠ q0 := pool_neq P3 np4
    have f4 : H p4 = none := but_free bt3 P3 np4
    have tk3 : TupKeep H (upd H3 p4 (.lst [])) := TupKeep.trans (but_tup bt3 P) (tk_new np4)
    refine ⟨_, rfl, _, _, rfl, .inl (.inl (.inl ((but_fresh bt3 f4) _ _ hd ndp))), ?_⟩
    refine ⟨_, rfl, (by omega), (by rw [List.length_map]; omega), ?_⟩
    refine for_range (lo := 0) (fun k σ H' => ∃ (dn : List (List Nat × List Nat)) (us : List Addr) (t : Addr) (v1 v2 v3 : Option V),
      σ = [some (.ref p), some (.ref d), some (.str (S (g1 ++ laidText dn))), some (.ref t), some (.ref p4), v1, v2, v3] ∧
      dn.map Prod.fst = ls.take k ∧ LaidTo dn ls[k]? ∧
      H' t = some (.tup [.int (moved (g1 ++ laidText dn) 1 1).1, .int (moved (g1 ++ laidText dn) 1 1).2]) ∧
      H' p4 = some (.lst (us.map V.ref)) ∧ TokAll H' us (dueOf dn (moved g1 1 1).1 (moved g1 1 1).2) ∧ us.length = k ∧
      But p H H' ∧ Pool H' p q0 ∧ TupKeep H H' ∧ (laidText dn).length ≤ ((ls.take k).map List.length).sum + 50 * k)
      ⟨[], [], r3, none, none, none, ?_, rfl, trivial, ?_, upd_same, trivial, rfl, but_fresh bt3 f4, P3.upd n4p n4q, tk3, Nat.zero_le _⟩ ?_ ?_
    · show _ = [_, _, some (V.str (S (g1 ++ []))), _, _, _, _, _]
      rw [List.append_nil]; rfl
    · show _ = some (HO.tup [.int (moved (g1 ++ []) 1 1).1, .int (moved (g1 ++ []) 1 1).2])
      rw [List.append_nil]; exact keep t3 np4
    · rintro k σ H' hk ⟨dn, us, t, v1, v2, v3, rfl, e1, hL, ht, h4, hT, hu1, bt', P', tk', hl'⟩
      rw [List.length_map] at hk
      have hk' : k < ls.length := by omega
      obtain ⟨rk, lk, hrk, hlk, hok⟩ := hP.at hk'
      have hd' := bt' _ _ hd ndp
      have hrt := tk' _ _ hok
      have hIk := hI lk (List.mem_of_getElem? hlk)
      have lkl : lk.length ≤ 6000 := by
        have h1 : lk.length ∈ ls.map List.length := List.mem_map_of_mem (List.mem_of_getElem? hlk)
        have : ∀ (xs : List Nat) (x : Nat), x ∈ xs → x ≤ xs.sum := fun xs => by
          induction xs with
          | nil => intro x h; simp at h
          | cons a r ih =>
            intro x h
            rw [List.sum_cons]
            rcases List.mem_cons.mp h with e | e
            · omega
            · have := ih x e; omega
        have := this _ _ h1
        omega
      have txl : (g1 ++ laidText dn).length ≤ 8000 := by
        rw [List.length_append]
        have := lsum k
        omega
      refine ⟨_, rfl, _, rfl, _, _, _, _, rfl, rfl, .inl (.inl hd'), at_of (j := k) (by omega) (by rw [List.getElem?_map, hrk]; rfl), _, rfl, .inl ⟨rfl, _, .inl (.inl h4)⟩, _, rfl, _, _, _, _, rfl, rfl, .inl (.inl hrt), rfl, _, rfl, _, _, _, _, rfl, rfl, .inl (.inl hrt), rfl, _, rfl, _, _, _, _, rfl, rfl, .inl (.inl ht), rfl, _, rfl, _, _, _, _, rfl, rfl, .inl (.inl ht), rfl, (by show (4 : Nat) ≤ sizeLine; decide), fun p5 np5 => ?_⟩
      have h45 := keep (o := .tup [.str (kindOf lk), .str (S lk), .int (moved (g1 ++ laidText dn) 1 1).1, .int (moved (g1 ++ laidText dn) 1 1).2]) h4 np5
      have f5 : H p5 = none := but_free bt' P' np5
      have P5 := (P'.same (same_upd (o := .tup [.str (kindOf lk), .str (S lk), .int (moved (g1 ++ laidText dn) 1 1).1, .int (moved (g1 ++ laidText dn) 1 1).2]) np5)).upd (o := .lst (us.map V.ref ++ [V.ref p5])) n4p n4q
      have tk5 : TupKeep H' (upd (upd H' p5 (.tup [.str (kindOf lk), .str (S lk), .int (moved (g1 ++ laidText dn) 1 1).1, .int (moved (g1 ++ laidText dn) 1 1).2])) p4 (.lst (us.map V.ref ++ [V.ref p5]))) := (tk_new np5).trans (tk_upd h45)
      have bt5 := but_fresh (o := .lst (us.map V.ref ++ [V.ref p5])) (but_fresh (o := .tup [.str (kindOf lk), .str (S lk), .int (moved (g1 ++ laidText dn) 1 1).1, .int (moved (g1 ++ laidText dn) 1 1).2]) bt' f5) f4
      refine ⟨_, _, _, rfl, rfl, h45, ?_, _, rfl, _, _, rfl, P5, fun H6 g6 bt6 P6 bl6 le6 => ?_⟩
      · rw [List.length_map]; exact Nat.lt_of_lt_of_le (by omega : _ < 20001) (by decide)
      have bt66 := bt5.trans bt6
      have tk6 : TupKeep H' H6 := tk5.trans (but_tup bt6 P5)
      have h46 : H6 p4 = some (.lst ((us ++ [p5]).map V.ref)) := by
        have := bt6 p4 _ upd_same n4p
        rw [this, List.map_append]; rfl
      have hT6 : TokAll H6 (us ++ [p5]) (dueOf dn (moved g1 1 1).1 (moved g1 1 1).2 ++ [⟨kindOf lk, lk, (moved (g1 ++ laidText dn) 1 1).1, (moved (g1 ++ laidText dn) 1 1).2⟩]) := by
        refine TokAll.snoc ?_ (hT.keep tk6)
        refine but_tup bt6 P5 _ _ ?_
        rw [upd_ne (fun z => by subst z; rw [h4] at np5; cases np5)]; exact upd_same
      have hrt6 := tk6 _ _ hrt
      have ht6 := tk6 _ _ ht
      have hd6 := bt66 _ _ hd ndp
      -- the blank behind the piece
      refine ⟨fun σ' H7 => ∃ b : List Nat, σ' = [some (.ref p), some (.ref d), some (.str (S (g1 ++ laidText dn))), some (.ref t), some (.ref p4), some (.int (0 + k)), some (.ref rk), some (.str (S b))] ∧ isBlank b ∧ b.length ≤ 50 ∧ (b = [] → ∀ q, ls[k + 1]? = some q → need lk q = false) ∧ Same H6 H7, ?_, ?_⟩
      · refine ⟨_, rfl, rfl, _, rfl, iteD (fun h7 => ?_) (fun h7 => ?_)⟩
        · have eg : g6 = [] := SX.S_inj ((V.str.inj h7).trans e0)
          subst eg
          refine ⟨_, rfl, _, _, rfl, rfl, _, rfl, _, _, rfl, .inl (.inl (.inl hd6)), _, _, rfl, rfl, _, rfl, iteD (fun h8 => ?_) (fun h8 => ?_)⟩
          · rw [List.length_map] at h8
            have hk2 : k + 1 < ls.length := by omega
            obtain ⟨r2, l2, hr2, hl2, ho2⟩ := hP.at hk2
            have ho2' := tk6 _ _ (tk' _ _ ho2)
            have hI2 := hI l2 (List.mem_of_getElem? hl2)
            obtain ⟨c1, w1, x1, _, _⟩ := piece_first hIk
            obtain ⟨c2, w2, x2, _, _⟩ := piece_first hI2
            have l2l : l2.length ≤ 6000 := by
              have h1 : l2.length ∈ ls.map List.length := List.mem_map_of_mem (List.mem_of_getElem? hl2)
              have : ∀ (xs : List Nat) (x : Nat), x ∈ xs → x ≤ xs.sum := fun xs => by
                induction xs with
                | nil => intro x h; simp at h
                | cons a r ih =>
                  intro x h
                  rw [List.sum_cons]
                  rcases List.mem_cons.mp h with e | e
                  · omega
                  · have := ih x e; omega
              have := this _ _ h1
              omega
            refine ⟨_, rfl, _, _, _, _, rfl, rfl, .inl (.inl hrt6), rfl, _, rfl, _, rfl, _, _, rfl, rfl, _, _, _, _, rfl, rfl, .inl (.inl hd6), at_of (j := k + 1) (by omega) (by rw [List.getElem?_map, hr2]; rfl), _, _, _, _, rfl, rfl, .inl (.inl ho2'), rfl, _, _, rfl, (by rw [x1]; simp), (by rw [x2]; simp), ⟨by omega, by omega⟩, fun H9 S9 => ?_⟩
            refine ⟨_, rfl, ite2 (fun h10 => ?_) (fun h10 => ?_)⟩
            · refine ⟨[32], ?_, fun c hc => .inr (by simpa using hc), by simp, fun z => by simp at z, S9⟩
              rw [← e32]; rfl
            · refine ⟨[], ?_, fun c hc => by simp at hc, by simp, fun _ q hq => ?_, S9⟩
              · rw [← e0]; rfl
              · rw [hl2] at hq; cases hq
                exact Bool.eq_false_iff.mpr h10
          · rw [List.length_map] at h8
            refine ⟨[], ?_, fun c hc => by simp at hc, by simp, fun _ q hq => ?_, Same.refl _⟩
            · rw [← e0]; rfl
            · have := (List.getElem?_eq_some_iff.mp hq).1
              omega
        · refine iteF ?_
          refine ⟨g6, rfl, bl6, le6, fun z => ?_, Same.refl _⟩
          exact absurd (by rw [z]; exact congrArg V.str e0.symm) h7
      · rintro σ' H7 ⟨b, rfl, hb1, hb2, hb3, S7⟩
        have bt7 := bt66.same S7
        have P7 := P6.same S7
        have tk7 : TupKeep H' H7 := tk6.trans (Same.tup S7)
        have hrt7 := tk7 _ _ hrt
        have ht7 := tk7 _ _ ht
        have ebig : ∀ n : Nat, n ≤ 20000 → n ≤ sizeLine := fun n h => Nat.le_trans h (by decide)
        have e12 : S (g1 ++ laidText dn) ++ S lk ++ S b = S (g1 ++ laidText (dn ++ [(lk, b)])) := by
          rw [SX.S_cat, SX.S_cat, laidText_snoc]; simp
        refine ⟨_, rfl, _, rfl, _, _, _, _, rfl, rfl, .inl (.inl hrt7), rfl, _, _, rfl, rfl, ?_, _, rfl, _, _, rfl, rfl, ?_, _, rfl, _, rfl, _, _, _, _, rfl, rfl, .inl (.inl hrt7), rfl, _, rfl, _, _, rfl, rfl, ?_, _, lk ++ b, _, _, ?_, ht7, ?_, fun H11 r11 S11 n11 t11 => ?_⟩
        · rw [SX.S_len, SX.S_len]; exact ebig _ (by omega)
        · rw [SX.S_cat, SX.S_len, SX.S_len, List.length_append]; exact ebig _ (by omega)
        · rw [SX.S_len, SX.S_len]; exact ebig _ (by omega)
        · rw [← SX.S_cat]; rfl
        · rw [List.length_append]; omega
        · refine ⟨dn ++ [(lk, b)], us ++ [p5], r11, some (.int (0 + k)), some (.ref rk), some (.str (S b)), ?_, ?_, ?_, ?_, S11 _ _ (S7 _ _ h46), ?_, ?_, bt7.same S11, P7.same S11, tk'.trans (tk7.trans (Same.tup S11)), ?_⟩
          · rw [← e12]; rfl
          · rw [List.map_append, e1, take_snoc hlk]; rfl
          · rw [hlk] at hL
            exact LaidTo.snoc hIk hb1 hb3 hL
          · rw [laidText_snoc, ← List.append_assoc g1, moved_app (g1 ++ laidText dn)]; exact t11
          · rw [dueOf_snoc, ← moved_app g1]
            exact hT6.keep ((Same.tup S7).trans (Same.tup S11))
          · rw [List.length_append, hu1]; rfl
          · rw [laidText_snoc, take_snoc hlk, List.map_append, List.sum_append, List.length_append, List.length_append]
            have : (List.map List.length [lk]).sum = lk.length := by simp
            rw [this]; omega
    · rintro σ H' ⟨dn, us, t, v1, v2, v3, rfl, e1, hL, ht, h4, hT, hu1, bt', P', tk', hl'⟩
      have en : (((rs.map V.ref).length : Nat) : Int).toNat = ls.length := by rw [List.length_map]; omega
      rw [en] at e1 hL hu1 hl'
      rw [List.getElem?_eq_none (Nat.le_refl _)] at hL
      rw [List.take_length] at hl'
      refine ⟨_, rfl, .inl ⟨rfl, _, .inl (.inl h4)⟩, _, rfl, _, _, _, _, rfl, rfl, .inl (.inl ht), rfl, _, rfl, _, _, _, _, rfl, rfl, .inl (.inl ht), rfl, (by show (4 : Nat) ≤ sizeLine; decide), fun p12 np12 => ?_⟩
      have h412 := keep (o := .tup [.str "end", .str "", .int (moved (g1 ++ laidText dn) 1 1).1, .int (moved (g1 ++ laidText dn) 1 1).2]) h4 np12
      refine ⟨_, _, _, rfl, rfl, h412, ?_, _, rfl, _, rfl, (by show (2 : Nat) ≤ sizeLine; decide), fun p13 np13 => ?_⟩
      · rw [List.length_map]; exact Nat.lt_of_lt_of_le (by omega : _ < 20001) (by decide)
      have f12 : H p12 = none := but_free bt' P' np12
      have btA := but_fresh (o := .lst (us.map V.ref ++ [V.ref p12])) (but_fresh (o := .tup [.str "end", .str "", .int (moved (g1 ++ laidText dn) 1 1).1, .int (moved (g1 ++ laidText dn) 1 1).2]) bt' f12) f4
      have PA := (P'.same (same_upd (o := .tup [.str "end", .str "", .int (moved (g1 ++ laidText dn) 1 1).1, .int (moved (g1 ++ laidText dn) 1 1).2]) np12)).upd (o := .lst (us.map V.ref ++ [V.ref p12])) n4p n4q
      have f13 : H p13 = none := but_free btA PA np13
      refine q _ p13 p4 (us ++ [p12]) (g1 ++ laidText dn) (but_fresh btA f13) (PA.same (same_upd np13)) f13 upd_same ?_ ?_ ?_ ?_
      · rw [List.map_append]; exact keep upd_same np13
      · have htk : toks (g1 ++ laidText dn) 1 1 = dueOf dn (moved g1 1 1).1 (moved g1 1 1).2 ++ [⟨"end", [], (moved (g1 ++ laidText dn) 1 1).1, (moved (g1 ++ laidText dn) 1 1).2⟩] := by
          rw [toks_blank _ _ _ _ bl1, laid_toks _ _ _ hL.laid, laidDue_eq, moved_app g1]
        rw [htk]
        refine (TokAll.snoc (show RepTok _ p12 ⟨"end", [], _, _⟩ from ?_) (hT.keep (tk_new np12))).keep ((tk_upd h412).trans (tk_new np13))
        show upd _ p12 _ p12 = some (.tup [.str "end", .str (S []), _, _])
        rw [upd_same, ← e0]
      · rw [List.length_append]
        have := lsum ls.length
        omega
      · have hbl : ∀ g : List Nat, isBlank g → ∀ c ∈ g, c < 128 := fun g hg c hc => by
          rcases hg c hc with e | e <;> omega
        have hlt : ∀ r : List (List Nat × List Nat), Laid r → ∀ c ∈ laidText r, c < 128 := fun r => by
          induction r with
          | nil => intro _ c hc; simp [laidText] at hc
          | cons pg r ih =>
            obtain ⟨p', g'⟩ := pg
            intro hr c hc
            rcases List.mem_append.mp (show c ∈ (p' ++ g') ++ laidText r from hc) with e | e
            · rcases List.mem_append.mp e with e | e
              · exact piece_128 hr.1 c e
              · exact hbl _ hr.2.1 c e
            · exact ih hr.2.2.2 c e
        intro c hc
        rcases List.mem_append.mp hc with e | e
        · exact hbl _ bl1 c e
        · exact hlt _ hL.laid c e
def sp__law_same (K : PySem.W.Frag) : Sp := fun vs H Q _ => ∃ (a b : Addr) (rs us : List Addr) (ts : List LTok), vs = [.ref a, .ref b] ∧ H a = some (.lst (rs.map V.ref)) ∧ H b = some (.lst (us.map V.ref)) ∧ TokAll H rs ts ∧ TokAll H us ts ∧ ts.length ≤ 20001 ∧ (∀ t ∈ ts, PyData.strOk (S t.text) = true ∧ PyData.strOk t.kind = true) ∧ Q (.bl true) H
theorem ok__law_same {f : Addr} {fd : FuncData} (F : Fun K "_law_same" "_law_same" s__law_same f fd) {f__law_integer : Addr} {fd__law_integer : FuncData} (C__law_integer : Callee P w K mg base 1 f__law_integer fd__law_integer "_law_integer" ["x"] (sp__law_integer K)) (b_isinstance : mg "isinstance" = none) (b_list : mg "list" = none) (b_len : mg "len" = none) (b_range : mg "range" = none) (b_tuple : mg "tuple" = none) (b_str : mg "str" = none) : FnOk P w K mg base CX0 (2) f fd ["said", "due"] (sp__law_same K) := by
  refine F.ok sc__law_same (fun vs H Q E h => ?_) (fun cdv A outer s H vs Q E hr h => ?_)
  · first | (obtain ⟨rfl, _⟩ := h; rfl) | (obtain ⟨_, rfl, _⟩ := h; rfl) | (obtain ⟨_, _, rfl, _⟩ := h; rfl) | (obtain ⟨_, _, _, rfl, _⟩ := h; rfl) | (obtain ⟨_, _, _, _, rfl, _⟩ := h; rfl) | (obtain ⟨_, _, _, _, _, rfl, _⟩ := h; rfl) | (obtain ⟨_, _, _, _, _, _, rfl, _⟩ := h; rfl) | (obtain ⟨_, _, _, _, _, _, _, rfl, _⟩ := h; rfl) | (obtain ⟨_, _, _, _, _, _, _, _, rfl, _⟩ := h; rfl) | (obtain ⟨_, _, _, _, _, _, _, _, _, rfl, _⟩ := h; rfl) | (obtain ⟨_, _, _, _, _, _, _, _, _, _, rfl, _⟩ := h; rfl) | (obtain ⟨_, _, _, _, _, _, _, _, _, _, _, rfl, _⟩ := h; rfl) | (obtain ⟨_, _, _, _, _, _, _, _, _, _, _, _, rfl, _⟩ := h; rfl) | (obtain ⟨_, _, _, _, _, _, _, _, _, _, _, _, _, rfl, _⟩ := h; rfl) | (obtain ⟨_, _, _, _, _, _, _, _, _, _, _, _, _, _, rfl, _⟩ := h; rfl) | (obtain ⟨_, _, _, _, _, _, _, _, _, _, _, _, _, _, _, rfl, _⟩ := h; rfl) | (obtain ⟨_, _, _, _, _, _, _, _, _, _, _, _, _, _, _, _, rfl, _⟩ := h; rfl) | (obtain ⟨_, _, _, _, _, _, _, _, _, _, _, _, _, _, _, _, _, rfl, _⟩ := h; rfl)
  · have hu := hu_of hr

    refine ⟨_, (pss_cons (ps_if (PW.pt (pw_or (pt_not (pt_val (pe_callB call_isi (by rfl) b_isinstance (by decide +kernel) (pa_cons (pv 0) (pa_cons (pe_bltn (v := .ty "list") (by rfl) b_list (by decide +kernel) rfl) pa_nil))))) (pw_or1 (pt_cmp (pc_neI (pe_callB (call_len_seq) (by rfl) b_len (by decide +kernel) (pa_cons (pv 0) pa_nil)) (pe_callB (call_len_seq) (by rfl) b_len (by decide +kernel) (pa_cons (pv 1) pa_nil))))))) (pss_one (ps_ret pe_bl)) pss_nil)
      (pss_cons (ps_for PassesOwn.never rfl (pi_range1 (by rfl) b_range (pa_cons (pe_callB (call_len_seq) (by rfl) b_len (by decide +kernel) (pa_cons (pv 1) pa_nil)) pa_nil)) (pg_name (i := 2) sc__law_same.nd rfl (.inl rfl)) (pss_cons (ps_set (i := 3) sc__law_same.nd rfl (.inl rfl) (pe_ix ix_list (pv 0) (pv 2) (fun _ _ => rfl)))
      (pss_cons (ps_if (PW.pt (pw_or (pt_not (pt_val (pe_callB call_isi (by rfl) b_isinstance (by decide +kernel) (pa_cons (pv 3) (pa_cons (pe_bltn (v := .ty "tuple") (by rfl) b_tuple (by decide +kernel) rfl) pa_nil))))) (pw_or1 (pt_cmp (pc_neI (pe_callB (call_len_seq) (by rfl) b_len (by decide +kernel) (pa_cons (pv 3) pa_nil)) pe_int))))) (pss_one (ps_ret pe_bl)) pss_nil)
      (pss_cons (ps_if (PW.pt (pw_or (pt_not (pt_val (pe_callB call_isi (by rfl) b_isinstance (by decide +kernel) (pa_cons (pe_ix ix_tup (pv 3) pe_int (fun _ _ => rfl)) (pa_cons (pe_bltn (v := .ty "str") (by rfl) b_str (by decide +kernel) rfl) pa_nil))))) (pw_or1 (pt_not (pt_val (pe_callB call_isi (by rfl) b_isinstance (by decide +kernel) (pa_cons (pe_ix ix_tup (pv 3) pe_int (fun _ _ => rfl)) (pa_cons (pe_bltn (v := .ty "str") (by rfl) b_str (by decide +kernel) rfl) pa_nil)))))))) (pss_one (ps_ret pe_bl)) pss_nil)
      (pss_cons (ps_if (PW.pt (pw_or (pt_not (pt_val (pe_call C__law_integer.ok (hr.mono (by omega)) (by rfl) C__law_integer.g C__law_integer.kp C__law_integer.b .nil pass0 (pa_cons (pe_ix ix_tup (pv 3) pe_int (fun _ _ => rfl)) pa_nil)))) (pw_or1 (pt_not (pt_val (pe_call C__law_integer.ok (hr.mono (by omega)) (by rfl) C__law_integer.g C__law_integer.kp C__law_integer.b .nil pass0 (pa_cons (pe_ix ix_tup (pv 3) pe_int (fun _ _ => rfl)) pa_nil))))))) (pss_one (ps_ret pe_bl)) pss_nil)
      (pss_one (ps_if (pt_cmpR (op_neD hr.units) (pv 3) (pe_ix ix_list (pv 1) (pv 2) (fun _ _ => rfl)) (nomark _)) (pss_one (ps_ret pe_bl)) pss_nil)))))))
      (pss_one (ps_ret pe_bl)))), ?_⟩
    obtain ⟨a, b, rs, us, ts, rfl, ha, hb, ta, tb, hl, hok, q⟩ := h
    have lr := ta.len
    have lu := tb.len
    have big : ∀ n : Nat, n ≤ 20001 → n ≤ sizeLine := fun n h => Nat.le_trans h (by decide)
    have nx : tRet (tC (V.bl true)) = tRet (tC (V.bl true)) := rfl
    refine ⟨_, rfl, _, _, _, _, true, rfl, .ty "list", .base (.lst ha), kit_ty (by decide +kernel), _, rfl, iteF ?_⟩
    refine ⟨_, rfl, _, _, rfl, .inl (.inl (.inl ha)), _, rfl, _, _, rfl, .inl (.inl (.inl hb)), _, _, rfl, rfl, _, rfl, iteDn (fun h1 => absurd (by rw [List.length_map, List.length_map]; omega) h1) (fun h1 => ?_)⟩
    refine ⟨_, rfl, _, _, rfl, .inl (.inl (.inl hb)), _, rfl, (by omega), (by rw [List.length_map]; omega), ?_⟩
    refine for_range (lo := 0) (fun k σ H' => (∃ v w, σ = [some (.ref a), some (.ref b), v, w]) ∧ H' = H) ⟨⟨none, none, rfl⟩, rfl⟩ ?_ ?_
    · rintro k σ H' hk ⟨⟨v, w, rfl⟩, rfl⟩
      rw [List.length_map] at hk
      have hk1 : k < rs.length := by omega
      have hk2 : k < us.length := by omega
      have hr : rs[k]? = some rs[k] := List.getElem?_eq_getElem hk1
      have hu : us[k]? = some us[k] := List.getElem?_eq_getElem hk2
      obtain ⟨t, ht, hrt⟩ := ta.at hr
      obtain ⟨t', ht', hut⟩ := tb.at hu
      rw [ht] at ht'
      cases ht'
      generalize rs[k] = r at hr hrt
      generalize us[k] = u at hu hut
      refine ⟨_, rfl, _, rfl, _, _, _, _, rfl, rfl, .inl (.inl ha), at_of (j := k) (by omega) (by rw [List.getElem?_map, hr]; rfl), ?_⟩
      refine ⟨_, rfl, _, _, _, _, true, rfl, .ty "tuple", .base (.tup hrt), kit_ty (by decide +kernel), _, rfl, iteF ?_⟩
      refine ⟨_, rfl, _, _, rfl, .inr (.inl (.inl hrt)), _, _, rfl, rfl, _, rfl, iteDn (fun h2 => absurd rfl h2) (fun h2 => ?_)⟩
      refine ⟨_, rfl, _, _, _, _, rfl, rfl, .inl (.inl hrt), rfl, _, _, _, _, true, rfl, .ty "str", .base (.str _), kit_ty (by decide +kernel), _, rfl, iteF ?_⟩
      refine ⟨_, rfl, _, _, _, _, rfl, rfl, .inl (.inl hrt), rfl, _, _, _, _, true, rfl, .ty "str", .base (.str _), kit_ty (by decide +kernel), _, rfl, iteF ?_⟩
      refine ⟨_, rfl, _, _, _, _, rfl, rfl, .inl (.inl hrt), rfl, _, rfl, _, rfl, iteF ?_⟩
      refine ⟨_, rfl, _, _, _, _, rfl, rfl, .inl (.inl hrt), rfl, _, rfl, _, rfl, iteF ?_⟩
      obtain ⟨o1, o2⟩ := hok t (List.mem_of_getElem? ht)
      have hdp : ∀ x, H' x = some (.tup [.str t.kind, .str (S t.text), .int t.line, .int t.col]) → Dp K H' (.ref x) (.tuple [.str t.kind, .str (S t.text), .int t.line, .int t.col]) := fun x hx =>
        .tup (.inl (.inl hx)) (.cons (.str _) (.cons (.str _) (.cons (.int _) (.cons (.int _) .nil))))
      have hcl : (PyData.tuple [.str t.kind, .str (S t.text), .int t.line, .int t.col]).canLay0 = true := by
        show (PyData.strOk t.kind && (PyData.strOk (S t.text) && (true && (true && true)))) = true
        rw [o1, o2]; rfl
      have hsh : SeqAt.shaped (.tuple [.str t.kind, .str (S t.text), .int t.line, .int t.col]) = true := by
        unfold SeqAt.shaped
        rw [hcl]; rfl
      refine ⟨_, rfl, _, rfl, _, rfl, _, _, _, _, rfl, rfl, .inl (.inl hb), at_of (j := k) (by omega) (by rw [List.getElem?_map, hu]; rfl), _, _, hdp _ hrt, hdp _ hut, hsh, hsh, _, rfl, ?_⟩
      rw [SeqAt.eqv_refl _ hcl]
      exact iteF ⟨⟨_, _, rfl⟩, rfl⟩
    · rintro σ H' ⟨⟨v, w, rfl⟩, rfl⟩
      exact q
def sp_law (K : PySem.W.Frag) : Sp := fun vs H Q _ => ∃ (a : Addr) (ns : List Int), vs = [.ref a] ∧ SqL K H a (ns.map V.int) ∧ ns.length ≤ 63 ∧ ∀ H', Q (.bl true) H'
theorem ok_law {f : Addr} {fd : FuncData} (F : Fun K "law" "law" s_law f fd) {f__law_pool : Addr} {fd__law_pool : FuncData} (C__law_pool : Callee P w K mg base 1 f__law_pool fd__law_pool "_law_pool" ["script"] (sp__law_pool K)) {f__law_draw : Addr} {fd__law_draw : FuncData} (C__law_draw : Callee P w K mg base 1 f__law_draw fd__law_draw "_law_draw" ["pool", "many"] (sp__law_draw K)) {f__law_piece : Addr} {fd__law_piece : FuncData} (C__law_piece : Callee P w K mg base 4 f__law_piece fd__law_piece "_law_piece" ["pool"] (sp__law_piece K)) {f__law_run_kind : Addr} {fd__law_run_kind : FuncData} (C__law_run_kind : Callee P w K mg base 1 f__law_run_kind fd__law_run_kind "_law_run_kind" ["run"] (sp__law_run_kind K)) {f__law_pick : Addr} {fd__law_pick : FuncData} (C__law_pick : Callee P w K mg base 2 f__law_pick fd__law_pick "_law_pick" ["pool", "things"] (sp__law_pick K)) {f__law_laid : Addr} {fd__law_laid : FuncData} (C__law_laid : Callee P w K mg base 3 f__law_laid fd__law_laid "_law_laid" ["pool", "pieces"] (sp__law_laid K)) {f_tokens : Addr} {fd_tokens : FuncData} (C_tokens : Callee P w K mg base 3 f_tokens fd_tokens "tokens" ["text"] (sp_tokens K)) {f__law_same : Addr} {fd__law_same : FuncData} (C__law_same : Callee P w K mg base 2 f__law_same fd__law_same "_law_same" ["said", "due"] (sp__law_same K)) (b_range : mg "range" = none) (b_len : mg "len" = none) : FnOk P w K mg base CX0 (5) f fd ["script"] (sp_law K) := by
  refine F.ok sc_law (fun vs H Q E h => ?_) (fun cdv A outer s H vs Q E hr h => ?_)
  · first | (obtain ⟨rfl, _⟩ := h; rfl) | (obtain ⟨_, rfl, _⟩ := h; rfl) | (obtain ⟨_, _, rfl, _⟩ := h; rfl) | (obtain ⟨_, _, _, rfl, _⟩ := h; rfl) | (obtain ⟨_, _, _, _, rfl, _⟩ := h; rfl) | (obtain ⟨_, _, _, _, _, rfl, _⟩ := h; rfl) | (obtain ⟨_, _, _, _, _, _, rfl, _⟩ := h; rfl) | (obtain ⟨_, _, _, _, _, _, _, rfl, _⟩ := h; rfl) | (obtain ⟨_, _, _, _, _, _, _, _, rfl, _⟩ := h; rfl) | (obtain ⟨_, _, _, _, _, _, _, _, _, rfl, _⟩ := h; rfl) | (obtain ⟨_, _, _, _, _, _, _, _, _, _, rfl, _⟩ := h; rfl) | (obtain ⟨_, _, _, _, _, _, _, _, _, _, _, rfl, _⟩ := h; rfl) | (obtain ⟨_, _, _, _, _, _, _, _, _, _, _, _, rfl, _⟩ := h; rfl) | (obtain ⟨_, _, _, _, _, _, _, _, _, _, _, _, _, rfl, _⟩ := h; rfl) | (obtain ⟨_, _, _, _, _, _, _, _, _, _, _, _, _, _, rfl, _⟩ := h; rfl) | (obtain ⟨_, _, _, _, _, _, _, _, _, _, _, _, _, _, _, rfl, _⟩ := h; rfl) | (obtain ⟨_, _, _, _, _, _, _, _, _, _, _, _, _, _, _, _, rfl, _⟩ := h; rfl) | (obtain ⟨_, _, _, _, _, _, _, _, _, _, _, _, _, _, _, _, _, rfl, _⟩ := h; rfl)
  · have hu := hu_of hr

    refine ⟨_, (pss_cons (ps_set (i := 1) sc_law.nd rfl (.inl rfl) (pe_call C__law_pool.ok (hr.mono (by omega)) (by rfl) C__law_pool.g C__law_pool.kp C__law_pool.b .nil pass0 (pa_cons (pv 0) pa_nil)))
      (pss_cons (ps_set (i := 2) sc_law.nd rfl (.inl rfl) (pe_lst pa_nil))
      (pss_cons (ps_for PassesOwn.never rfl (pi_range1 (by rfl) b_range (pa_cons (pe_call C__law_draw.ok (hr.mono (by omega)) (by rfl) C__law_draw.g C__law_draw.kp C__law_draw.b .nil pass0 (pa_cons (pv 1) (pa_cons pe_int pa_nil))) pa_nil)) (pg_name (i := 3) sc_law.nd rfl (.inl rfl)) (pss_one (ps_expr (pe_bm PySem.F.plainAttrs_list PySem.F.slot_list_append PySem.F.type_list_append mt_append (pv 2) (pa_cons (pe_call C__law_piece.ok (hr.mono (by omega)) (by rfl) C__law_piece.g C__law_piece.kp C__law_piece.b .nil pass0 (pa_cons (pv 1) pa_nil)) pa_nil)))))
      (C8.pss_cut (ps_if (pt_cmp (pc_eqI (pe_call C__law_draw.ok (hr.mono (by omega)) (by rfl) C__law_draw.g C__law_draw.kp C__law_draw.b .nil pass0 (pa_cons (pv 1) (pa_cons pe_int pa_nil))) pe_int)) (pss_cons (ps_set (i := 4) sc_law.nd rfl (.inl rfl) (pe_op op_mulS (pe_call C__law_pick.ok (hr.mono (by omega)) (by rfl) C__law_pick.g C__law_pick.kp C__law_pick.b .nil pass0 (pa_cons (pv 1) (pa_cons pe_str pa_nil))) (pe_op op_add pe_int (pe_call C__law_draw.ok (hr.mono (by omega)) (by rfl) C__law_draw.g C__law_draw.kp C__law_draw.b .nil pass0 (pa_cons (pv 1) (pa_cons pe_int pa_nil))))))
      (pss_one (ps_expr (pe_bm PySem.F.plainAttrs_list PySem.F.slot_list_insert PySem.F.type_list_insert mt_insert (pv 2) (pa_cons (pe_call C__law_draw.ok (hr.mono (by omega)) (by rfl) C__law_draw.g C__law_draw.kp C__law_draw.b .nil pass0 (pa_cons (pv 1) (pa_cons (pe_op op_add (pe_callB (call_len_seq) (by rfl) b_len (by decide +kernel) (pa_cons (pv 2) pa_nil)) pe_int) pa_nil))) (pa_cons (pe_tup (pa_cons (pe_call C__law_run_kind.ok (hr.mono (by omega)) (by rfl) C__law_run_kind.g C__law_run_kind.kp C__law_run_kind.b .nil pass0 (pa_cons (pv 4) pa_nil)) (pa_cons (pv 4) pa_nil))) pa_nil)))))) pss_nil)
      (pss_cons (ps_set (i := 5) sc_law.nd rfl (.inl rfl) (pe_lst pa_nil))
      (pss_cons (ps_for PassesOwn.never rfl (pi_range1 (by rfl) b_range (pa_cons (pe_call C__law_draw.ok (hr.mono (by omega)) (by rfl) C__law_draw.g C__law_draw.kp C__law_draw.b .nil pass0 (pa_cons (pv 1) (pa_cons pe_int pa_nil))) pa_nil)) (pg_name (i := 3) sc_law.nd rfl (.inl rfl)) (pss_one (ps_expr (pe_bm PySem.F.plainAttrs_list PySem.F.slot_list_append PySem.F.type_list_append mt_append (pv 5) (pa_cons (pe_call C__law_piece.ok (hr.mono (by omega)) (by rfl) C__law_piece.g C__law_piece.kp C__law_piece.b .nil pass0 (pa_cons (pv 1) pa_nil)) pa_nil)))))
      (pss_cons (ps_set (i := 6) sc_law.nd rfl (.inl rfl) (pe_lst (pa_cons (pe_call C__law_laid.ok (hr.mono (by omega)) (by rfl) C__law_laid.g C__law_laid.kp C__law_laid.b .nil pass0 (pa_cons (pv 1) (pa_cons (pv 2) pa_nil))) (pa_cons (pe_call C__law_laid.ok (hr.mono (by omega)) (by rfl) C__law_laid.g C__law_laid.kp C__law_laid.b .nil pass0 (pa_cons (pv 1) (pa_cons (pv 5) pa_nil))) pa_nil))))
      (pss_cons (ps_for PassesOwn.never rfl (pi_list (pe_lst (pa_cons pe_int (pa_cons pe_int (pa_cons pe_int (pa_cons pe_int pa_nil)))))) (pg_name (i := 7) sc_law.nd rfl (.inl rfl)) (pss_cons (ps_set (i := 8) sc_law.nd rfl (.inl rfl) (pe_call C_tokens.ok (hr.mono (by omega)) (by rfl) C_tokens.g C_tokens.kp C_tokens.b .nil pass0 (pa_cons (pe_ix ix_tup (pe_ix ix_list (pv 6) (pv 7) (fun _ _ => rfl)) pe_int (fun _ _ => rfl)) pa_nil)))
      (pss_cons (ps_if (pt_not (pt_val (pe_call C__law_same.ok (hr.mono (by omega)) (by rfl) C__law_same.g C__law_same.kp C__law_same.b .nil pass0 (pa_cons (pv 8) (pa_cons (pe_ix ix_tup (pe_ix ix_list (pv 6) (pv 7) (fun _ _ => rfl)) pe_int (fun _ _ => rfl)) pa_nil))))) (pss_one (ps_ret pe_bl)) pss_nil)
      (pss_cons (ps_expr (pe_bm PySem.F.plainAttrs_list PySem.F.slot_list_append PySem.F.type_list_append mt_append (pv 8) (pa_cons (pe_tup (pa_cons pe_str (pa_cons pe_str (pa_cons pe_int (pa_cons pe_int pa_nil))))) pa_nil)))
      (pss_one (ps_expr (pe_bm0 PySem.F.plainAttrs_list PySem.F.slot_list_reverse PySem.F.type_list_reverse mt_reverse (pv 8))))))))
      (pss_one (ps_ret pe_bl)))))))))), ?_⟩
    obtain ⟨a, ns, rfl, hS, hl, q⟩ := h
    have nolst : ∀ (xs : List Addr) a i d c, xs.map V.ref ≠ [V.ref a, .int i, .int d, .int c] := fun xs a i d c e => by
      match xs, e with
      | [], e => simp at e
      | [_], e => simp at e
      | _ :: y :: r, e => simp at e
    refine ⟨_, rfl, _, _, rfl, hS, hl, fun H1 p q0 S1 n1 m1 P1 => ?_⟩
    refine ⟨(by show (0 : Nat) ≤ sizeLine; decide), fun p2 np2 => ?_⟩
    have n2p : p2 ≠ p := pool_ne P1 np2
    have n2q : p2 ≠ q0 := pool_neq P1 np2
    refine ⟨_, rfl, _, _, _, rfl, by decide, by decide, P1.same (same_upd np2), fun H3 r3 bt3 P3 lo3 hi3 => ?_⟩
    refine ⟨_, rfl, (by omega), (by omega), ?_⟩
    refine for_range (lo := 0) (fun i σ H' => ∃ (rs : List Addr) (ls : List (List Nat)) (v : Option V), σ = [some (.ref a), some (.ref p), some (.ref p2), v, none, none, none, none, none] ∧ H' p2 = some (.lst (rs.map V.ref)) ∧ Pieces H' rs ls ∧ (∀ l ∈ ls, IsPiece l) ∧ ls.length = i ∧ (ls.map List.length).sum ≤ 20 * i ∧ Pool H' p q0)
      ⟨[], [], none, rfl, bt3 _ _ upd_same n2p, trivial, fun l h => by simp at h, rfl, Nat.le_refl _, P3⟩ ?_ ?_
    · rintro i σ H' hi ⟨rs, ls, v, rfl, h2, hP, hI, hn, hs, P'⟩
      refine ⟨_, rfl, .inl ⟨rfl, _, .inl (.inl h2)⟩, _, rfl, _, _, rfl, P', fun H4 r4 l4 bt4 P4 fr4 t4 ip4 le4 => ?_⟩
      have h24 := bt4 _ _ h2 n2p
      have lrs := hP.len
      refine ⟨_, _, _, rfl, rfl, h24, ?_, rs ++ [r4], ls ++ [l4], some (.int (0 + i)), rfl, ?_, ?_, ?_, ?_, ?_, P4.upd n2p n2q⟩
      · rw [List.length_map]; exact Nat.lt_of_lt_of_le (by omega : _ < 20001) (by decide)
      · rw [upd_same, List.map_append]; rfl
      · exact (Pieces.app (rs' := [r4]) (ls' := [l4]) ⟨t4, trivial⟩ (hP.keep (but_tup bt4 P'))).keep (tk_upd h24)
      · intro l hl'
        rcases List.mem_append.mp hl' with e | e
        · exact hI l e
        · cases List.mem_singleton.mp e; exact ip4
      · rw [List.length_append, hn]; rfl
      · rw [List.map_append, List.sum_append]
        have : (List.map List.length [l4]).sum = l4.length := by simp
        omega
    rintro σ H' ⟨rs, ls, v, rfl, h2, hP, hI, hn, hs, P'⟩
    refine ⟨fun σ' H' => ∃ (rs : List Addr) (ls : List (List Nat)) (v u : Option V), σ' = [some (.ref a), some (.ref p), some (.ref p2), v, u, none, none, none, none] ∧ H' p2 = some (.lst (rs.map V.ref)) ∧ Pieces H' rs ls ∧ (∀ l ∈ ls, IsPiece l) ∧ ls.length ≤ 21 ∧ (ls.map List.length).sum ≤ 5000 ∧ Pool H' p q0, ?_, ?_⟩
    · refine ⟨_, rfl, _, _, _, rfl, by decide, by decide, P', fun H5 r5 bt5 P5 lo5 hi5 => ?_⟩
      have h25 := bt5 _ _ h2 n2p
      have hP5 := hP.keep (but_tup bt5 P')
      have lrs := hP.len
      refine ⟨_, _, rfl, rfl, _, rfl, iteD (fun h6 => ?_) (fun h6 => ?_)⟩
      · refine ⟨_, rfl, _, _, _, runs4.map (fun c => [c]), rfl, P5, by decide, by decide, .inr ⟨runs4, congrArg V.str (by decide +kernel), rfl⟩, fun H7 l7 bt7 P7 m7 => ?_⟩
        obtain ⟨c, hc, rfl⟩ := List.mem_map.mp m7
        refine ⟨_, rfl, _, _, _, rfl, by decide, by decide, P7, fun H8 r8 bt8 P8 lo8 hi8 => ?_⟩
        have bt58 := bt7.trans bt8
        have h28 := bt58 _ _ h25 n2p
        have hc' : isRun c = true := (by decide : ∀ c ∈ runs4, isRun c = true) c hc
        have wne : List.replicate (1 + r8).toNat c ≠ [] := fun z => by
          have := congrArg List.length z
          rw [List.length_replicate, List.length_nil] at this
          omega
        have wal : (List.replicate (1 + r8).toNat c).all isRun = true := by
          rw [List.all_eq_true]; intro d hd; rw [List.eq_of_mem_replicate hd]; exact hc'
        have wl : (List.replicate (1 + r8).toNat c).length ≤ 4500 := by rw [List.length_replicate]; omega
        refine ⟨_, _, rfl, rfl, c, _, rfl, rfl, by omega, by omega, _, rfl, .inl ⟨rfl, _, .inl (.inl h28)⟩, _, rfl, _, rfl, _, _, rfl, .inl (.inl (.inl h28)), _, _, rfl, rfl, _, _, _, rfl, (by omega), (by rw [List.length_map]; omega), P8, fun H9 r9 bt9 P9 lo9 hi9 => ?_⟩
        generalize hw : List.replicate (1 + r8).toNat c = w at wne wal wl ⊢
        refine ⟨_, rfl, _, rfl, wne, by omega, fun H10 S10 => ?_⟩
        refine ⟨_, rfl, (by show (2 : Nat) ≤ sizeLine; decide), fun p11 np11 => ?_⟩
        rw [List.length_map] at hi9
        have P10 := P9.same S10
        have h211 := keep (o := .tup [.str (runKind w), .str (S w)]) (S10 _ _ (bt9 _ _ h28 n2p)) np11
        have tkk : TupKeep H5 (upd H10 p11 (.tup [.str (runKind w), .str (S w)])) := ((but_tup bt58 P5).trans ((but_tup bt9 P8).trans (Same.tup S10))).trans (tk_new np11)
        refine ⟨_, _, _, _, rfl, rfl, h211, ?_, lo9, by omega, rs.take r9.toNat ++ [p11] ++ rs.drop r9.toNat, ls.take r9.toNat ++ [w] ++ ls.drop r9.toNat, v, some (.str (S w)), rfl, ?_, ?_, ?_, ?_, ?_, (P10.same (same_upd np11)).upd n2p n2q⟩
        · rw [List.length_map]; exact Nat.lt_of_lt_of_le (by omega : _ < 20001) (by decide)
        · rw [upd_same, List.map_append, List.map_append, List.map_take, List.map_drop]; rfl
        · have hPk := hP5.keep tkk
          refine Pieces.keep (tk_upd h211) ?_
          refine Pieces.app (hPk.drop _) (Pieces.app (rs' := [p11]) (ls' := [w]) ⟨?_, trivial⟩ (hPk.take _))
          rw [← runKind_eq wne wal]; exact upd_same
        · intro l hl'
          rcases List.mem_append.mp hl' with e | e
          · rcases List.mem_append.mp e with e | e
            · exact hI l (List.mem_of_mem_take e)
            · cases List.mem_singleton.mp e; exact .run wne wal
          · exact hI l (List.mem_of_mem_drop e)
        · rw [List.length_append, List.length_append, List.length_take, List.length_drop, List.length_singleton]; omega
        · rw [List.map_append, List.map_append, List.sum_append, List.sum_append]
          have e1 : (List.map List.length [w]).sum = w.length := by simp
          have e2 : ((ls.take r9.toNat).map List.length).sum + ((ls.drop r9.toNat).map List.length).sum = (ls.map List.length).sum := by
            rw [← List.sum_append, ← List.map_append, List.take_append_drop]
          omega
      · exact ⟨rs, ls, v, none, rfl, h25, hP5, hI, by omega, by omega, P5⟩
    rintro σ' H' ⟨rs, ls, v, u, rfl, h2, hP, hI, hn, hs, P'⟩
    refine ⟨(by show (0 : Nat) ≤ sizeLine; decide), fun p12 np12 => ?_⟩
    have n12p : p12 ≠ p := pool_ne P' np12
    have n12q : p12 ≠ q0 := pool_neq P' np12
    have n122 : p2 ≠ p12 := ne_of_none h2 np12
    refine ⟨_, rfl, _, _, _, rfl, by decide, by decide, P'.same (same_upd np12), fun H13 r13 bt13 P13 lo13 hi13 => ?_⟩
    refine ⟨_, rfl, (by omega), (by omega), ?_⟩
    refine for_range (lo := 0) (fun i σ H'' => ∃ (us : List Addr) (ms : List (List Nat)) (v : Option V), σ = [some (.ref a), some (.ref p), some (.ref p2), v, u, some (.ref p12), none, none, none] ∧ H'' p12 = some (.lst (us.map V.ref)) ∧ Pieces H'' us ms ∧ (∀ l ∈ ms, IsPiece l) ∧ ms.length = i ∧ (ms.map List.length).sum ≤ 20 * i ∧ Pool H'' p q0 ∧ H'' p2 = some (.lst (rs.map V.ref)) ∧ Pieces H'' rs ls)
      ⟨[], [], v, rfl, bt13 _ _ upd_same n12p, trivial, fun l h => by simp at h, rfl, Nat.le_refl _, P13, bt13 _ _ (keep h2 np12) n2p, hP.keep ((tk_new np12).trans (but_tup bt13 (P'.same (same_upd np12))))⟩ ?_ ?_
    · rintro i σ H'' hi ⟨us, ms, v, rfl, h12, hP2, hI2, hn2, hs2, P'', h2', hP'⟩
      refine ⟨_, rfl, .inl ⟨rfl, _, .inl (.inl h12)⟩, _, rfl, _, _, rfl, P'', fun H4 r4 l4 bt4 P4 fr4 t4 ip4 le4 => ?_⟩
      have h24 := bt4 _ _ h12 n12p
      have lrs := hP2.len
      have tk4 : TupKeep H'' (upd H4 p12 (.lst (us.map V.ref ++ [V.ref r4]))) := (but_tup bt4 P'').trans (tk_upd h24)
      refine ⟨_, _, _, rfl, rfl, h24, ?_, us ++ [r4], ms ++ [l4], some (.int (0 + i)), rfl, ?_, ?_, ?_, ?_, ?_, P4.upd n12p n12q, ?_, hP'.keep tk4⟩
      · rw [List.length_map]; exact Nat.lt_of_lt_of_le (by omega : _ < 20001) (by decide)
      · rw [upd_same, List.map_append]; rfl
      · exact (Pieces.app (rs' := [r4]) (ls' := [l4]) ⟨t4, trivial⟩ (hP2.keep (but_tup bt4 P''))).keep (tk_upd h24)
      · intro l hl'
        rcases List.mem_append.mp hl' with e | e
        · exact hI2 l e
        · cases List.mem_singleton.mp e; exact ip4
      · rw [List.length_append, hn2]; rfl
      · rw [List.map_append, List.sum_append]
        have : (List.map List.length [l4]).sum = l4.length := by simp
        omega
      · rw [upd_ne n122]; exact bt4 _ _ h2' n2p
    rintro σ H'' ⟨us, ms, v, rfl, h12, hP2, hI2, hn2, hs2, P'', h2', hP'⟩
    refine ⟨_, rfl, _, rfl, _, _, _, rs, ls, rfl, P'', n2p, h2', hP', hI, ⟨by omega, by omega⟩, fun H15 t15 u15 ts15 l15 bt15 P15 fr15 tr15 tu15 tk15 le15 c15 => ?_⟩
    refine ⟨_, rfl, _, rfl, _, _, _, us, ms, rfl, P15, n12p, bt15 _ _ h12 n12p, hP2.keep (but_tup bt15 P''), hI2, ⟨by omega, by omega⟩, fun H16 t16 u16 ts16 l16 bt16 P16 fr16 tr16 tu16 tk16 le16 c16 => ?_⟩
    have tr15' := but_tup bt16 P15 _ _ tr15
    have tu15' := bt16 _ _ tu15 (pool_lst P15 tu15 (nolst ts15))
    have tk15' := tk15.keep (but_tup bt16 P15)
    refine ⟨(by show (2 : Nat) ≤ sizeLine; decide), fun p17 np17 => ?_⟩
    refine ⟨(by show (4 : Nat) ≤ sizeLine; decide), fun p18 np18 => ?_⟩
    generalize hH : upd _ p18 _ = HH
    have SH : Same H16 HH := by rw [← hH]; exact (by repeat (first | exact Same.refl _ | assumption | exact same_upd (by assumption) | refine Same.trans ?_ (same_upd (by assumption))))
    have T18 : HH p18 = some (.lst [.int 0, .int 1, .int 0, .int 1]) := by rw [← hH]; exact upd_same
    have T17 : HH p17 = some (.lst [.ref t15, .ref t16]) := by rw [← hH]; exact (by repeat (first | exact upd_same | assumption | refine keep ?_ (by assumption)))
    have g : ∀ z : Int, (z = 0 ∨ z = 1) → ∃ t w ts l, atI [V.ref t15, V.ref t16] z = some (.ref t) ∧ HH t = some (.tup [.str (S l), .ref w]) ∧ HH w = some (.lst (ts.map V.ref)) ∧ TokAll HH ts (toks l 1 1) ∧ l.length ≤ 20000 ∧ ∀ c ∈ l, c < 128 := by
      rintro z (rfl | rfl)
      · exact ⟨t15, u15, ts15, l15, rfl, SH _ _ tr15', SH _ _ tu15', tk15'.keep (Same.tup SH), le15, c15⟩
      · exact ⟨t16, u16, ts16, l16, rfl, SH _ _ tr16, SH _ _ tu16, tk16.keep (Same.tup SH), le16, c16⟩
    clear hH
    refine ⟨_, rfl, ⟨_, .inl (.inl T18)⟩, ?_⟩
    refine for_list (K := K) (a := p18) (xs := [.int 0, .int 1, .int 0, .int 1]) (fun i σ H' => (∃ x y, σ = [some (.ref a), some (.ref p), some (.ref p2), v, u, some (.ref p12), some (.ref p17), x, y]) ∧ Same HH H') ⟨⟨_, _, rfl⟩, Same.refl _⟩ (fun i σ H' _ e => .inl (.inl (e.2 _ _ T18))) ?_ ?_
    · rintro i y σ H' hy ⟨⟨x, y', rfl⟩, s⟩
      have hm := List.mem_of_getElem? hy
      obtain ⟨z, rfl, hz⟩ : ∃ z : Int, y = .int z ∧ (z = 0 ∨ z = 1) := by
        simp only [List.mem_cons, List.not_mem_nil, or_false] at hm
        rcases hm with rfl | rfl | rfl | rfl
        · exact ⟨_, rfl, .inl rfl⟩
        · exact ⟨_, rfl, .inr rfl⟩
        · exact ⟨_, rfl, .inl rfl⟩
        · exact ⟨_, rfl, .inr rfl⟩
      obtain ⟨t, w, ts, l, hat, ht, hw, htk, hll, hcc⟩ := g z hz
      refine ⟨_, rfl, _, rfl, _, _, _, _, rfl, rfl, .inl (.inl (s _ _ T17)), hat, _, _, _, _, rfl, rfl, .inl (.inl (s _ _ ht)), rfl, _, rfl, hll, fun H19 p19 rs19 S19 n19 e19 t19 => ?_⟩
      have s19 := s.trans S19
      refine ⟨_, rfl, _, rfl, _, rfl, _, _, _, _, rfl, rfl, .inl (.inl (s19 _ _ T17)), hat, _, _, _, _, rfl, rfl, .inl (.inl (s19 _ _ ht)), rfl, _, _, rs19, ts, toks l 1 1, rfl, e19, s19 _ _ hw, t19, htk.keep (Same.tup s19), ?_, toks_strs hcc 1 1, _, rfl, iteF ?_⟩
      · have := toks_count l.length l 1 1 (Nat.le_refl _)
        omega
      refine ⟨_, rfl, .inl ⟨rfl, _, .inl (.inl e19)⟩, (by show (4 : Nat) ≤ sizeLine; decide), fun p21 np21 => ?_⟩
      have e21 := keep (o := .tup [.str "sign", .str ";", .int 1, .int 1]) e19 np21
      have lts : rs19.length ≤ 20001 := by
        have := toks_count l.length l 1 1 (Nat.le_refl _)
        have := t19.len
        omega
      refine ⟨_, _, _, rfl, rfl, e21, ?_, _, rfl, .inl ⟨rfl, _, .inl (.inl upd_same)⟩, _, _, rfl, rfl, upd_same, ⟨_, _, rfl⟩, ?_⟩
      · rw [List.length_map]; exact Nat.lt_of_lt_of_le (by omega : _ < 20002) (by decide)
      · have f19 : HH p19 = none := s.free n19
        exact same_fresh (same_fresh (s19.trans (same_upd np21)) f19) f19
    · rintro σ H' ⟨⟨x, y', rfl⟩, s⟩
      exact q _

end
theorem all_mk {l : PySem.W.OpenLaw} {w : World} {K : PySem.W.Frag} {h : Heap} {mg : Str → Option Value} {fa f0 f1 f2 f3 f4 f5 f6 f7 f8 f9 f10 f11 f12 f13 f14 f15 f16 f17 : Addr} (X : K.In h) (G : h.Ns mainGlobals mg) (hfa : mg "law" = some (.ref fa))
    {od0 an0 od1 an1 od2 an2 od3 an3 od4 an4 od5 an5 od6 an6 od7 an7 od8 an8 od9 an9 od10 an10 od11 an11 od12 an12 od13 an13 od14 an14 od15 an15 od16 an16 od17 an17 : Option Addr} {sl0 sl1 sl2 sl3 sl4 sl5 sl6 sl7 sl8 sl9 sl10 sl11 sl12 sl13 sl14 sl15 sl16 sl17 : Array (Option Value)} {oc0 kV0 dc0 pm0 cd0 ct0 oc1 kV1 dc1 pm1 cd1 ct1 oc2 kV2 dc2 pm2 cd2 ct2 oc3 kV3 dc3 pm3 cd3 ct3 oc4 kV4 dc4 pm4 cd4 ct4 oc5 kV5 dc5 pm5 cd5 ct5 oc6 kV6 dc6 pm6 cd6 ct6 oc7 kV7 dc7 pm7 cd7 ct7 oc8 kV8 dc8 pm8 cd8 ct8 oc9 kV9 dc9 pm9 cd9 ct9 oc10 kV10 dc10 pm10 cd10 ct10 oc11 kV11 dc11 pm11 cd11 ct11 oc12 kV12 dc12 pm12 cd12 ct12 oc13 kV13 dc13 pm13 cd13 ct13 oc14 kV14 dc14 pm14 cd14 ct14 oc15 kV15 dc15 pm15 cd15 ct15 oc16 kV16 dc16 pm16 cd16 ct16 oc17 kV17 dc17 pm17 cd17 ct17 : Value}
    (a0 : PySem.W.nsIn K mainGlobals "is_name" = some (some (.ref f0))) (l0 : K.lookup f0 = some ⟨oc0, od0, .func (PySem.W.fnOf "is_name" "is_name" (defArgs s_is_name) (defBody s_is_name) (defScope s_is_name) .none kV0 dc0 pm0 an0 cd0 ct0), sl0⟩) (c0 : PySem.W.codeIn K cd0 "is_name" = true) (k0 : PySem.W.keepIn K (.ref f0) = true)
    (a1 : PySem.W.nsIn K mainGlobals "is_number" = some (some (.ref f1))) (l1 : K.lookup f1 = some ⟨oc1, od1, .func (PySem.W.fnOf "is_number" "is_number" (defArgs s_is_number) (defBody s_is_number) (defScope s_is_number) .none kV1 dc1 pm1 an1 cd1 ct1), sl1⟩) (c1 : PySem.W.codeIn K cd1 "is_number" = true) (k1 : PySem.W.keepIn K (.ref f1) = true)
    (a2 : PySem.W.nsIn K mainGlobals "piece_at" = some (some (.ref f2))) (l2 : K.lookup f2 = some ⟨oc2, od2, .func (PySem.W.fnOf "piece_at" "piece_at" (defArgs s_piece_at) (defBody s_piece_at) (defScope s_piece_at) .none kV2 dc2 pm2 an2 cd2 ct2), sl2⟩) (c2 : PySem.W.codeIn K cd2 "piece_at" = true) (k2 : PySem.W.keepIn K (.ref f2) = true)
    (a3 : PySem.W.nsIn K mainGlobals "kind_of" = some (some (.ref f3))) (l3 : K.lookup f3 = some ⟨oc3, od3, .func (PySem.W.fnOf "kind_of" "kind_of" (defArgs s_kind_of) (defBody s_kind_of) (defScope s_kind_of) .none kV3 dc3 pm3 an3 cd3 ct3), sl3⟩) (c3 : PySem.W.codeIn K cd3 "kind_of" = true) (k3 : PySem.W.keepIn K (.ref f3) = true)
    (a4 : PySem.W.nsIn K mainGlobals "tokens" = some (some (.ref f4))) (l4 : K.lookup f4 = some ⟨oc4, od4, .func (PySem.W.fnOf "tokens" "tokens" (defArgs s_tokens) (defBody s_tokens) (defScope s_tokens) .none kV4 dc4 pm4 an4 cd4 ct4), sl4⟩) (c4 : PySem.W.codeIn K cd4 "tokens" = true) (k4 : PySem.W.keepIn K (.ref f4) = true)
    (a5 : PySem.W.nsIn K mainGlobals "_law_pool" = some (some (.ref f5))) (l5 : K.lookup f5 = some ⟨oc5, od5, .func (PySem.W.fnOf "_law_pool" "_law_pool" (defArgs s__law_pool) (defBody s__law_pool) (defScope s__law_pool) .none kV5 dc5 pm5 an5 cd5 ct5), sl5⟩) (c5 : PySem.W.codeIn K cd5 "_law_pool" = true) (k5 : PySem.W.keepIn K (.ref f5) = true)
    (a6 : PySem.W.nsIn K mainGlobals "_law_draw" = some (some (.ref f6))) (l6 : K.lookup f6 = some ⟨oc6, od6, .func (PySem.W.fnOf "_law_draw" "_law_draw" (defArgs s__law_draw) (defBody s__law_draw) (defScope s__law_draw) .none kV6 dc6 pm6 an6 cd6 ct6), sl6⟩) (c6 : PySem.W.codeIn K cd6 "_law_draw" = true) (k6 : PySem.W.keepIn K (.ref f6) = true)
    (a7 : PySem.W.nsIn K mainGlobals "_law_pick" = some (some (.ref f7))) (l7 : K.lookup f7 = some ⟨oc7, od7, .func (PySem.W.fnOf "_law_pick" "_law_pick" (defArgs s__law_pick) (defBody s__law_pick) (defScope s__law_pick) .none kV7 dc7 pm7 an7 cd7 ct7), sl7⟩) (c7 : PySem.W.codeIn K cd7 "_law_pick" = true) (k7 : PySem.W.keepIn K (.ref f7) = true)
    (a8 : PySem.W.nsIn K mainGlobals "_law_integer" = some (some (.ref f8))) (l8 : K.lookup f8 = some ⟨oc8, od8, .func (PySem.W.fnOf "_law_integer" "_law_integer" (defArgs s__law_integer) (defBody s__law_integer) (defScope s__law_integer) .none kV8 dc8 pm8 an8 cd8 ct8), sl8⟩) (c8 : PySem.W.codeIn K cd8 "_law_integer" = true) (k8 : PySem.W.keepIn K (.ref f8) = true)
    (a9 : PySem.W.nsIn K mainGlobals "_law_run_kind" = some (some (.ref f9))) (l9 : K.lookup f9 = some ⟨oc9, od9, .func (PySem.W.fnOf "_law_run_kind" "_law_run_kind" (defArgs s__law_run_kind) (defBody s__law_run_kind) (defScope s__law_run_kind) .none kV9 dc9 pm9 an9 cd9 ct9), sl9⟩) (c9 : PySem.W.codeIn K cd9 "_law_run_kind" = true) (k9 : PySem.W.keepIn K (.ref f9) = true)
    (a10 : PySem.W.nsIn K mainGlobals "_law_drawn_run" = some (some (.ref f10))) (l10 : K.lookup f10 = some ⟨oc10, od10, .func (PySem.W.fnOf "_law_drawn_run" "_law_drawn_run" (defArgs s__law_drawn_run) (defBody s__law_drawn_run) (defScope s__law_drawn_run) .none kV10 dc10 pm10 an10 cd10 ct10), sl10⟩) (c10 : PySem.W.codeIn K cd10 "_law_drawn_run" = true) (k10 : PySem.W.keepIn K (.ref f10) = true)
    (a11 : PySem.W.nsIn K mainGlobals "_law_piece" = some (some (.ref f11))) (l11 : K.lookup f11 = some ⟨oc11, od11, .func (PySem.W.fnOf "_law_piece" "_law_piece" (defArgs s__law_piece) (defBody s__law_piece) (defScope s__law_piece) .none kV11 dc11 pm11 an11 cd11 ct11), sl11⟩) (c11 : PySem.W.codeIn K cd11 "_law_piece" = true) (k11 : PySem.W.keepIn K (.ref f11) = true)
    (a12 : PySem.W.nsIn K mainGlobals "_law_gap" = some (some (.ref f12))) (l12 : K.lookup f12 = some ⟨oc12, od12, .func (PySem.W.fnOf "_law_gap" "_law_gap" (defArgs s__law_gap) (defBody s__law_gap) (defScope s__law_gap) .none kV12 dc12 pm12 an12 cd12 ct12), sl12⟩) (c12 : PySem.W.codeIn K cd12 "_law_gap" = true) (k12 : PySem.W.keepIn K (.ref f12) = true)
    (a13 : PySem.W.nsIn K mainGlobals "_law_need" = some (some (.ref f13))) (l13 : K.lookup f13 = some ⟨oc13, od13, .func (PySem.W.fnOf "_law_need" "_law_need" (defArgs s__law_need) (defBody s__law_need) (defScope s__law_need) .none kV13 dc13 pm13 an13 cd13 ct13), sl13⟩) (c13 : PySem.W.codeIn K cd13 "_law_need" = true) (k13 : PySem.W.keepIn K (.ref f13) = true)
    (a14 : PySem.W.nsIn K mainGlobals "_law_moved" = some (some (.ref f14))) (l14 : K.lookup f14 = some ⟨oc14, od14, .func (PySem.W.fnOf "_law_moved" "_law_moved" (defArgs s__law_moved) (defBody s__law_moved) (defScope s__law_moved) .none kV14 dc14 pm14 an14 cd14 ct14), sl14⟩) (c14 : PySem.W.codeIn K cd14 "_law_moved" = true) (k14 : PySem.W.keepIn K (.ref f14) = true)
    (a15 : PySem.W.nsIn K mainGlobals "_law_laid" = some (some (.ref f15))) (l15 : K.lookup f15 = some ⟨oc15, od15, .func (PySem.W.fnOf "_law_laid" "_law_laid" (defArgs s__law_laid) (defBody s__law_laid) (defScope s__law_laid) .none kV15 dc15 pm15 an15 cd15 ct15), sl15⟩) (c15 : PySem.W.codeIn K cd15 "_law_laid" = true) (k15 : PySem.W.keepIn K (.ref f15) = true)
    (a16 : PySem.W.nsIn K mainGlobals "_law_same" = some (some (.ref f16))) (l16 : K.lookup f16 = some ⟨oc16, od16, .func (PySem.W.fnOf "_law_same" "_law_same" (defArgs s__law_same) (defBody s__law_same) (defScope s__law_same) .none kV16 dc16 pm16 an16 cd16 ct16), sl16⟩) (c16 : PySem.W.codeIn K cd16 "_law_same" = true) (k16 : PySem.W.keepIn K (.ref f16) = true)
    (a17 : PySem.W.nsIn K mainGlobals "law" = some (some (.ref f17))) (l17 : K.lookup f17 = some ⟨oc17, od17, .func (PySem.W.fnOf "law" "law" (defArgs s_law) (defBody s_law) (defScope s_law) .none kV17 dc17 pm17 an17 cd17 ct17), sl17⟩) (c17 : PySem.W.codeIn K cd17 "law" = true) (k17 : PySem.W.keepIn K (.ref f17) = true)
    (z_len : PySem.W.nsIn K mainGlobals "len" = some none)
    (z_all : PySem.W.nsIn K mainGlobals "all" = some none)
    (z_int : PySem.W.nsIn K mainGlobals "int" = some none)
    (z_list : PySem.W.nsIn K mainGlobals "list" = some none)
    (z_abs : PySem.W.nsIn K mainGlobals "abs" = some none)
    (z_isinstance : PySem.W.nsIn K mainGlobals "isinstance" = some none)
    (z_bool : PySem.W.nsIn K mainGlobals "bool" = some none)
    (z_str : PySem.W.nsIn K mainGlobals "str" = some none)
    (z_range : PySem.W.nsIn K mainGlobals "range" = some none)
    (z_tuple : PySem.W.nsIn K mainGlobals "tuple" = some none)
    {t_LONGEST_NAME : Tok} (z_LONGEST_NAME : PySem.W.nsIn K mainGlobals "LONGEST_NAME" = some (some (.int (8) t_LONGEST_NAME)))
    {t_SMALL_LETTERS : Tok} (z_SMALL_LETTERS : PySem.W.nsIn K mainGlobals "SMALL_LETTERS" = some (some (.str (SX.S smallL) t_SMALL_LETTERS)))
    {t_NAME_MARKS : Tok} (z_NAME_MARKS : PySem.W.nsIn K mainGlobals "NAME_MARKS" = some (some (.str (SX.S (smallL ++ digL)) t_NAME_MARKS)))
    {p_RESERVED : Addr} (z_RESERVED : PySem.W.nsIn K mainGlobals "RESERVED" = some (some (.ref p_RESERVED))) {d_RESERVED : Option Addr} {i_RESERVED : Array Value} {n_RESERVED : Nat} {s_RESERVED' : Array (Option Value)} (y_RESERVED : K.lookup p_RESERVED = some ⟨.type "tuple", d_RESERVED, .seq i_RESERVED n_RESERVED, s_RESERVED'⟩) (x_RESERVED : i_RESERVED.size ≤ sizeLine) (w_RESERVED : Vals (List.map (fun m => V.str (SX.S m)) resL) i_RESERVED.toList)
    {t_MOST_DIGITS : Tok} (z_MOST_DIGITS : PySem.W.nsIn K mainGlobals "MOST_DIGITS" = some (some (.int (10) t_MOST_DIGITS)))
    {t_DIGITS : Tok} (z_DIGITS : PySem.W.nsIn K mainGlobals "DIGITS" = some (some (.str (SX.S digL) t_DIGITS)))
    {t_GREATEST : Tok} (z_GREATEST : PySem.W.nsIn K mainGlobals "GREATEST" = some (some (.int (2147483647) t_GREATEST)))
    {t_RUN_MARKS : Tok} (z_RUN_MARKS : PySem.W.nsIn K mainGlobals "RUN_MARKS" = some (some (.str (SX.S (smallL ++ bigL ++ digL)) t_RUN_MARKS)))
    {p_DOUBLE_SIGNS : Addr} (z_DOUBLE_SIGNS : PySem.W.nsIn K mainGlobals "DOUBLE_SIGNS" = some (some (.ref p_DOUBLE_SIGNS))) {d_DOUBLE_SIGNS : Option Addr} {i_DOUBLE_SIGNS : Array Value} {n_DOUBLE_SIGNS : Nat} {s_DOUBLE_SIGNS' : Array (Option Value)} (y_DOUBLE_SIGNS : K.lookup p_DOUBLE_SIGNS = some ⟨.type "tuple", d_DOUBLE_SIGNS, .seq i_DOUBLE_SIGNS n_DOUBLE_SIGNS, s_DOUBLE_SIGNS'⟩) (x_DOUBLE_SIGNS : i_DOUBLE_SIGNS.size ≤ sizeLine) (w_DOUBLE_SIGNS : Vals (List.map (fun m => V.str (SX.S m)) dblL) i_DOUBLE_SIGNS.toList)
    {t_SINGLE_SIGNS : Tok} (z_SINGLE_SIGNS : PySem.W.nsIn K mainGlobals "SINGLE_SIGNS" = some (some (.str (SX.S singL) t_SINGLE_SIGNS)))
    : ∃ fd : FuncData, (∀ (s : Shared) (v : Value), BindsTo s fd ⟨[v], []⟩ [("script", v)]) ∧ ∀ base : Heap, K.In base → base.Ns mainGlobals mg → FnOk l.prog w K mg base CX0 5 fa fd ["script"] (sp_law K) := by
  have e := hfa.symm.trans (PySem.W.mg_of X G a17)
  cases e
  have F0 := fun_mk (st := s_is_name) l0 c0 k0
  have B0 := F0.binds (ps := ["text"]) fun _ _ _ _ _ _ us hl => match us, hl with | [_], _ => rfl
  have F1 := fun_mk (st := s_is_number) l1 c1 k1
  have B1 := F1.binds (ps := ["text"]) fun _ _ _ _ _ _ us hl => match us, hl with | [_], _ => rfl
  have F2 := fun_mk (st := s_piece_at) l2 c2 k2
  have B2 := F2.binds (ps := ["text", "at"]) fun _ _ _ _ _ _ us hl => match us, hl with | [_, _], _ => rfl
  have F3 := fun_mk (st := s_kind_of) l3 c3 k3
  have B3 := F3.binds (ps := ["piece"]) fun _ _ _ _ _ _ us hl => match us, hl with | [_], _ => rfl
  have F4 := fun_mk (st := s_tokens) l4 c4 k4
  have B4 := F4.binds (ps := ["text"]) fun _ _ _ _ _ _ us hl => match us, hl with | [_], _ => rfl
  have F5 := fun_mk (st := s__law_pool) l5 c5 k5
  have B5 := F5.binds (ps := ["script"]) fun _ _ _ _ _ _ us hl => match us, hl with | [_], _ => rfl
  have F6 := fun_mk (st := s__law_draw) l6 c6 k6
  have B6 := F6.binds (ps := ["pool", "many"]) fun _ _ _ _ _ _ us hl => match us, hl with | [_, _], _ => rfl
  have F7 := fun_mk (st := s__law_pick) l7 c7 k7
  have B7 := F7.binds (ps := ["pool", "things"]) fun _ _ _ _ _ _ us hl => match us, hl with | [_, _], _ => rfl
  have F8 := fun_mk (st := s__law_integer) l8 c8 k8
  have B8 := F8.binds (ps := ["x"]) fun _ _ _ _ _ _ us hl => match us, hl with | [_], _ => rfl
  have F9 := fun_mk (st := s__law_run_kind) l9 c9 k9
  have B9 := F9.binds (ps := ["run"]) fun _ _ _ _ _ _ us hl => match us, hl with | [_], _ => rfl
  have F10 := fun_mk (st := s__law_drawn_run) l10 c10 k10
  have B10 := F10.binds (ps := ["pool"]) fun _ _ _ _ _ _ us hl => match us, hl with | [_], _ => rfl
  have F11 := fun_mk (st := s__law_piece) l11 c11 k11
  have B11 := F11.binds (ps := ["pool"]) fun _ _ _ _ _ _ us hl => match us, hl with | [_], _ => rfl
  have F12 := fun_mk (st := s__law_gap) l12 c12 k12
  have B12 := F12.binds (ps := ["pool"]) fun _ _ _ _ _ _ us hl => match us, hl with | [_], _ => rfl
  have F13 := fun_mk (st := s__law_need) l13 c13 k13
  have B13 := F13.binds (ps := ["before", "after"]) fun _ _ _ _ _ _ us hl => match us, hl with | [_, _], _ => rfl
  have F14 := fun_mk (st := s__law_moved) l14 c14 k14
  have B14 := F14.binds (ps := ["at", "spelled"]) fun _ _ _ _ _ _ us hl => match us, hl with | [_, _], _ => rfl
  have F15 := fun_mk (st := s__law_laid) l15 c15 k15
  have B15 := F15.binds (ps := ["pool", "pieces"]) fun _ _ _ _ _ _ us hl => match us, hl with | [_, _], _ => rfl
  have F16 := fun_mk (st := s__law_same) l16 c16 k16
  have B16 := F16.binds (ps := ["said", "due"]) fun _ _ _ _ _ _ us hl => match us, hl with | [_, _], _ => rfl
  have F17 := fun_mk (st := s_law) l17 c17 k17
  have B17 := F17.binds (ps := ["script"]) fun _ _ _ _ _ _ us hl => match us, hl with | [_], _ => rfl
  skip
  skip
  skip
  skip
  skip
  skip
  skip
  skip
  skip
  skip
  refine ⟨PySem.W.fnOf "law" "law" (defArgs s_law) (defBody s_law) (defScope s_law) .none kV17 dc17 pm17 an17 cd17 ct17, fun s v => .of_eq rfl, fun base _ _ => ?_⟩
  have O0 := ok_is_name (P := l.prog) (w := w) (mg := mg) (base := base) F0 (PySem.W.mg_none_of X G z_len) (PySem.W.mg_none_of X G z_all) ⟨_, PySem.W.mg_of X G z_LONGEST_NAME⟩ ⟨_, PySem.W.mg_of X G z_SMALL_LETTERS⟩ ⟨_, PySem.W.mg_of X G z_NAME_MARKS⟩ (PySem.W.mg_of X G z_RESERVED) (fun H => .inr ⟨_, _, _, y_RESERVED, rfl, rfl, x_RESERVED, w_RESERVED⟩)
  have C0 : Callee l.prog w K mg base 1 f0 _ "is_name" _ (sp_is_name K) := ⟨O0, k0, B0, PySem.W.mg_of X G a0⟩
  have O1 := ok_is_number (P := l.prog) (w := w) (mg := mg) (base := base) F1 (PySem.W.mg_none_of X G z_len) (PySem.W.mg_none_of X G z_all) (PySem.W.mg_none_of X G z_int) ⟨_, PySem.W.mg_of X G z_MOST_DIGITS⟩ ⟨_, PySem.W.mg_of X G z_DIGITS⟩ ⟨_, PySem.W.mg_of X G z_GREATEST⟩
  have C1 : Callee l.prog w K mg base 1 f1 _ "is_number" _ (sp_is_number K) := ⟨O1, k1, B1, PySem.W.mg_of X G a1⟩
  have O2 := ok_piece_at (P := l.prog) (w := w) (mg := mg) (base := base) F2 (PySem.W.mg_none_of X G z_len) ⟨_, PySem.W.mg_of X G z_RUN_MARKS⟩ (PySem.W.mg_of X G z_DOUBLE_SIGNS) (fun H => .inr ⟨_, _, _, y_DOUBLE_SIGNS, rfl, rfl, x_DOUBLE_SIGNS, w_DOUBLE_SIGNS⟩)
  have C2 : Callee l.prog w K mg base 1 f2 _ "piece_at" _ (sp_piece_at K) := ⟨O2, k2, B2, PySem.W.mg_of X G a2⟩
  have O3 := ok_kind_of (P := l.prog) (w := w) (mg := mg) (base := base) F3 C0 C1 (PySem.W.mg_of X G z_RESERVED) (fun H => .inr ⟨_, _, _, y_RESERVED, rfl, rfl, x_RESERVED, w_RESERVED⟩) ⟨_, PySem.W.mg_of X G z_SINGLE_SIGNS⟩
  have C3 : Callee l.prog w K mg base 2 f3 _ "kind_of" _ (sp_kind_of K) := ⟨O3, k3, B3, PySem.W.mg_of X G a3⟩
  have O4 := ok_tokens (P := l.prog) (w := w) (mg := mg) (base := base) F4 C2 C3 (PySem.W.mg_none_of X G z_len)
  have C4 : Callee l.prog w K mg base 3 f4 _ "tokens" _ (sp_tokens K) := ⟨O4, k4, B4, PySem.W.mg_of X G a4⟩
  have O5 := ok__law_pool (P := l.prog) (w := w) (mg := mg) (base := base) F5 (PySem.W.mg_none_of X G z_list)
  have C5 : Callee l.prog w K mg base 1 f5 _ "_law_pool" _ (sp__law_pool K) := ⟨O5, k5, B5, PySem.W.mg_of X G a5⟩
  have O6 := ok__law_draw (P := l.prog) (w := w) (mg := mg) (base := base) F6 (PySem.W.mg_none_of X G z_len) (PySem.W.mg_none_of X G z_abs) (PySem.W.mg_none_of X G z_int)
  have C6 : Callee l.prog w K mg base 1 f6 _ "_law_draw" _ (sp__law_draw K) := ⟨O6, k6, B6, PySem.W.mg_of X G a6⟩
  have O7 := ok__law_pick (P := l.prog) (w := w) (mg := mg) (base := base) F7 C6 (PySem.W.mg_none_of X G z_len)
  have C7 : Callee l.prog w K mg base 2 f7 _ "_law_pick" _ (sp__law_pick K) := ⟨O7, k7, B7, PySem.W.mg_of X G a7⟩
  have O8 := ok__law_integer (P := l.prog) (w := w) (mg := mg) (base := base) F8 (PySem.W.mg_none_of X G z_isinstance) (PySem.W.mg_none_of X G z_int) (PySem.W.mg_none_of X G z_bool)
  have C8 : Callee l.prog w K mg base 1 f8 _ "_law_integer" _ (sp__law_integer K) := ⟨O8, k8, B8, PySem.W.mg_of X G a8⟩
  have O9 := ok__law_run_kind (P := l.prog) (w := w) (mg := mg) (base := base) F9 (PySem.W.mg_none_of X G z_len)
  have C9 : Callee l.prog w K mg base 1 f9 _ "_law_run_kind" _ (sp__law_run_kind K) := ⟨O9, k9, B9, PySem.W.mg_of X G a9⟩
  have O10 := ok__law_drawn_run (P := l.prog) (w := w) (mg := mg) (base := base) F10 C6 C7 (PySem.W.mg_none_of X G z_str) (PySem.W.mg_none_of X G z_range)
  have C10 : Callee l.prog w K mg base 3 f10 _ "_law_drawn_run" _ (sp__law_drawn_run K) := ⟨O10, k10, B10, PySem.W.mg_of X G a10⟩
  have O11 := ok__law_piece (P := l.prog) (w := w) (mg := mg) (base := base) F11 C9 C6 C7 C10
  have C11 : Callee l.prog w K mg base 4 f11 _ "_law_piece" _ (sp__law_piece K) := ⟨O11, k11, B11, PySem.W.mg_of X G a11⟩
  have O12 := ok__law_gap (P := l.prog) (w := w) (mg := mg) (base := base) F12 C6
  have C12 : Callee l.prog w K mg base 2 f12 _ "_law_gap" _ (sp__law_gap K) := ⟨O12, k12, B12, PySem.W.mg_of X G a12⟩
  have O13 := ok__law_need (P := l.prog) (w := w) (mg := mg) (base := base) F13
  have C13 : Callee l.prog w K mg base 1 f13 _ "_law_need" _ (sp__law_need K) := ⟨O13, k13, B13, PySem.W.mg_of X G a13⟩
  have O14 := ok__law_moved (P := l.prog) (w := w) (mg := mg) (base := base) F14
  have C14 : Callee l.prog w K mg base 1 f14 _ "_law_moved" _ (sp__law_moved K) := ⟨O14, k14, B14, PySem.W.mg_of X G a14⟩
  have O15 := ok__law_laid (P := l.prog) (w := w) (mg := mg) (base := base) F15 C12 C14 C13 (PySem.W.mg_none_of X G z_range) (PySem.W.mg_none_of X G z_len)
  have C15 : Callee l.prog w K mg base 3 f15 _ "_law_laid" _ (sp__law_laid K) := ⟨O15, k15, B15, PySem.W.mg_of X G a15⟩
  have O16 := ok__law_same (P := l.prog) (w := w) (mg := mg) (base := base) F16 C8 (PySem.W.mg_none_of X G z_isinstance) (PySem.W.mg_none_of X G z_list) (PySem.W.mg_none_of X G z_len) (PySem.W.mg_none_of X G z_range) (PySem.W.mg_none_of X G z_tuple) (PySem.W.mg_none_of X G z_str)
  have C16 : Callee l.prog w K mg base 2 f16 _ "_law_same" _ (sp__law_same K) := ⟨O16, k16, B16, PySem.W.mg_of X G a16⟩
  have O17 := ok_law (P := l.prog) (w := w) (mg := mg) (base := base) F17 C5 C6 C11 C9 C7 C15 C4 C16 (PySem.W.mg_none_of X G z_range) (PySem.W.mg_none_of X G z_len)
  exact O17
end Lk10
open PySem PySem.W PyProof.Rows
set_option maxRecDepth 100000 in
set_option maxHeartbeats 0 in
theorem PySem.Challenge.cw_sameruns_k10_tokens_holds : PySem.Challenge.rw_sameruns_k10_tokens.Holds := by
  w_on; o_law; k_head; (case hw => w_witness2)
  k_fill
  refine L2.walk_of (l := PySem.Challenge.rw_sameruns_k10_tokens) (n := 63) (k := 5) (x := "script") (CX := fun _ => L2.CX0) (sp := fun w => Lk10.sp_law _) rfl (by decide) rfl ⟨rfl, by decide, by decide⟩ (fun w h Y => PySem.W.kIn_of Y) ?F (fun _ _ a ns hl _ hS => ⟨a, ns, rfl, hS, hl, fun _ => rfl⟩) (fun _ _ _ _ _ h => h)
  case F =>
    intro w mg fa h KX G hmg
    refine' Lk10.all_mk KX G hmg ?a0 ?l0 ?c0 ?k0 ?a1 ?l1 ?c1 ?k1 ?a2 ?l2 ?c2 ?k2 ?a3 ?l3 ?c3 ?k3 ?a4 ?l4 ?c4 ?k4 ?a5 ?l5 ?c5 ?k5 ?a6 ?l6 ?c6 ?k6 ?a7 ?l7 ?c7 ?k7 ?a8 ?l8 ?c8 ?k8 ?a9 ?l9 ?c9 ?k9 ?a10 ?l10 ?c10 ?k10 ?a11 ?l11 ?c11 ?k11 ?a12 ?l12 ?c12 ?k12 ?a13 ?l13 ?c13 ?k13 ?a14 ?l14 ?c14 ?k14 ?a15 ?l15 ?c15 ?k15 ?a16 ?l16 ?c16 ?k16 ?a17 ?l17 ?c17 ?k17 ?z_len ?z_all ?z_int ?z_list ?z_abs ?z_isinstance ?z_bool ?z_str ?z_range ?z_tuple ?z_LONGEST_NAME ?z_SMALL_LETTERS ?z_NAME_MARKS ?z_RESERVED ?y_RESERVED ?x_RESERVED ?w_RESERVED ?z_MOST_DIGITS ?z_DIGITS ?z_GREATEST ?z_RUN_MARKS ?z_DOUBLE_SIGNS ?y_DOUBLE_SIGNS ?x_DOUBLE_SIGNS ?w_DOUBLE_SIGNS ?z_SINGLE_SIGNS
    (case a0 => k_is); (case l0 => k_is); (case c0 => k_is); (case k0 => k_is); (case a1 => k_is); (case l1 => k_is); (case c1 => k_is); (case k1 => k_is); (case a2 => k_is); (case l2 => k_is); (case c2 => k_is); (case k2 => k_is); (case a3 => k_is); (case l3 => k_is); (case c3 => k_is); (case k3 => k_is); (case a4 => k_is); (case l4 => k_is); (case c4 => k_is); (case k4 => k_is); (case a5 => k_is); (case l5 => k_is); (case c5 => k_is); (case k5 => k_is); (case a6 => k_is); (case l6 => k_is); (case c6 => k_is); (case k6 => k_is); (case a7 => k_is); (case l7 => k_is); (case c7 => k_is); (case k7 => k_is); (case a8 => k_is); (case l8 => k_is); (case c8 => k_is); (case k8 => k_is); (case a9 => k_is); (case l9 => k_is); (case c9 => k_is); (case k9 => k_is); (case a10 => k_is); (case l10 => k_is); (case c10 => k_is); (case k10 => k_is); (case a11 => k_is); (case l11 => k_is); (case c11 => k_is); (case k11 => k_is); (case a12 => k_is); (case l12 => k_is); (case c12 => k_is); (case k12 => k_is); (case a13 => k_is); (case l13 => k_is); (case c13 => k_is); (case k13 => k_is); (case a14 => k_is); (case l14 => k_is); (case c14 => k_is); (case k14 => k_is); (case a15 => k_is); (case l15 => k_is); (case c15 => k_is); (case k15 => k_is); (case a16 => k_is); (case l16 => k_is); (case c16 => k_is); (case k16 => k_is); (case a17 => k_is); (case l17 => k_is); (case c17 => k_is); (case k17 => k_is); (case z_len => k_is); (case z_all => k_is); (case z_int => k_is); (case z_list => k_is); (case z_abs => k_is); (case z_isinstance => k_is); (case z_bool => k_is); (case z_str => k_is); (case z_range => k_is); (case z_tuple => k_is); (case z_LONGEST_NAME => k_is); (case z_SMALL_LETTERS => k_is); (case z_NAME_MARKS => k_is); (case z_RESERVED => k_is); (case y_RESERVED => k_is); (case x_RESERVED => decide); (case w_RESERVED => (repeat' (first | exact .nil | refine .cons ⟨_, rfl⟩ ?_))); (case z_MOST_DIGITS => k_is); (case z_DIGITS => k_is); (case z_GREATEST => k_is); (case z_RUN_MARKS => k_is); (case z_DOUBLE_SIGNS => k_is); (case y_DOUBLE_SIGNS => k_is); (case x_DOUBLE_SIGNS => decide); (case w_DOUBLE_SIGNS => (repeat' (first | exact .nil | refine .cons ⟨_, rfl⟩ ?_))); (case z_SINGLE_SIGNS => k_is)
