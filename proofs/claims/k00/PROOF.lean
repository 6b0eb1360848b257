import PyProof.Rows.All
import Wide.All
import OpenK.AllK
import Wide.FinOn
import HandS.ForMost
import HandS.Wide
import HandS.IsInst
import PySem.Challenge.RW_sameruns_k00_wrap
set_option Elab.async false
set_option linter.all false
set_option maxRecDepth 100000
set_option maxHeartbeats 4000000
namespace Lk00
open PySem PySem.Spec PyProof.Rows L2
def topS (i : Nat) : Stmt := PySem.Challenge.pw_sameruns_k00_wrap.main.body.getD i (.Pass ⟨0, 0, 0, 0⟩)
abbrev s_wrap : Stmt := topS 3
abbrev N_wrap : List Str := ["n"]
theorem sc_wrap : FnScope ["n"] ["n"] (defScope s_wrap) := ⟨rfl, rfl, rfl, by decide +kernel, rfl, by decide +kernel, by decide +kernel⟩
abbrev s_unsigned : Stmt := topS 4
abbrev N_unsigned : List Str := ["word"]
theorem sc_unsigned : FnScope ["word"] ["word"] (defScope s_unsigned) := ⟨rfl, rfl, rfl, by decide +kernel, rfl, by decide +kernel, by decide +kernel⟩
abbrev s__law_pool : Stmt := topS 6
abbrev N__law_pool : List Str := ["script"]
theorem sc__law_pool : FnScope ["script"] ["script"] (defScope s__law_pool) := ⟨rfl, rfl, rfl, by decide +kernel, rfl, by decide +kernel, by decide +kernel⟩
abbrev s__law_draw : Stmt := topS 7
abbrev N__law_draw : List Str := ["pool", "many", "digit"]
theorem sc__law_draw : FnScope ["pool", "many", "digit"] ["pool", "many"] (defScope s__law_draw) := ⟨rfl, rfl, rfl, by decide +kernel, rfl, by decide +kernel, by decide +kernel⟩
abbrev s__law_whole : Stmt := topS 8
abbrev N__law_whole : List Str := ["pool", "far", "kind", "marked", "near"]
theorem sc__law_whole : FnScope ["pool", "far", "kind", "marked", "near"] ["pool", "far"] (defScope s__law_whole) := ⟨rfl, rfl, rfl, by decide +kernel, rfl, by decide +kernel, by decide +kernel⟩
abbrev s__law_integer : Stmt := topS 9
abbrev N__law_integer : List Str := ["x"]
theorem sc__law_integer : FnScope ["x"] ["x"] (defScope s__law_integer) := ⟨rfl, rfl, rfl, by decide +kernel, rfl, by decide +kernel, by decide +kernel⟩
abbrev s__law_word_of : Stmt := topS 10
abbrev N__law_word_of : List Str := ["said", "x"]
theorem sc__law_word_of : FnScope ["said", "x"] ["said", "x"] (defScope s__law_word_of) := ⟨rfl, rfl, rfl, by decide +kernel, rfl, by decide +kernel, by decide +kernel⟩
abbrev s__law_one : Stmt := topS 11
abbrev N__law_one : List Str := ["x", "said", "plus", "one"]
theorem sc__law_one : FnScope ["x", "said", "plus", "one"] ["x"] (defScope s__law_one) := ⟨rfl, rfl, rfl, by decide +kernel, rfl, by decide +kernel, by decide +kernel⟩
abbrev s_law : Stmt := topS 12
abbrev N_law : List Str := ["script", "pool", "m", "n", "p", "q", "x"]
theorem sc_law : FnScope ["script", "pool", "m", "n", "p", "q", "x"] ["script"] (defScope s_law) := ⟨rfl, rfl, rfl, by decide +kernel, rfl, by decide +kernel, by decide +kernel⟩
/-- a def of the text that keeps its promise, for who calls it -/
structure Callee (P : Program) (w : World) (K : PySem.W.Frag) (mg : Str → Option Value) (base : Heap) (k : Nat) (f : Addr) (fd : FuncData) (nm : Str) (ps : List Str) (sp : Sp) : Prop where
  ok : FnOk P w K mg base CX0 k f fd ps sp
  kp : PySem.W.keepIn K (.ref f) = true
  b : Binds K fd ps []
  g : mg nm = some (.ref f)
section
variable {P : Program} {w : World} {K : PySem.W.Frag} {mg : Str → Option Value} {base : Heap}
theorem iteD {p A B : Prop} [Decidable p] (h1 : p → A) (h2 : ¬ p → B) : if decide p = true then A else B := by
  by_cases h : p
  · rw [decide_eq_true h]; exact iteT (h1 h)
  · rw [decide_eq_false h]; exact iteF (h2 h)
theorem iteDn {p A B : Prop} [Decidable p] (h1 : ¬ p → A) (h2 : p → B) : if (!decide p) = true then A else B := by
  by_cases h : p
  · rw [decide_eq_true h]; exact iteF (h2 h)
  · rw [decide_eq_false h]; exact iteT (h1 h)
theorem dec_t {p : Prop} [Decidable p] {Q : VK} {H : Hp} (h : p) (q : Q (.bl true) H) : Q (.bl (decide p)) H := by
  rw [decide_eq_true h]; exact q
theorem same_upd {H : Hp} {p : Addr} {o : HO} (h : H p = none) : Same H (upd H p o) := fun b x e => by
  rw [upd_ne (ne_of_none e h)]
  exact e
/-- all but the pool is as it was -/
def But (p : Addr) (H H' : Hp) : Prop := ∀ b o, H b = some o → b ≠ p → H' b = some o
theorem But.same {p : Addr} {H H1 H2 : Hp} (a : But p H H1) (b : Same H1 H2) : But p H H2 := fun c o e n => b c o (a c o e n)
theorem But.trans {p : Addr} {H H1 H2 : Hp} (a : But p H H1) (b : But p H1 H2) : But p H H2 := fun c o e n => b c o (a c o e n) n
theorem But.upd {p : Addr} {H H1 : Hp} {o : HO} (a : But p H H1) : But p H (upd H1 p o) := fun c u e n => by
  rw [upd_ne n]; exact a c u e n
def Pool (H : Hp) (p : Addr) : Prop := ∃ (q : Addr) (ns : List Int) (i d c : Int), p ≠ q ∧ H p = some (.lst [.ref q, .int i, .int d, .int c]) ∧ H q = some (.lst (ns.map V.int)) ∧ 0 ≤ i ∧ ns.length ≤ 1000 ∧ 0 ≤ d ∧ 0 ≤ c
theorem Pool.same {H H' : Hp} {p : Addr} (h : Pool H p) (s : Same H H') : Pool H' p := by
  obtain ⟨q, ns, i, d, c, h1, h2, h3, h4⟩ := h
  exact ⟨q, ns, i, d, c, h1, s _ _ h2, s _ _ h3, h4⟩
theorem log2_lt {n : Nat} (h : n < 2 ^ 100) : n.log2 < 9000 := by
  by_cases h0 : n = 0
  · subst h0; decide
  · have := (Nat.log2_lt h0).mpr h
    omega
theorem divW {i j : Int} (h0 : 0 < j) (h1 : j < 1000000000000000000000000000000) : CDivW i j := ⟨h0, log2_lt (by omega)⟩
/-- a word -/
def wd (n : Int) : Prop := -2147483648 ≤ n ∧ n ≤ 2147483647
theorem set_same {σ : L2.St} {k : Nat} (h : k < σ.length) : ∃ v, σ = σ.set k v := ⟨σ[k], by rw [List.set_getElem_self]⟩
/-- a for over a list, whose turn changes but its own name among the slots -/
theorem for_list1 {K : PySem.W.Frag} {a : Addr} {xs : List V} {tb : TS} {D : Ends} {σ0 : L2.St} {H : Hp} (k : Nat) (hk : k < σ0.length) (I : Nat → Hp → Prop) (h0 : I 0 H) (hl : ∀ i H, i ≤ xs.length → I i H → SqL K H a xs)
    (hs : ∀ i x H, xs[i]? = some x → I i H → tb { D with nx := fun σ' H' => (∃ v, σ' = σ0.set k v) ∧ I (i + 1) H', ct := fun σ' H' => (∃ v, σ' = σ0.set k v) ∧ I (i + 1) H', bk := D.nx } (σ0.set k (some x)) H)
    (hd : ∀ v H, I xs.length H → D.nx (σ0.set k v) H) :
    ∃ W : Nat → Nat → L2.St → Hp → Prop, (∃ m, W 0 m σ0 H) ∧ ∀ i m σ H, W i m σ H →
      ((Itl K a).stop i H ∧ D.nx σ H) ∨ ((Itl K a).go i H ∧ ∃ N : L2.St → Hp → Prop, (∀ σ' H', N σ' H' → ∃ m', m' < m ∧ W (i + 1) m' σ' H') ∧ ∀ x H', (Itl K a).yld i H x H' → gName k x σ H' fun σ2 H2 => tb { D with nx := N, ct := N, bk := D.nx } σ2 H2) := by
  refine for_list (K := K) (a := a) (xs := xs) (g := gName k) (tb := tb) (D := D) (fun i σ H => (∃ v, σ = σ0.set k v) ∧ I i H) ⟨set_same hk, h0⟩ (fun i σ H h1 h2 => hl i H h1 h2.2) ?_ ?_
  · rintro i x σ H hx ⟨⟨v, rfl⟩, h⟩
    have q := hs i x H hx h
    show tb _ ((σ0.set k v).set k (some x)) H
    rw [List.set_set]
    exact q
  · rintro σ H ⟨⟨v, rfl⟩, h⟩
    exact hd v H h
theorem keep {H : Hp} {p q : Addr} {o u : HO} (h : H q = some u) (n : H p = none) : upd H p o q = some u := by
  rw [upd_ne (ne_of_none h n)]; exact h
/-- a for over a list of pairs, whose turn changes but its own two names among the slots -/
theorem for_list2 {K : PySem.W.Frag} {a : Addr} {xs : List V} {tb : TS} {D : Ends} {σ0 : L2.St} {H : Hp} (i j : Nat) (hi : i < σ0.length) (hj : j < σ0.length) (hij : i ≠ j) (I : Nat → Hp → Prop) (h0 : I 0 H) (hl : ∀ n H, n ≤ xs.length → I n H → SqL K H a xs)
    (hs : ∀ n x H, xs[n]? = some x → I n H → ∃ t u w, x = .ref t ∧ SqT K H t [u, w] ∧ tb { D with nx := fun σ' H' => (∃ v w, σ' = (σ0.set i v).set j w) ∧ I (n + 1) H', ct := fun σ' H' => (∃ v w, σ' = (σ0.set i v).set j w) ∧ I (n + 1) H', bk := D.nx } ((σ0.set i (some u)).set j (some w)) H)
    (hd : ∀ v w H, I xs.length H → D.nx ((σ0.set i v).set j w) H) :
    ∃ W : Nat → Nat → L2.St → Hp → Prop, (∃ m, W 0 m σ0 H) ∧ ∀ n m σ H, W n m σ H →
      ((Itl K a).stop n H ∧ D.nx σ H) ∨ ((Itl K a).go n H ∧ ∃ N : L2.St → Hp → Prop, (∀ σ' H', N σ' H' → ∃ m', m' < m ∧ W (n + 1) m' σ' H') ∧ ∀ x H', (Itl K a).yld n H x H' → gTup K 2 (gCons (gName i) (gCons (gName j) gNil)) x σ H' fun σ2 H2 => tb { D with nx := N, ct := N, bk := D.nx } σ2 H2) := by
  have st : ∃ v w, σ0 = (σ0.set i v).set j w := ⟨σ0[i], σ0[j], by rw [List.set_getElem_self, List.set_getElem_self]⟩
  have e : ∀ v w v' w', (((σ0.set i v).set j w).set i v').set j w' = (σ0.set i v').set j w' := fun v w v' w' => by
    rw [List.set_comm _ _ hij.symm, List.set_set, List.set_set]
  refine for_list (K := K) (a := a) (xs := xs) (g := gTup K 2 (gCons (gName i) (gCons (gName j) gNil))) (tb := tb) (D := D) (fun i' σ H => (∃ v w, σ = (σ0.set i v).set j w) ∧ I i' H) ⟨st, h0⟩ (fun i σ H h1 h2 => hl i H h1 h2.2) ?_ ?_
  · rintro n x σ H hx ⟨⟨v, w, rfl⟩, h⟩
    obtain ⟨t, u, z, rfl, hT, q⟩ := hs n x H hx h
    refine ⟨t, _, rfl, hT, rfl, u, _, rfl, z, _, rfl, rfl, ?_⟩
    show tb _ ((((σ0.set i v).set j w).set i (some u)).set j (some z)) H
    rw [e]
    exact q
  · rintro σ H ⟨⟨v, w, rfl⟩, h⟩
    exact hd v w H h

theorem cong_q {x y : Int} {Q : VK} {H : Hp} (e : x = y) (q : Q (.int y) H) : Q (.int x) H := by subst e; exact q
theorem wrap_mul (p q : Int) : ((((p + 2147483648) % 4294967296 - 2147483648) * ((q + 2147483648) % 4294967296 - 2147483648) + 2147483648) % 4294967296 - 2147483648 - p * q) % 4294967296 = 0 := by
  have ha : p = ((p + 2147483648) % 4294967296 - 2147483648) + 4294967296 * ((p + 2147483648) / 4294967296) := by omega
  have hb : q = ((q + 2147483648) % 4294967296 - 2147483648) + 4294967296 * ((q + 2147483648) / 4294967296) := by omega
  generalize (p + 2147483648) % 4294967296 - 2147483648 = x at *
  generalize (q + 2147483648) % 4294967296 - 2147483648 = y at *
  generalize (p + 2147483648) / 4294967296 = a at *
  generalize (q + 2147483648) / 4294967296 = b at *
  subst ha hb
  have e : (x + 4294967296 * a) * (y + 4294967296 * b) = x * y + 4294967296 * (x * b + a * y + 4294967296 * (a * b)) := by
    simp only [Int.add_mul, Int.mul_add, Int.mul_assoc, Int.mul_left_comm x 4294967296 b, Int.mul_left_comm a 4294967296 b]
    omega
  rw [e]
  omega
def sp_wrap (K : PySem.W.Frag) : Sp := fun vs H Q _ => ∃ n : Int, vs = [.int n] ∧ Q (.int ((n + 2147483648) % 4294967296 - 2147483648)) H
theorem ok_wrap {f : Addr} {fd : FuncData} (F : Fun K "wrap" "wrap" s_wrap f fd) (g_LEAST : ∃ t, mg "LEAST" = some (.int (-2147483648) t)) : FnOk P w K mg base CX0 (1) f fd ["n"] (sp_wrap K) := by
  refine F.ok sc_wrap (fun vs H Q E h => ?_) (fun cdv A outer s H vs Q E hr h => ?_)
  · first | (obtain ⟨rfl, _⟩ := h; rfl) | (obtain ⟨_, rfl, _⟩ := h; rfl) | (obtain ⟨_, _, rfl, _⟩ := h; rfl) | (obtain ⟨_, _, _, rfl, _⟩ := h; rfl) | (obtain ⟨_, _, _, _, rfl, _⟩ := h; rfl) | (obtain ⟨_, _, _, _, _, rfl, _⟩ := h; rfl) | (obtain ⟨_, _, _, _, _, _, rfl, _⟩ := h; rfl) | (obtain ⟨_, _, _, _, _, _, _, rfl, _⟩ := h; rfl) | (obtain ⟨_, _, _, _, _, _, _, _, rfl, _⟩ := h; rfl) | (obtain ⟨_, _, _, _, _, _, _, _, _, rfl, _⟩ := h; rfl) | (obtain ⟨_, _, _, _, _, _, _, _, _, _, rfl, _⟩ := h; rfl) | (obtain ⟨_, _, _, _, _, _, _, _, _, _, _, rfl, _⟩ := h; rfl) | (obtain ⟨_, _, _, _, _, _, _, _, _, _, _, _, rfl, _⟩ := h; rfl) | (obtain ⟨_, _, _, _, _, _, _, _, _, _, _, _, _, rfl, _⟩ := h; rfl) | (obtain ⟨_, _, _, _, _, _, _, _, _, _, _, _, _, _, rfl, _⟩ := h; rfl) | (obtain ⟨_, _, _, _, _, _, _, _, _, _, _, _, _, _, _, rfl, _⟩ := h; rfl) | (obtain ⟨_, _, _, _, _, _, _, _, _, _, _, _, _, _, _, _, rfl, _⟩ := h; rfl) | (obtain ⟨_, _, _, _, _, _, _, _, _, _, _, _, _, _, _, _, _, rfl, _⟩ := h; rfl)
  · have hu := hu_of hr
    obtain ⟨t_LEAST, g_LEAST⟩ := g_LEAST

    refine ⟨_, (pss_one (ps_ret (pe_op op_add (pe_op op_mod (pe_op op_sub (pv 0) (pe_glob (v := (.int (-2147483648))) (by rfl) g_LEAST ⟨_, rfl⟩)) pe_int) (pe_glob (v := (.int (-2147483648))) (by rfl) g_LEAST ⟨_, rfl⟩)))), ?_⟩
    obtain ⟨n, rfl, q⟩ := h
    refine ⟨_, rfl, _, _, rfl, rfl, _, _, rfl, rfl, (by show (0 : Int) < 4294967296; decide), _, _, rfl, rfl, ?_⟩
    exact cong_q (Q := Q) (by omega) q
def sp_unsigned (K : PySem.W.Frag) : Sp := fun vs H Q _ => ∃ n : Int, vs = [.int n] ∧ Q (.int (n % 4294967296)) H
theorem ok_unsigned {f : Addr} {fd : FuncData} (F : Fun K "unsigned" "unsigned" s_unsigned f fd) : FnOk P w K mg base CX0 (1) f fd ["word"] (sp_unsigned K) := by
  refine F.ok sc_unsigned (fun vs H Q E h => ?_) (fun cdv A outer s H vs Q E hr h => ?_)
  · first | (obtain ⟨rfl, _⟩ := h; rfl) | (obtain ⟨_, rfl, _⟩ := h; rfl) | (obtain ⟨_, _, rfl, _⟩ := h; rfl) | (obtain ⟨_, _, _, rfl, _⟩ := h; rfl) | (obtain ⟨_, _, _, _, rfl, _⟩ := h; rfl) | (obtain ⟨_, _, _, _, _, rfl, _⟩ := h; rfl) | (obtain ⟨_, _, _, _, _, _, rfl, _⟩ := h; rfl) | (obtain ⟨_, _, _, _, _, _, _, rfl, _⟩ := h; rfl) | (obtain ⟨_, _, _, _, _, _, _, _, rfl, _⟩ := h; rfl) | (obtain ⟨_, _, _, _, _, _, _, _, _, rfl, _⟩ := h; rfl) | (obtain ⟨_, _, _, _, _, _, _, _, _, _, rfl, _⟩ := h; rfl) | (obtain ⟨_, _, _, _, _, _, _, _, _, _, _, rfl, _⟩ := h; rfl) | (obtain ⟨_, _, _, _, _, _, _, _, _, _, _, _, rfl, _⟩ := h; rfl) | (obtain ⟨_, _, _, _, _, _, _, _, _, _, _, _, _, rfl, _⟩ := h; rfl) | (obtain ⟨_, _, _, _, _, _, _, _, _, _, _, _, _, _, rfl, _⟩ := h; rfl) | (obtain ⟨_, _, _, _, _, _, _, _, _, _, _, _, _, _, _, rfl, _⟩ := h; rfl) | (obtain ⟨_, _, _, _, _, _, _, _, _, _, _, _, _, _, _, _, rfl, _⟩ := h; rfl) | (obtain ⟨_, _, _, _, _, _, _, _, _, _, _, _, _, _, _, _, _, rfl, _⟩ := h; rfl)
  · have hu := hu_of hr

    refine ⟨_, (pss_one (ps_ret (pe_op op_mod (pv 0) pe_int))), ?_⟩
    obtain ⟨n, rfl, q⟩ := h
    exact ⟨_, rfl, _, _, rfl, rfl, (by show (0 : Int) < 4294967296; decide), q⟩
def sp__law_pool (K : PySem.W.Frag) : Sp := fun vs H Q _ => ∃ (a : Addr) (ns : List Int), vs = [.ref a] ∧ SqL K H a (ns.map V.int) ∧ ns.length ≤ 63 ∧ ∀ H' p, Same H H' → H p = none → Pool H' p → Q (.ref p) H'
theorem ok__law_pool {f : Addr} {fd : FuncData} (F : Fun K "_law_pool" "_law_pool" s__law_pool f fd) (b_list : mg "list" = none) : FnOk P w K mg base CX0 (1) f fd ["script"] (sp__law_pool K) := by
  refine F.ok sc__law_pool (fun vs H Q E h => ?_) (fun cdv A outer s H vs Q E hr h => ?_)
  · first | (obtain ⟨rfl, _⟩ := h; rfl) | (obtain ⟨_, rfl, _⟩ := h; rfl) | (obtain ⟨_, _, rfl, _⟩ := h; rfl) | (obtain ⟨_, _, _, rfl, _⟩ := h; rfl) | (obtain ⟨_, _, _, _, rfl, _⟩ := h; rfl) | (obtain ⟨_, _, _, _, _, rfl, _⟩ := h; rfl) | (obtain ⟨_, _, _, _, _, _, rfl, _⟩ := h; rfl) | (obtain ⟨_, _, _, _, _, _, _, rfl, _⟩ := h; rfl) | (obtain ⟨_, _, _, _, _, _, _, _, rfl, _⟩ := h; rfl) | (obtain ⟨_, _, _, _, _, _, _, _, _, rfl, _⟩ := h; rfl) | (obtain ⟨_, _, _, _, _, _, _, _, _, _, rfl, _⟩ := h; rfl) | (obtain ⟨_, _, _, _, _, _, _, _, _, _, _, rfl, _⟩ := h; rfl) | (obtain ⟨_, _, _, _, _, _, _, _, _, _, _, _, rfl, _⟩ := h; rfl) | (obtain ⟨_, _, _, _, _, _, _, _, _, _, _, _, _, rfl, _⟩ := h; rfl) | (obtain ⟨_, _, _, _, _, _, _, _, _, _, _, _, _, _, rfl, _⟩ := h; rfl) | (obtain ⟨_, _, _, _, _, _, _, _, _, _, _, _, _, _, _, rfl, _⟩ := h; rfl) | (obtain ⟨_, _, _, _, _, _, _, _, _, _, _, _, _, _, _, _, rfl, _⟩ := h; rfl) | (obtain ⟨_, _, _, _, _, _, _, _, _, _, _, _, _, _, _, _, _, rfl, _⟩ := h; rfl)
  · have hu := hu_of hr

    refine ⟨_, (pss_one (ps_ret (pe_lst (pa_cons (pe_callTy (call_list_of) (by rfl) b_list (by decide +kernel) (pa_cons (pe_slice sl_list (pv 0) po_none (po_some pe_int)) pa_nil)) (pa_cons pe_int (pa_cons pe_int (pa_cons pe_int pa_nil))))))), ?_⟩
    obtain ⟨a, ns, rfl, hS, hl, q⟩ := h
    refine ⟨_, rfl, _, rfl, _, _, rfl, hS, fun p1 np1 => ?_⟩
    refine ⟨_, _, rfl, .inl (.inl (.inl upd_same)), fun p2 np2 => ?_⟩
    refine ⟨(by show (4 : Nat) ≤ sizeLine; decide), fun p3 np3 => ?_⟩
    have S1 := same_upd (o := .lst (cutV (ns.map V.int) none (some 63))) np1
    have S2 := S1.trans (same_upd (o := .lst (cutV (ns.map V.int) none (some 63))) np2)
    have S3 := S2.trans (same_upd (o := .lst [V.ref p2, V.int 0, V.int 0, V.int 11]) np3)
    have n32 : p2 ≠ p3 := ne_of_none upd_same np3
    refine q _ p3 S3 (S2.free np3) ⟨p2, (ns.drop (HT.sIx (ns.map V.int).length 0 none)).take (HT.sIx (ns.map V.int).length (ns.map V.int).length (some 63) - HT.sIx (ns.map V.int).length 0 none), 0, 0, 11, Ne.symm n32, upd_same, ?_, by decide, ?_, by decide, by decide⟩
    · rw [upd_ne n32, upd_same, List.map_take, List.map_drop]; rfl
    · rw [List.length_take, List.length_drop]; omega
def sp__law_draw (K : PySem.W.Frag) : Sp := fun vs H Q _ => ∃ (p : Addr) (many : Int), vs = [.ref p, .int many] ∧ 0 < many ∧ many < 1000000000000000000000000000000 ∧ Pool H p ∧ ∀ H' r, But p H H' → Pool H' p → 0 ≤ r → r < many → Q (.int r) H'
theorem ok__law_draw {f : Addr} {fd : FuncData} (F : Fun K "_law_draw" "_law_draw" s__law_draw f fd) (b_len : mg "len" = none) (b_abs : mg "abs" = none) (b_int : mg "int" = none) : FnOk P w K mg base CX0 (1) f fd ["pool", "many"] (sp__law_draw K) := by
  refine F.ok sc__law_draw (fun vs H Q E h => ?_) (fun cdv A outer s H vs Q E hr h => ?_)
  · first | (obtain ⟨rfl, _⟩ := h; rfl) | (obtain ⟨_, rfl, _⟩ := h; rfl) | (obtain ⟨_, _, rfl, _⟩ := h; rfl) | (obtain ⟨_, _, _, rfl, _⟩ := h; rfl) | (obtain ⟨_, _, _, _, rfl, _⟩ := h; rfl) | (obtain ⟨_, _, _, _, _, rfl, _⟩ := h; rfl) | (obtain ⟨_, _, _, _, _, _, rfl, _⟩ := h; rfl) | (obtain ⟨_, _, _, _, _, _, _, rfl, _⟩ := h; rfl) | (obtain ⟨_, _, _, _, _, _, _, _, rfl, _⟩ := h; rfl) | (obtain ⟨_, _, _, _, _, _, _, _, _, rfl, _⟩ := h; rfl) | (obtain ⟨_, _, _, _, _, _, _, _, _, _, rfl, _⟩ := h; rfl) | (obtain ⟨_, _, _, _, _, _, _, _, _, _, _, rfl, _⟩ := h; rfl) | (obtain ⟨_, _, _, _, _, _, _, _, _, _, _, _, rfl, _⟩ := h; rfl) | (obtain ⟨_, _, _, _, _, _, _, _, _, _, _, _, _, rfl, _⟩ := h; rfl) | (obtain ⟨_, _, _, _, _, _, _, _, _, _, _, _, _, _, rfl, _⟩ := h; rfl) | (obtain ⟨_, _, _, _, _, _, _, _, _, _, _, _, _, _, _, rfl, _⟩ := h; rfl) | (obtain ⟨_, _, _, _, _, _, _, _, _, _, _, _, _, _, _, _, rfl, _⟩ := h; rfl) | (obtain ⟨_, _, _, _, _, _, _, _, _, _, _, _, _, _, _, _, _, rfl, _⟩ := h; rfl)
  · have hu := hu_of hr

    refine ⟨_, (pss_cons (ps_while PassesOwn.never (PW.pt (pw_and (pt_cmp (pc_eqI (pe_ix ix_list (pv 0) pe_int (fun _ _ => rfl)) pe_int)) (pw_and1 (pt_cmp (pc_lt (pe_ix ix_list (pv 0) pe_int (fun _ _ => rfl)) (pe_callB (call_len_seq) (by rfl) b_len (by decide +kernel) (pa_cons (pe_ix ix_list (pv 0) pe_int (fun _ _ => rfl)) pa_nil))))))) (pss_cons (ps_asg (pe_callB (call_abs) (by rfl) b_abs (by decide +kernel) (pa_cons (pe_ix ix_list (pe_ix ix_list (pv 0) pe_int (fun _ _ => rfl)) (pe_ix ix_list (pv 0) pe_int (fun _ _ => rfl)) (fun _ _ => rfl)) pa_nil)) (pg_sub (pv 0) pe_int set_list))
      (pss_one (ps_asg (pe_op op_add (pe_ix ix_list (pv 0) pe_int (fun _ _ => rfl)) pe_int) (pg_sub (pv 0) pe_int set_list)))))
      (pss_cons (ps_if (pt_cmp (pc_eqI (pe_ix ix_list (pv 0) pe_int (fun _ _ => rfl)) pe_int)) (pss_cons (ps_asg (pe_op op_add (pe_ix ix_list (pv 0) pe_int (fun _ _ => rfl)) pe_int) (pg_sub (pv 0) pe_int set_list))
      (pss_one (ps_ret (pe_op op_mod (pe_callTy (call_int1) (by rfl) b_int (by decide +kernel) (pa_cons (pe_op op_fdiv (pe_ix ix_list (pv 0) pe_int (fun _ _ => rfl)) pe_int) pa_nil)) (pv 1))))) pss_nil)
      (pss_cons (ps_set (i := 2) sc__law_draw.nd rfl (.inl rfl) (pe_op op_mod (pe_callTy (call_int1) (by rfl) b_int (by decide +kernel) (pa_cons (pe_ix ix_list (pv 0) pe_int (fun _ _ => rfl)) pa_nil)) (pv 1)))
      (pss_cons (ps_asg (pe_op op_fdivW (pe_callTy (call_int1) (by rfl) b_int (by decide +kernel) (pa_cons (pe_ix ix_list (pv 0) pe_int (fun _ _ => rfl)) pa_nil)) (pv 1)) (pg_sub (pv 0) pe_int set_list))
      (pss_one (ps_ret (pv 2))))))), ?_⟩
    obtain ⟨p, many, rfl, m0, m1, ⟨q, ns, i0, d0, c0, npq, hp, hq, hi, hn, hd, hc⟩, k⟩ := h
    refine ⟨fun m σ H1 => ∃ i d c, σ = [some (.ref p), some (.int many), none] ∧ H1 p = some (.lst [.ref q, .int i, .int d, .int c]) ∧ But p H H1 ∧ 0 ≤ i ∧ 0 ≤ d ∧ 0 ≤ c ∧ m = ns.length - i.toNat, ⟨_, i0, d0, c0, rfl, hp, fun _ _ e _ => e, hi, hd, hc, rfl⟩, ?_⟩
    rintro m σ H1 ⟨i, d, c, rfl, hp1, bt, hi1, hd1, hc1, rfl⟩
    have hq1 : H1 q = some (.lst (ns.map V.int)) := bt _ _ hq (Ne.symm npq)
    have hpL : SqL K H1 p [.ref q, .int i, .int d, .int c] := .inl (.inl hp1)
    have hqL : SqL K H1 q (ns.map V.int) := .inl (.inl hq1)
    have A0 : atI [V.ref q, .int i, .int d, .int c] 0 = some (.ref q) := rfl
    have A1 : atI [V.ref q, .int i, .int d, .int c] 1 = some (.int i) := rfl
    have A2 : atI [V.ref q, .int i, .int d, .int c] 2 = some (.int d) := rfl
    have A3 : atI [V.ref q, .int i, .int d, .int c] 3 = some (.int c) := rfl
    refine ⟨_, rfl, _, _, _, _, rfl, rfl, hpL, A2, _, _, rfl, rfl, _, rfl, iteD (fun h1 => ?_) (fun h1 => ?_)⟩
    · subst h1
      refine ⟨_, rfl, _, _, _, _, rfl, rfl, hpL, A1, _, rfl, _, _, _, _, rfl, rfl, hpL, A0, _, _, rfl, .inl hqL, _, _, rfl, rfl, _, rfl, iteD (fun h2 => ?_) (fun h2 => ?_)⟩
      · have hlt : i.toNat < ns.length := by rw [List.length_map] at h2; omega
        have g : atI (ns.map V.int) i = some (.int ns[i.toNat]) := at_of (j := i.toNat) (by omega) (by rw [List.getElem?_map, List.getElem?_eq_getElem hlt]; rfl)
        refine ⟨fun σ' H' => ∃ d' c', σ' = [some (.ref p), some (.int many), none] ∧ H' p = some (.lst [.ref q, .int (i + 1), .int d', .int c']) ∧ But p H H' ∧ 0 ≤ d' ∧ 0 ≤ c', fun σ' H' hN => ?_, ?_⟩
        · obtain ⟨d', c', e1, e2, e3, e4, e5⟩ := hN
          exact ⟨_, by omega, i + 1, d', c', e1, e2, e3, by omega, e4, e5, rfl⟩
        refine ⟨_, rfl, _, _, _, _, rfl, rfl, hpL, A0, _, rfl, _, _, _, _, rfl, rfl, hpL, A1, _, _, _, _, rfl, rfl, hqL, g, _, rfl, _, rfl, _, _, _, _, rfl, rfl, hp1, rfl, _, rfl, _, _, _, _, rfl, rfl, .inl (.inl upd_same), A1, _, _, rfl, rfl, _, rfl, _, _, _, _, rfl, rfl, upd_same, rfl, ?_⟩
        refine ⟨_, c, rfl, upd_same, bt.upd.upd, ?_, hc1⟩
        split <;> omega
      · -- behind the loop
        refine ⟨_, rfl, _, _, _, _, rfl, rfl, hpL, A2, _, _, rfl, rfl, _, rfl, iteD (fun h3 => ?_) (fun h3 => absurd rfl h3)⟩
        refine ⟨_, rfl, _, _, _, _, rfl, rfl, hpL, A3, _, _, rfl, rfl, _, rfl, _, _, _, _, rfl, rfl, hp1, rfl, _, rfl, _, _, _, _, rfl, rfl, .inl (.inl upd_same), rfl, _, _, rfl, rfl, ⟨by decide, by decide⟩, .inl ⟨_, rfl, ?_⟩⟩
        refine ⟨_, rfl, _, _, rfl, rfl, m0, ?_⟩
        exact k _ _ bt.upd ⟨q, ns, i, 0, c + 7, npq, upd_same, by rw [upd_ne (Ne.symm npq)]; exact hq1, hi1, hn, by decide, by omega⟩ (Int.emod_nonneg _ (by omega)) (Int.emod_lt_of_pos _ m0)
    · refine iteF ?_
      -- behind the loop
      refine ⟨_, rfl, _, _, _, _, rfl, rfl, hpL, A2, _, _, rfl, rfl, _, rfl, iteD (fun h4 => absurd h4 h1) (fun h4 => ?_)⟩
      refine ⟨_, rfl, _, _, _, _, rfl, rfl, hpL, A2, .inl ⟨_, rfl, ?_⟩⟩
      refine ⟨_, rfl, _, _, rfl, rfl, m0, _, rfl, _, _, _, _, rfl, rfl, hpL, A2, .inl ⟨_, rfl, ?_⟩⟩
      refine ⟨_, rfl, _, _, rfl, rfl, divW m0 m1, _, rfl, _, _, _, _, rfl, rfl, hp1, rfl, _, rfl, ?_⟩
      exact k _ _ bt.upd ⟨q, ns, i, d / many, c, npq, upd_same, by rw [upd_ne (Ne.symm npq)]; exact hq1, hi1, hn, Int.ediv_nonneg hd1 (by omega), hc1⟩ (Int.emod_nonneg _ (by omega)) (Int.emod_lt_of_pos _ m0)

def sp__law_whole (K : PySem.W.Frag) : Sp := fun vs H Q _ => ∃ (p : Addr) (far : Int), vs = [.ref p, .int far] ∧ 0 < far ∧ far < 1000000000000000000000000000 ∧ Pool H p ∧ ∀ H' r, But p H H' → Pool H' p → -(far + 6442450946) ≤ r → r ≤ far + 6442450946 → Q (.int r) H'
theorem ok__law_whole {f : Addr} {fd : FuncData} (F : Fun K "_law_whole" "_law_whole" s__law_whole f fd) {f__law_draw : Addr} {fd__law_draw : FuncData} (C__law_draw : Callee P w K mg base 1 f__law_draw fd__law_draw "_law_draw" ["pool", "many"] (sp__law_draw K)) : FnOk P w K mg base CX0 (2) f fd ["pool", "far"] (sp__law_whole K) := by
  refine F.ok sc__law_whole (fun vs H Q E h => ?_) (fun cdv A outer s H vs Q E hr h => ?_)
  · first | (obtain ⟨rfl, _⟩ := h; rfl) | (obtain ⟨_, rfl, _⟩ := h; rfl) | (obtain ⟨_, _, rfl, _⟩ := h; rfl) | (obtain ⟨_, _, _, rfl, _⟩ := h; rfl) | (obtain ⟨_, _, _, _, rfl, _⟩ := h; rfl) | (obtain ⟨_, _, _, _, _, rfl, _⟩ := h; rfl) | (obtain ⟨_, _, _, _, _, _, rfl, _⟩ := h; rfl) | (obtain ⟨_, _, _, _, _, _, _, rfl, _⟩ := h; rfl) | (obtain ⟨_, _, _, _, _, _, _, _, rfl, _⟩ := h; rfl) | (obtain ⟨_, _, _, _, _, _, _, _, _, rfl, _⟩ := h; rfl) | (obtain ⟨_, _, _, _, _, _, _, _, _, _, rfl, _⟩ := h; rfl) | (obtain ⟨_, _, _, _, _, _, _, _, _, _, _, rfl, _⟩ := h; rfl) | (obtain ⟨_, _, _, _, _, _, _, _, _, _, _, _, rfl, _⟩ := h; rfl) | (obtain ⟨_, _, _, _, _, _, _, _, _, _, _, _, _, rfl, _⟩ := h; rfl) | (obtain ⟨_, _, _, _, _, _, _, _, _, _, _, _, _, _, rfl, _⟩ := h; rfl) | (obtain ⟨_, _, _, _, _, _, _, _, _, _, _, _, _, _, _, rfl, _⟩ := h; rfl) | (obtain ⟨_, _, _, _, _, _, _, _, _, _, _, _, _, _, _, _, rfl, _⟩ := h; rfl) | (obtain ⟨_, _, _, _, _, _, _, _, _, _, _, _, _, _, _, _, _, rfl, _⟩ := h; rfl)
  · have hu := hu_of hr

    refine ⟨_, (pss_cons (ps_set (i := 2) sc__law_whole.nd rfl (.inl rfl) (pe_call C__law_draw.ok (hr.mono (by omega)) (by rfl) C__law_draw.g C__law_draw.kp C__law_draw.b .nil pass0 (pa_cons (pv 0) (pa_cons pe_int pa_nil))))
      (pss_cons (ps_if (pt_cmp (pc_eqI (pv 2) pe_int)) (pss_one (ps_ret (pe_op op_sub (pe_call C__law_draw.ok (hr.mono (by omega)) (by rfl) C__law_draw.g C__law_draw.kp C__law_draw.b .nil pass0 (pa_cons (pv 0) (pa_cons pe_int pa_nil))) pe_int))) pss_nil)
      (pss_cons (ps_if (pt_cmp (pc_eqI (pv 2) pe_int)) (pss_one (ps_ret (pe_op op_sub (pe_call C__law_draw.ok (hr.mono (by omega)) (by rfl) C__law_draw.g C__law_draw.kp C__law_draw.b .nil pass0 (pa_cons (pv 0) (pa_cons (pe_op op_add (pe_op op_mul pe_int (pv 1)) pe_int) pa_nil))) (pv 1)))) pss_nil)
      (pss_cons (ps_set (i := 3) sc__law_whole.nd rfl (.inl rfl) (pe_lst (pa_cons pe_int (pa_cons pe_int (pa_cons pe_int (pa_cons pe_int (pa_cons (pe_op op_sub (pv 1) pe_int) pa_nil)))))))
      (pss_cons (ps_set (i := 4) sc__law_whole.nd rfl (.inl rfl) (pe_op op_sub (pe_op op_add (pe_ix ix_list (pv 3) (pe_call C__law_draw.ok (hr.mono (by omega)) (by rfl) C__law_draw.g C__law_draw.kp C__law_draw.b .nil pass0 (pa_cons (pv 0) (pa_cons pe_int pa_nil))) (fun _ _ => rfl)) (pe_call C__law_draw.ok (hr.mono (by omega)) (by rfl) C__law_draw.g C__law_draw.kp C__law_draw.b .nil pass0 (pa_cons (pv 0) (pa_cons pe_int pa_nil)))) pe_int))
      (pss_one (ps_ret (pe_ifExp (pt_cmp (pc_eqI (pv 2) pe_int)) (pv 4) (pe_op op_sub pe_int (pv 4)))))))))), ?_⟩
    obtain ⟨p, far, rfl, f0, f1, P, q⟩ := h
    refine ⟨_, rfl, _, _, rfl, by decide, by decide, P, fun H1 r1 bt1 P1 lo1 hi1 => ?_⟩
    refine ⟨_, rfl, _, _, rfl, rfl, _, rfl, iteD (fun h2 => ?_) (fun h2 => ?_)⟩
    · refine ⟨_, rfl, _, _, rfl, by decide, by decide, P1, fun H3 r3 bt3 P3 lo3 hi3 => ?_⟩
      refine ⟨_, _, rfl, rfl, ?_⟩
      exact q _ _ (bt1.trans bt3) P3 (by omega) (by omega)
    · refine ⟨_, rfl, _, _, rfl, rfl, _, rfl, iteD (fun h4 => ?_) (fun h4 => ?_)⟩
      · refine ⟨_, rfl, _, rfl, _, _, rfl, rfl, .inl ⟨by decide, by decide⟩, _, _, rfl, rfl, _, _, rfl, by omega, by omega, P1, fun H5 r5 bt5 P5 lo5 hi5 => ?_⟩
        refine ⟨_, rfl, _, _, rfl, rfl, ?_⟩
        exact q _ _ (bt1.trans bt5) P5 (by omega) (by omega)
      · refine ⟨_, rfl, _, _, rfl, rfl, (by show (5 : Nat) ≤ sizeLine; decide), fun p6 np6 => ?_⟩
        have S6 := same_upd (o := .lst ([0, 2147483648, 4294967296, 6442450944, far - 1].map V.int)) np6
        have n6 : p6 ≠ p := by
          obtain ⟨_, ns, i, d, c, h1, h2, h3, h4⟩ := P1
          exact (ne_of_none h2 np6).symm
        refine ⟨_, rfl, _, rfl, _, _, rfl, by decide, by decide, P1.same S6, fun H7 r7 bt7 P7 lo7 hi7 => ?_⟩
        have e7 := bt7 p6 _ upd_same n6
        have g : ∃ z, atI ([0, 2147483648, 4294967296, 6442450944, far - 1].map V.int) r7 = some (.int z) ∧ -1 ≤ z ∧ z ≤ far + 6442450944 := by
          have hh : r7 = 0 ∨ r7 = 1 ∨ r7 = 2 ∨ r7 = 3 ∨ r7 = 4 := by omega
          rcases hh with rfl | rfl | rfl | rfl | rfl <;> refine ⟨_, rfl, ?_, ?_⟩ <;> omega
        obtain ⟨z, gz, z0, z1⟩ := g
        refine ⟨_, _, _, _, rfl, rfl, .inl (.inl e7), gz, _, rfl, _, _, rfl, by decide, by decide, P7, fun H8 r8 bt8 P8 lo8 hi8 => ?_⟩
        refine ⟨_, _, rfl, rfl, _, _, rfl, rfl, _, rfl, _, _, rfl, rfl, _, rfl, iteD (fun h9 => ?_) (fun h9 => ?_)⟩
        · exact ⟨_, rfl, q _ _ (((bt1.same S6).trans bt7).trans bt8) P8 (by omega) (by omega)⟩
        · exact ⟨_, rfl, _, _, rfl, rfl, q _ _ (((bt1.same S6).trans bt7).trans bt8) P8 (by omega) (by omega)⟩
def sp__law_integer (K : PySem.W.Frag) : Sp := fun vs H Q _ => ∃ (x : Int), vs = [.int x] ∧ Q (.bl true) H
theorem ok__law_integer {f : Addr} {fd : FuncData} (F : Fun K "_law_integer" "_law_integer" s__law_integer f fd) (b_isinstance : mg "isinstance" = none) (b_int : mg "int" = none) (b_bool : mg "bool" = none) : FnOk P w K mg base CX0 (1) f fd ["x"] (sp__law_integer K) := by
  refine F.ok sc__law_integer (fun vs H Q E h => ?_) (fun cdv A outer s H vs Q E hr h => ?_)
  · first | (obtain ⟨rfl, _⟩ := h; rfl) | (obtain ⟨_, rfl, _⟩ := h; rfl) | (obtain ⟨_, _, rfl, _⟩ := h; rfl) | (obtain ⟨_, _, _, rfl, _⟩ := h; rfl) | (obtain ⟨_, _, _, _, rfl, _⟩ := h; rfl) | (obtain ⟨_, _, _, _, _, rfl, _⟩ := h; rfl) | (obtain ⟨_, _, _, _, _, _, rfl, _⟩ := h; rfl) | (obtain ⟨_, _, _, _, _, _, _, rfl, _⟩ := h; rfl) | (obtain ⟨_, _, _, _, _, _, _, _, rfl, _⟩ := h; rfl) | (obtain ⟨_, _, _, _, _, _, _, _, _, rfl, _⟩ := h; rfl) | (obtain ⟨_, _, _, _, _, _, _, _, _, _, rfl, _⟩ := h; rfl) | (obtain ⟨_, _, _, _, _, _, _, _, _, _, _, rfl, _⟩ := h; rfl) | (obtain ⟨_, _, _, _, _, _, _, _, _, _, _, _, rfl, _⟩ := h; rfl) | (obtain ⟨_, _, _, _, _, _, _, _, _, _, _, _, _, rfl, _⟩ := h; rfl) | (obtain ⟨_, _, _, _, _, _, _, _, _, _, _, _, _, _, rfl, _⟩ := h; rfl) | (obtain ⟨_, _, _, _, _, _, _, _, _, _, _, _, _, _, _, rfl, _⟩ := h; rfl) | (obtain ⟨_, _, _, _, _, _, _, _, _, _, _, _, _, _, _, _, rfl, _⟩ := h; rfl) | (obtain ⟨_, _, _, _, _, _, _, _, _, _, _, _, _, _, _, _, _, rfl, _⟩ := h; rfl)
  · have hu := hu_of hr

    refine ⟨_, (pss_one (ps_ret (pe_and (pe_callB call_isi (by rfl) b_isinstance (by decide +kernel) (pa_cons (pv 0) (pa_cons (pe_bltn (v := .ty "int") (by rfl) b_int (by decide +kernel) rfl) pa_nil))) (pe_one (pe_not (pe_callB call_isi (by rfl) b_isinstance (by decide +kernel) (pa_cons (pv 0) (pa_cons (pe_bltn (v := .ty "bool") (by rfl) b_bool (by decide +kernel) rfl) pa_nil)))))))), ?_⟩
    obtain ⟨x, rfl, q⟩ := h
    refine ⟨_, rfl, _, _, _, _, true, rfl, .ty "int", .base (.int _), kit_ty (by decide +kernel), _, rfl, iteT ?_⟩
    exact ⟨_, rfl, _, _, _, _, false, rfl, .ty "bool", .base (.int _), kit_ty (by decide +kernel), _, rfl, q⟩

def sp__law_word_of (K : PySem.W.Frag) : Sp := fun vs H Q _ => ∃ (s x : Int), vs = [.int s, .int x] ∧ (-2147483648 ≤ s ∧ s ≤ 2147483647 ∧ (s - x) % 4294967296 = 0) ∧ Q (.bl true) H
theorem ok__law_word_of {f : Addr} {fd : FuncData} (F : Fun K "_law_word_of" "_law_word_of" s__law_word_of f fd) {f__law_integer : Addr} {fd__law_integer : FuncData} (C__law_integer : Callee P w K mg base 1 f__law_integer fd__law_integer "_law_integer" ["x"] (sp__law_integer K)) (b_int : mg "int" = none) : FnOk P w K mg base CX0 (2) f fd ["said", "x"] (sp__law_word_of K) := by
  refine F.ok sc__law_word_of (fun vs H Q E h => ?_) (fun cdv A outer s H vs Q E hr h => ?_)
  · first | (obtain ⟨rfl, _⟩ := h; rfl) | (obtain ⟨_, rfl, _⟩ := h; rfl) | (obtain ⟨_, _, rfl, _⟩ := h; rfl) | (obtain ⟨_, _, _, rfl, _⟩ := h; rfl) | (obtain ⟨_, _, _, _, rfl, _⟩ := h; rfl) | (obtain ⟨_, _, _, _, _, rfl, _⟩ := h; rfl) | (obtain ⟨_, _, _, _, _, _, rfl, _⟩ := h; rfl) | (obtain ⟨_, _, _, _, _, _, _, rfl, _⟩ := h; rfl) | (obtain ⟨_, _, _, _, _, _, _, _, rfl, _⟩ := h; rfl) | (obtain ⟨_, _, _, _, _, _, _, _, _, rfl, _⟩ := h; rfl) | (obtain ⟨_, _, _, _, _, _, _, _, _, _, rfl, _⟩ := h; rfl) | (obtain ⟨_, _, _, _, _, _, _, _, _, _, _, rfl, _⟩ := h; rfl) | (obtain ⟨_, _, _, _, _, _, _, _, _, _, _, _, rfl, _⟩ := h; rfl) | (obtain ⟨_, _, _, _, _, _, _, _, _, _, _, _, _, rfl, _⟩ := h; rfl) | (obtain ⟨_, _, _, _, _, _, _, _, _, _, _, _, _, _, rfl, _⟩ := h; rfl) | (obtain ⟨_, _, _, _, _, _, _, _, _, _, _, _, _, _, _, rfl, _⟩ := h; rfl) | (obtain ⟨_, _, _, _, _, _, _, _, _, _, _, _, _, _, _, _, rfl, _⟩ := h; rfl) | (obtain ⟨_, _, _, _, _, _, _, _, _, _, _, _, _, _, _, _, _, rfl, _⟩ := h; rfl)
  · have hu := hu_of hr

    refine ⟨_, (pss_cons (ps_if (PW.pt (pw_or (pt_not (pt_val (pe_call C__law_integer.ok (hr.mono (by omega)) (by rfl) C__law_integer.g C__law_integer.kp C__law_integer.b .nil pass0 (pa_cons (pv 0) pa_nil)))) (pw_or1 (pt_not (pt_chain op_le op_le (pe_un un_neg pe_int) (pv 0) pe_int))))) (pss_one (ps_ret pe_bl)) pss_nil)
      (pss_one (ps_ret (pe_cmp (pc_eqI (pe_op op_mod (pe_callTy (call_int1) (by rfl) b_int (by decide +kernel) (pa_cons (pe_op op_sub (pv 0) (pv 1)) pa_nil)) pe_int) pe_int))))), ?_⟩
    obtain ⟨s, x, rfl, ⟨s0, s1, s2⟩, q⟩ := h
    refine ⟨_, rfl, _, rfl, _, rfl, iteF ?_⟩
    refine ⟨_, rfl, _, rfl, _, _, rfl, rfl, _, rfl, iteD (fun h2 => ?_) (fun h2 => absurd s0 h2)⟩
    refine ⟨_, _, rfl, rfl, _, rfl, iteDn (fun h3 => absurd s1 h3) (fun h3 => ?_)⟩
    refine ⟨_, rfl, _, rfl, _, _, rfl, rfl, .inl ⟨_, rfl, ?_⟩⟩
    refine ⟨_, _, rfl, rfl, (by show (0 : Int) < 4294967296; decide), _, _, rfl, rfl, ?_⟩
    exact dec_t (Q := Q) s2 q
def sp__law_one (K : PySem.W.Frag) : Sp := fun vs H Q _ => ∃ (x : Int), vs = [.int x] ∧ ∀ H', Same H H' → Q (.bl true) H'
theorem ok__law_one {f : Addr} {fd : FuncData} (F : Fun K "_law_one" "_law_one" s__law_one f fd) {f_wrap : Addr} {fd_wrap : FuncData} (C_wrap : Callee P w K mg base 1 f_wrap fd_wrap "wrap" ["n"] (sp_wrap K)) {f__law_word_of : Addr} {fd__law_word_of : FuncData} (C__law_word_of : Callee P w K mg base 2 f__law_word_of fd__law_word_of "_law_word_of" ["said", "x"] (sp__law_word_of K)) {f_unsigned : Addr} {fd_unsigned : FuncData} (C_unsigned : Callee P w K mg base 1 f_unsigned fd_unsigned "unsigned" ["word"] (sp_unsigned K)) {f__law_integer : Addr} {fd__law_integer : FuncData} (C__law_integer : Callee P w K mg base 1 f__law_integer fd__law_integer "_law_integer" ["x"] (sp__law_integer K)) (b_int : mg "int" = none) : FnOk P w K mg base CX0 (3) f fd ["x"] (sp__law_one K) := by
  refine F.ok sc__law_one (fun vs H Q E h => ?_) (fun cdv A outer s H vs Q E hr h => ?_)
  · first | (obtain ⟨rfl, _⟩ := h; rfl) | (obtain ⟨_, rfl, _⟩ := h; rfl) | (obtain ⟨_, _, rfl, _⟩ := h; rfl) | (obtain ⟨_, _, _, rfl, _⟩ := h; rfl) | (obtain ⟨_, _, _, _, rfl, _⟩ := h; rfl) | (obtain ⟨_, _, _, _, _, rfl, _⟩ := h; rfl) | (obtain ⟨_, _, _, _, _, _, rfl, _⟩ := h; rfl) | (obtain ⟨_, _, _, _, _, _, _, rfl, _⟩ := h; rfl) | (obtain ⟨_, _, _, _, _, _, _, _, rfl, _⟩ := h; rfl) | (obtain ⟨_, _, _, _, _, _, _, _, _, rfl, _⟩ := h; rfl) | (obtain ⟨_, _, _, _, _, _, _, _, _, _, rfl, _⟩ := h; rfl) | (obtain ⟨_, _, _, _, _, _, _, _, _, _, _, rfl, _⟩ := h; rfl) | (obtain ⟨_, _, _, _, _, _, _, _, _, _, _, _, rfl, _⟩ := h; rfl) | (obtain ⟨_, _, _, _, _, _, _, _, _, _, _, _, _, rfl, _⟩ := h; rfl) | (obtain ⟨_, _, _, _, _, _, _, _, _, _, _, _, _, _, rfl, _⟩ := h; rfl) | (obtain ⟨_, _, _, _, _, _, _, _, _, _, _, _, _, _, _, rfl, _⟩ := h; rfl) | (obtain ⟨_, _, _, _, _, _, _, _, _, _, _, _, _, _, _, _, rfl, _⟩ := h; rfl) | (obtain ⟨_, _, _, _, _, _, _, _, _, _, _, _, _, _, _, _, _, rfl, _⟩ := h; rfl)
  · have hu := hu_of hr

    refine ⟨_, (pss_cons (ps_set (i := 1) sc__law_one.nd rfl (.inl rfl) (pe_call C_wrap.ok (hr.mono (by omega)) (by rfl) C_wrap.g C_wrap.kp C_wrap.b .nil pass0 (pa_cons (pv 0) pa_nil)))
      (pss_cons (ps_if (pt_not (pt_val (pe_call C__law_word_of.ok (hr.mono (by omega)) (by rfl) C__law_word_of.g C__law_word_of.kp C__law_word_of.b .nil pass0 (pa_cons (pv 1) (pa_cons (pv 0) pa_nil))))) (pss_one (ps_ret pe_bl)) pss_nil)
      (pss_cons (ps_set (i := 2) sc__law_one.nd rfl (.inl rfl) (pe_call C_unsigned.ok (hr.mono (by omega)) (by rfl) C_unsigned.g C_unsigned.kp C_unsigned.b .nil pass0 (pa_cons (pv 1) pa_nil)))
      (pss_cons (ps_if (PW.pt (pw_or (pt_not (pt_val (pe_call C__law_integer.ok (hr.mono (by omega)) (by rfl) C__law_integer.g C__law_integer.kp C__law_integer.b .nil pass0 (pa_cons (pv 2) pa_nil)))) (pw_or1 (pt_not (pt_chain op_le op_le pe_int (pv 2) pe_int))))) (pss_one (ps_ret pe_bl)) pss_nil)
      (pss_cons (ps_if (pt_cmp (pc_neI (pe_op op_mod (pe_callTy (call_int1) (by rfl) b_int (by decide +kernel) (pa_cons (pe_op op_sub (pv 2) (pv 0)) pa_nil)) pe_int) pe_int)) (pss_one (ps_ret pe_bl)) pss_nil)
      (pss_cons (ps_for PassesOwn.never rfl (pi_list (pe_lst (pa_cons (pv 2) (pa_cons (pv 1) (pa_cons (pv 0) pa_nil))))) (pg_name (i := 3) sc__law_one.nd rfl (.inl rfl)) (pss_one (ps_if (pt_not (pt_val (pe_call C__law_word_of.ok (hr.mono (by omega)) (by rfl) C__law_word_of.g C__law_word_of.kp C__law_word_of.b .nil pass0 (pa_cons (pe_call C_wrap.ok (hr.mono (by omega)) (by rfl) C_wrap.g C_wrap.kp C_wrap.b .nil pass0 (pa_cons (pv 3) pa_nil)) (pa_cons (pv 0) pa_nil))))) (pss_one (ps_ret pe_bl)) pss_nil)))
      (pss_one (ps_ret pe_bl)))))))), ?_⟩
    obtain ⟨x, rfl, q⟩ := h
    refine ⟨_, rfl, _, rfl, _, rfl, _, rfl, _, _, rfl, (by omega), _, rfl, iteF ?_⟩
    refine ⟨_, rfl, _, rfl, _, rfl, _, rfl, _, rfl, iteF ?_⟩
    refine ⟨_, rfl, _, _, rfl, rfl, _, rfl, iteD (fun h5 => ?_) (fun h5 => absurd (by omega) h5)⟩
    refine ⟨_, _, rfl, rfl, _, rfl, iteDn (fun h6 => absurd (by omega) h6) (fun h6 => ?_)⟩
    refine ⟨_, rfl, _, rfl, _, _, rfl, rfl, .inl ⟨_, rfl, ?_⟩⟩
    refine ⟨_, _, rfl, rfl, (by show (0 : Int) < 4294967296; decide), _, _, rfl, rfl, _, rfl, iteDn (fun h7 => absurd (by omega) h7) (fun h7 => ?_)⟩
    refine ⟨_, rfl, _, rfl, _, rfl, (by show (3 : Nat) ≤ sizeLine; decide), fun p8 np8 => ?_⟩
    refine ⟨_, rfl, ⟨_, .inl (.inl upd_same)⟩, for_list1 3 ?_ (fun i H' => Same H H' ∧ SqL K H' p8 _) ⟨same_upd np8, .inl (.inl upd_same)⟩ (fun i H' _ e => e.2) ?_ ?_⟩
    · exact (by decide : (3 : Nat) < 4)
    · intro i y H' hy e
      have hm := List.mem_of_getElem? hy
      obtain ⟨z, rfl, hz⟩ : ∃ z, y = .int z ∧ (z - x) % 4294967296 = 0 := by
        simp only [List.mem_cons, List.not_mem_nil, or_false] at hm
        rcases hm with rfl | rfl | rfl <;> refine ⟨_, rfl, ?_⟩ <;> omega
      refine ⟨_, rfl, _, rfl, _, rfl, _, _, rfl, (by omega), _, rfl, iteF ?_⟩
      exact ⟨⟨_, rfl⟩, e⟩
    · intro v H' e
      exact q H' e.1
def sp_law (K : PySem.W.Frag) : Sp := fun vs H Q _ => ∃ (a : Addr) (ns : List Int), vs = [.ref a] ∧ SqL K H a (ns.map V.int) ∧ ns.length ≤ 63 ∧ ∀ H', Q (.bl true) H'
theorem ok_law {f : Addr} {fd : FuncData} (F : Fun K "law" "law" s_law f fd) {f__law_word_of : Addr} {fd__law_word_of : FuncData} (C__law_word_of : Callee P w K mg base 2 f__law_word_of fd__law_word_of "_law_word_of" ["said", "x"] (sp__law_word_of K)) {f_wrap : Addr} {fd_wrap : FuncData} (C_wrap : Callee P w K mg base 1 f_wrap fd_wrap "wrap" ["n"] (sp_wrap K)) {f__law_pool : Addr} {fd__law_pool : FuncData} (C__law_pool : Callee P w K mg base 1 f__law_pool fd__law_pool "_law_pool" ["script"] (sp__law_pool K)) {f__law_whole : Addr} {fd__law_whole : FuncData} (C__law_whole : Callee P w K mg base 2 f__law_whole fd__law_whole "_law_whole" ["pool", "far"] (sp__law_whole K)) {f__law_integer : Addr} {fd__law_integer : FuncData} (C__law_integer : Callee P w K mg base 1 f__law_integer fd__law_integer "_law_integer" ["x"] (sp__law_integer K)) {f__law_one : Addr} {fd__law_one : FuncData} (C__law_one : Callee P w K mg base 3 f__law_one fd__law_one "_law_one" ["x"] (sp__law_one K)) (g_LEAST : ∃ t, mg "LEAST" = some (.int (-2147483648) t)) (g_GREATEST : ∃ t, mg "GREATEST" = some (.int 2147483647 t)) : FnOk P w K mg base CX0 (4) f fd ["script"] (sp_law K) := by
  refine F.ok sc_law (fun vs H Q E h => ?_) (fun cdv A outer s H vs Q E hr h => ?_)
  · first | (obtain ⟨rfl, _⟩ := h; rfl) | (obtain ⟨_, rfl, _⟩ := h; rfl) | (obtain ⟨_, _, rfl, _⟩ := h; rfl) | (obtain ⟨_, _, _, rfl, _⟩ := h; rfl) | (obtain ⟨_, _, _, _, rfl, _⟩ := h; rfl) | (obtain ⟨_, _, _, _, _, rfl, _⟩ := h; rfl) | (obtain ⟨_, _, _, _, _, _, rfl, _⟩ := h; rfl) | (obtain ⟨_, _, _, _, _, _, _, rfl, _⟩ := h; rfl) | (obtain ⟨_, _, _, _, _, _, _, _, rfl, _⟩ := h; rfl) | (obtain ⟨_, _, _, _, _, _, _, _, _, rfl, _⟩ := h; rfl) | (obtain ⟨_, _, _, _, _, _, _, _, _, _, rfl, _⟩ := h; rfl) | (obtain ⟨_, _, _, _, _, _, _, _, _, _, _, rfl, _⟩ := h; rfl) | (obtain ⟨_, _, _, _, _, _, _, _, _, _, _, _, rfl, _⟩ := h; rfl) | (obtain ⟨_, _, _, _, _, _, _, _, _, _, _, _, _, rfl, _⟩ := h; rfl) | (obtain ⟨_, _, _, _, _, _, _, _, _, _, _, _, _, _, rfl, _⟩ := h; rfl) | (obtain ⟨_, _, _, _, _, _, _, _, _, _, _, _, _, _, _, rfl, _⟩ := h; rfl) | (obtain ⟨_, _, _, _, _, _, _, _, _, _, _, _, _, _, _, _, rfl, _⟩ := h; rfl) | (obtain ⟨_, _, _, _, _, _, _, _, _, _, _, _, _, _, _, _, _, rfl, _⟩ := h; rfl)
  · have hu := hu_of hr
    obtain ⟨t_LEAST, g_LEAST⟩ := g_LEAST
    obtain ⟨t_GREATEST, g_GREATEST⟩ := g_GREATEST

    refine ⟨_, (pss_cons (ps_set (i := 1) sc_law.nd rfl (.inl rfl) (pe_call C__law_pool.ok (hr.mono (by omega)) (by rfl) C__law_pool.g C__law_pool.kp C__law_pool.b .nil pass0 (pa_cons (pv 0) pa_nil)))
      (pss_cons (ps_set (i := 2) sc_law.nd rfl (.inl rfl) (pe_call C__law_whole.ok (hr.mono (by omega)) (by rfl) C__law_whole.g C__law_whole.kp C__law_whole.b .nil pass0 (pa_cons (pv 1) (pa_cons pe_int pa_nil))))
      (pss_cons (ps_set (i := 3) sc_law.nd rfl (.inl rfl) (pe_call C__law_whole.ok (hr.mono (by omega)) (by rfl) C__law_whole.g C__law_whole.kp C__law_whole.b .nil pass0 (pa_cons (pv 1) (pa_cons pe_int pa_nil))))
      (pss_cons (ps_set (i := 4) sc_law.nd rfl (.inl rfl) (pe_call C__law_whole.ok (hr.mono (by omega)) (by rfl) C__law_whole.g C__law_whole.kp C__law_whole.b .nil pass0 (pa_cons (pv 1) (pa_cons pe_int pa_nil))))
      (pss_cons (ps_set (i := 5) sc_law.nd rfl (.inl rfl) (pe_call C__law_whole.ok (hr.mono (by omega)) (by rfl) C__law_whole.g C__law_whole.kp C__law_whole.b .nil pass0 (pa_cons (pv 1) (pa_cons pe_int pa_nil))))
      (pss_cons (ps_if (PW.pt (pw_or (pt_not (pt_val (pe_call C__law_integer.ok (hr.mono (by omega)) (by rfl) C__law_integer.g C__law_integer.kp C__law_integer.b .nil pass0 (pa_cons (pe_glob (v := (.int (-2147483648))) (by rfl) g_LEAST ⟨_, rfl⟩) pa_nil)))) (pw_or1 (pt_not (pt_val (pe_call C__law_integer.ok (hr.mono (by omega)) (by rfl) C__law_integer.g C__law_integer.kp C__law_integer.b .nil pass0 (pa_cons (pe_glob (v := (.int 2147483647)) (by rfl) g_GREATEST ⟨_, rfl⟩) pa_nil))))))) (pss_one (ps_ret pe_bl)) pss_nil)
      (pss_cons (ps_if (PW.pt (pw_or (pt_cmp (pc_neI (pe_glob (v := (.int (-2147483648))) (by rfl) g_LEAST ⟨_, rfl⟩) (pe_un un_neg pe_int))) (pw_or1 (pt_cmp (pc_neI (pe_glob (v := (.int 2147483647)) (by rfl) g_GREATEST ⟨_, rfl⟩) pe_int))))) (pss_one (ps_ret pe_bl)) pss_nil)
      (pss_cons (ps_for PassesOwn.never rfl (pi_list (pe_lst (pa_cons (pv 2) (pa_cons (pv 3) (pa_cons (pe_op op_add (pv 2) (pv 3)) (pa_cons (pe_op op_sub (pv 2) (pv 3)) (pa_cons (pv 4) (pa_cons (pv 5) (pa_cons (pe_op op_mul (pv 4) (pv 5)) pa_nil))))))))) (pg_name (i := 6) sc_law.nd rfl (.inl rfl)) (pss_one (ps_if (pt_not (pt_val (pe_call C__law_one.ok (hr.mono (by omega)) (by rfl) C__law_one.g C__law_one.kp C__law_one.b .nil pass0 (pa_cons (pv 6) pa_nil)))) (pss_one (ps_ret pe_bl)) pss_nil)))
      (pss_cons (ps_if (pt_not (pt_val (pe_call C__law_word_of.ok (hr.mono (by omega)) (by rfl) C__law_word_of.g C__law_word_of.kp C__law_word_of.b .nil pass0 (pa_cons (pe_call C_wrap.ok (hr.mono (by omega)) (by rfl) C_wrap.g C_wrap.kp C_wrap.b .nil pass0 (pa_cons (pe_op op_add (pe_call C_wrap.ok (hr.mono (by omega)) (by rfl) C_wrap.g C_wrap.kp C_wrap.b .nil pass0 (pa_cons (pv 2) pa_nil)) (pe_call C_wrap.ok (hr.mono (by omega)) (by rfl) C_wrap.g C_wrap.kp C_wrap.b .nil pass0 (pa_cons (pv 3) pa_nil))) pa_nil)) (pa_cons (pe_op op_add (pv 2) (pv 3)) pa_nil))))) (pss_one (ps_ret pe_bl)) pss_nil)
      (pss_cons (ps_if (pt_not (pt_val (pe_call C__law_word_of.ok (hr.mono (by omega)) (by rfl) C__law_word_of.g C__law_word_of.kp C__law_word_of.b .nil pass0 (pa_cons (pe_call C_wrap.ok (hr.mono (by omega)) (by rfl) C_wrap.g C_wrap.kp C_wrap.b .nil pass0 (pa_cons (pe_op op_sub (pe_call C_wrap.ok (hr.mono (by omega)) (by rfl) C_wrap.g C_wrap.kp C_wrap.b .nil pass0 (pa_cons (pv 2) pa_nil)) (pe_call C_wrap.ok (hr.mono (by omega)) (by rfl) C_wrap.g C_wrap.kp C_wrap.b .nil pass0 (pa_cons (pv 3) pa_nil))) pa_nil)) (pa_cons (pe_op op_sub (pv 2) (pv 3)) pa_nil))))) (pss_one (ps_ret pe_bl)) pss_nil)
      (pss_one (ps_ret (pe_call C__law_word_of.ok (hr.mono (by omega)) (by rfl) C__law_word_of.g C__law_word_of.kp C__law_word_of.b .nil pass0 (pa_cons (pe_call C_wrap.ok (hr.mono (by omega)) (by rfl) C_wrap.g C_wrap.kp C_wrap.b .nil pass0 (pa_cons (pe_op op_mul (pe_call C_wrap.ok (hr.mono (by omega)) (by rfl) C_wrap.g C_wrap.kp C_wrap.b .nil pass0 (pa_cons (pv 4) pa_nil)) (pe_call C_wrap.ok (hr.mono (by omega)) (by rfl) C_wrap.g C_wrap.kp C_wrap.b .nil pass0 (pa_cons (pv 5) pa_nil))) pa_nil)) (pa_cons (pe_op op_mul (pv 4) (pv 5)) pa_nil))))))))))))))), ?_⟩
    obtain ⟨a, ns, rfl, hS, hl, q⟩ := h
    refine ⟨_, rfl, _, _, rfl, hS, hl, fun H1 p1 S1 n1 P1 => ?_⟩
    refine ⟨_, rfl, _, _, rfl, by decide, by decide, P1, fun H2 m bt2 P2 lo2 hi2 => ?_⟩
    refine ⟨_, rfl, _, _, rfl, by decide, by decide, P2, fun H3 n bt3 P3 lo3 hi3 => ?_⟩
    refine ⟨_, rfl, _, _, rfl, by decide, by decide, P3, fun H4 u bt4 P4 lo4 hi4 => ?_⟩
    refine ⟨_, rfl, _, _, rfl, by decide, by decide, P4, fun H5 v bt5 P5 lo5 hi5 => ?_⟩
    refine ⟨_, rfl, _, rfl, iteF ?_⟩
    refine ⟨_, rfl, _, rfl, iteF ?_⟩
    refine ⟨_, rfl, _, _, rfl, rfl, _, rfl, iteDn (fun h8 => absurd rfl h8) (fun h8 => ?_)⟩
    refine ⟨_, _, rfl, rfl, _, rfl, iteDn (fun h9 => absurd rfl h9) (fun h9 => ?_)⟩
    refine ⟨_, rfl, _, rfl, _, rfl, _, rfl, _, _, rfl, rfl, _, rfl, _, rfl, _, _, rfl, rfl, _, rfl, _, rfl, _, rfl, _, rfl, _, _, rfl, rfl, (.inl ⟨by omega, by omega⟩), (by show (7 : Nat) ≤ sizeLine; decide), fun p10 np10 => ?_⟩
    refine ⟨_, rfl, ⟨_, .inl (.inl upd_same)⟩, for_list1 6 ?_ (fun i H' => SqL K H' p10 _) (.inl (.inl upd_same)) (fun i H' _ e => e) ?_ ?_⟩
    · exact (by decide : (6 : Nat) < 7)
    · intro i y H' hy e
      have hm := List.mem_of_getElem? hy
      obtain ⟨z, rfl⟩ : ∃ z, y = .int z := by
        simp only [List.mem_cons, List.not_mem_nil, or_false] at hm
        rcases hm with rfl | rfl | rfl | rfl | rfl | rfl | rfl <;> exact ⟨_, rfl⟩
      refine ⟨_, rfl, z, rfl, fun H6 S6 => ?_⟩
      refine ⟨_, rfl, iteF ?_⟩
      exact ⟨⟨_, rfl⟩, S6.seq e⟩
    · intro w H' _
      refine ⟨_, rfl, _, rfl, _, rfl, _, rfl, _, _, rfl, rfl, _, rfl, _, rfl, _, rfl, _, _, rfl, rfl, _, _, rfl, (by omega), _, rfl, iteF ?_⟩
      refine ⟨_, rfl, _, rfl, _, rfl, _, rfl, _, _, rfl, rfl, _, rfl, _, rfl, _, rfl, _, _, rfl, rfl, _, _, rfl, (by omega), _, rfl, iteF ?_⟩
      refine ⟨_, rfl, _, rfl, _, rfl, _, rfl, _, _, rfl, rfl, (.inl ⟨by omega, by omega⟩), _, rfl, _, rfl, _, rfl, _, _, rfl, rfl, (.inl ⟨by omega, by omega⟩), _, _, rfl, ⟨by omega, by omega, wrap_mul u v⟩, q _⟩

end
theorem all_mk {l : PySem.W.OpenLaw} {w : World} {K : PySem.W.Frag} {h : Heap} {mg : Str → Option Value} {fa f0 f1 f2 f3 f4 f5 f6 f7 f8 : Addr} (X : K.In h) (G : h.Ns mainGlobals mg) (hfa : mg "law" = some (.ref fa))
    {od0 an0 od1 an1 od2 an2 od3 an3 od4 an4 od5 an5 od6 an6 od7 an7 od8 an8 : Option Addr} {sl0 sl1 sl2 sl3 sl4 sl5 sl6 sl7 sl8 : Array (Option Value)} {oc0 kV0 dc0 pm0 cd0 ct0 oc1 kV1 dc1 pm1 cd1 ct1 oc2 kV2 dc2 pm2 cd2 ct2 oc3 kV3 dc3 pm3 cd3 ct3 oc4 kV4 dc4 pm4 cd4 ct4 oc5 kV5 dc5 pm5 cd5 ct5 oc6 kV6 dc6 pm6 cd6 ct6 oc7 kV7 dc7 pm7 cd7 ct7 oc8 kV8 dc8 pm8 cd8 ct8 : Value}
    (a0 : PySem.W.nsIn K mainGlobals "wrap" = some (some (.ref f0))) (l0 : K.lookup f0 = some ⟨oc0, od0, .func (PySem.W.fnOf "wrap" "wrap" (defArgs s_wrap) (defBody s_wrap) (defScope s_wrap) .none kV0 dc0 pm0 an0 cd0 ct0), sl0⟩) (c0 : PySem.W.codeIn K cd0 "wrap" = true) (k0 : PySem.W.keepIn K (.ref f0) = true)
    (a1 : PySem.W.nsIn K mainGlobals "unsigned" = some (some (.ref f1))) (l1 : K.lookup f1 = some ⟨oc1, od1, .func (PySem.W.fnOf "unsigned" "unsigned" (defArgs s_unsigned) (defBody s_unsigned) (defScope s_unsigned) .none kV1 dc1 pm1 an1 cd1 ct1), sl1⟩) (c1 : PySem.W.codeIn K cd1 "unsigned" = true) (k1 : PySem.W.keepIn K (.ref f1) = true)
    (a2 : PySem.W.nsIn K mainGlobals "_law_pool" = some (some (.ref f2))) (l2 : K.lookup f2 = some ⟨oc2, od2, .func (PySem.W.fnOf "_law_pool" "_law_pool" (defArgs s__law_pool) (defBody s__law_pool) (defScope s__law_pool) .none kV2 dc2 pm2 an2 cd2 ct2), sl2⟩) (c2 : PySem.W.codeIn K cd2 "_law_pool" = true) (k2 : PySem.W.keepIn K (.ref f2) = true)
    (a3 : PySem.W.nsIn K mainGlobals "_law_draw" = some (some (.ref f3))) (l3 : K.lookup f3 = some ⟨oc3, od3, .func (PySem.W.fnOf "_law_draw" "_law_draw" (defArgs s__law_draw) (defBody s__law_draw) (defScope s__law_draw) .none kV3 dc3 pm3 an3 cd3 ct3), sl3⟩) (c3 : PySem.W.codeIn K cd3 "_law_draw" = true) (k3 : PySem.W.keepIn K (.ref f3) = true)
    (a4 : PySem.W.nsIn K mainGlobals "_law_whole" = some (some (.ref f4))) (l4 : K.lookup f4 = some ⟨oc4, od4, .func (PySem.W.fnOf "_law_whole" "_law_whole" (defArgs s__law_whole) (defBody s__law_whole) (defScope s__law_whole) .none kV4 dc4 pm4 an4 cd4 ct4), sl4⟩) (c4 : PySem.W.codeIn K cd4 "_law_whole" = true) (k4 : PySem.W.keepIn K (.ref f4) = true)
    (a5 : PySem.W.nsIn K mainGlobals "_law_integer" = some (some (.ref f5))) (l5 : K.lookup f5 = some ⟨oc5, od5, .func (PySem.W.fnOf "_law_integer" "_law_integer" (defArgs s__law_integer) (defBody s__law_integer) (defScope s__law_integer) .none kV5 dc5 pm5 an5 cd5 ct5), sl5⟩) (c5 : PySem.W.codeIn K cd5 "_law_integer" = true) (k5 : PySem.W.keepIn K (.ref f5) = true)
    (a6 : PySem.W.nsIn K mainGlobals "_law_word_of" = some (some (.ref f6))) (l6 : K.lookup f6 = some ⟨oc6, od6, .func (PySem.W.fnOf "_law_word_of" "_law_word_of" (defArgs s__law_word_of) (defBody s__law_word_of) (defScope s__law_word_of) .none kV6 dc6 pm6 an6 cd6 ct6), sl6⟩) (c6 : PySem.W.codeIn K cd6 "_law_word_of" = true) (k6 : PySem.W.keepIn K (.ref f6) = true)
    (a7 : PySem.W.nsIn K mainGlobals "_law_one" = some (some (.ref f7))) (l7 : K.lookup f7 = some ⟨oc7, od7, .func (PySem.W.fnOf "_law_one" "_law_one" (defArgs s__law_one) (defBody s__law_one) (defScope s__law_one) .none kV7 dc7 pm7 an7 cd7 ct7), sl7⟩) (c7 : PySem.W.codeIn K cd7 "_law_one" = true) (k7 : PySem.W.keepIn K (.ref f7) = true)
    (a8 : PySem.W.nsIn K mainGlobals "law" = some (some (.ref f8))) (l8 : K.lookup f8 = some ⟨oc8, od8, .func (PySem.W.fnOf "law" "law" (defArgs s_law) (defBody s_law) (defScope s_law) .none kV8 dc8 pm8 an8 cd8 ct8), sl8⟩) (c8 : PySem.W.codeIn K cd8 "law" = true) (k8 : PySem.W.keepIn K (.ref f8) = true)
    (z_list : PySem.W.nsIn K mainGlobals "list" = some none)
    (z_len : PySem.W.nsIn K mainGlobals "len" = some none)
    (z_abs : PySem.W.nsIn K mainGlobals "abs" = some none)
    (z_int : PySem.W.nsIn K mainGlobals "int" = some none)
    (z_isinstance : PySem.W.nsIn K mainGlobals "isinstance" = some none)
    (z_bool : PySem.W.nsIn K mainGlobals "bool" = some none)
    {tL : Tok} (zL : PySem.W.nsIn K mainGlobals "LEAST" = some (some (.int (-2147483648) tL)))
    {tG : Tok} (zG : PySem.W.nsIn K mainGlobals "GREATEST" = some (some (.int 2147483647 tG)))
    : ∃ fd : FuncData, (∀ (s : Shared) (v : Value), BindsTo s fd ⟨[v], []⟩ [("script", v)]) ∧ ∀ base : Heap, K.In base → base.Ns mainGlobals mg → FnOk l.prog w K mg base CX0 4 fa fd ["script"] (sp_law K) := by
  have e := hfa.symm.trans (PySem.W.mg_of X G a8)
  cases e
  have F0 := fun_mk (st := s_wrap) l0 c0 k0
  have B0 := F0.binds (ps := ["n"]) fun _ _ _ _ _ _ us hl => match us, hl with | [_], _ => rfl
  have F1 := fun_mk (st := s_unsigned) l1 c1 k1
  have B1 := F1.binds (ps := ["word"]) fun _ _ _ _ _ _ us hl => match us, hl with | [_], _ => rfl
  have F2 := fun_mk (st := s__law_pool) l2 c2 k2
  have B2 := F2.binds (ps := ["script"]) fun _ _ _ _ _ _ us hl => match us, hl with | [_], _ => rfl
  have F3 := fun_mk (st := s__law_draw) l3 c3 k3
  have B3 := F3.binds (ps := ["pool", "many"]) fun _ _ _ _ _ _ us hl => match us, hl with | [_, _], _ => rfl
  have F4 := fun_mk (st := s__law_whole) l4 c4 k4
  have B4 := F4.binds (ps := ["pool", "far"]) fun _ _ _ _ _ _ us hl => match us, hl with | [_, _], _ => rfl
  have F5 := fun_mk (st := s__law_integer) l5 c5 k5
  have B5 := F5.binds (ps := ["x"]) fun _ _ _ _ _ _ us hl => match us, hl with | [_], _ => rfl
  have F6 := fun_mk (st := s__law_word_of) l6 c6 k6
  have B6 := F6.binds (ps := ["said", "x"]) fun _ _ _ _ _ _ us hl => match us, hl with | [_, _], _ => rfl
  have F7 := fun_mk (st := s__law_one) l7 c7 k7
  have B7 := F7.binds (ps := ["x"]) fun _ _ _ _ _ _ us hl => match us, hl with | [_], _ => rfl
  have F8 := fun_mk (st := s_law) l8 c8 k8
  have B8 := F8.binds (ps := ["script"]) fun _ _ _ _ _ _ us hl => match us, hl with | [_], _ => rfl
  skip
  skip
  refine ⟨PySem.W.fnOf "law" "law" (defArgs s_law) (defBody s_law) (defScope s_law) .none kV8 dc8 pm8 an8 cd8 ct8, fun s v => .of_eq rfl, fun base _ _ => ?_⟩
  have O0 := ok_wrap (P := l.prog) (w := w) (mg := mg) (base := base) F0 ⟨_, PySem.W.mg_of X G zL⟩
  have C0 : Callee l.prog w K mg base 1 f0 _ "wrap" _ (sp_wrap K) := ⟨O0, k0, B0, PySem.W.mg_of X G a0⟩
  have O1 := ok_unsigned (P := l.prog) (w := w) (mg := mg) (base := base) F1
  have C1 : Callee l.prog w K mg base 1 f1 _ "unsigned" _ (sp_unsigned K) := ⟨O1, k1, B1, PySem.W.mg_of X G a1⟩
  have O2 := ok__law_pool (P := l.prog) (w := w) (mg := mg) (base := base) F2 (PySem.W.mg_none_of X G z_list)
  have C2 : Callee l.prog w K mg base 1 f2 _ "_law_pool" _ (sp__law_pool K) := ⟨O2, k2, B2, PySem.W.mg_of X G a2⟩
  have O3 := ok__law_draw (P := l.prog) (w := w) (mg := mg) (base := base) F3 (PySem.W.mg_none_of X G z_len) (PySem.W.mg_none_of X G z_abs) (PySem.W.mg_none_of X G z_int)
  have C3 : Callee l.prog w K mg base 1 f3 _ "_law_draw" _ (sp__law_draw K) := ⟨O3, k3, B3, PySem.W.mg_of X G a3⟩
  have O4 := ok__law_whole (P := l.prog) (w := w) (mg := mg) (base := base) F4 C3
  have C4 : Callee l.prog w K mg base 2 f4 _ "_law_whole" _ (sp__law_whole K) := ⟨O4, k4, B4, PySem.W.mg_of X G a4⟩
  have O5 := ok__law_integer (P := l.prog) (w := w) (mg := mg) (base := base) F5 (PySem.W.mg_none_of X G z_isinstance) (PySem.W.mg_none_of X G z_int) (PySem.W.mg_none_of X G z_bool)
  have C5 : Callee l.prog w K mg base 1 f5 _ "_law_integer" _ (sp__law_integer K) := ⟨O5, k5, B5, PySem.W.mg_of X G a5⟩
  have O6 := ok__law_word_of (P := l.prog) (w := w) (mg := mg) (base := base) F6 C5 (PySem.W.mg_none_of X G z_int)
  have C6 : Callee l.prog w K mg base 2 f6 _ "_law_word_of" _ (sp__law_word_of K) := ⟨O6, k6, B6, PySem.W.mg_of X G a6⟩
  have O7 := ok__law_one (P := l.prog) (w := w) (mg := mg) (base := base) F7 C0 C6 C1 C5 (PySem.W.mg_none_of X G z_int)
  have C7 : Callee l.prog w K mg base 3 f7 _ "_law_one" _ (sp__law_one K) := ⟨O7, k7, B7, PySem.W.mg_of X G a7⟩
  have O8 := ok_law (P := l.prog) (w := w) (mg := mg) (base := base) F8 C6 C0 C2 C4 C5 C7 ⟨_, PySem.W.mg_of X G zL⟩ ⟨_, PySem.W.mg_of X G zG⟩
  exact O8
end Lk00
open PySem PySem.W PyProof.Rows
set_option maxRecDepth 100000 in
set_option maxHeartbeats 0 in
theorem PySem.Challenge.cw_sameruns_k00_wrap_holds : PySem.Challenge.rw_sameruns_k00_wrap.Holds := by
  w_on; o_law; k_head; (case hw => w_witness2)
  k_fill
  refine L2.walk_of (l := PySem.Challenge.rw_sameruns_k00_wrap) (n := 63) (k := 4) (x := "script") (CX := fun _ => L2.CX0) (sp := fun w => Lk00.sp_law _) rfl (by decide) rfl ⟨rfl, by decide, by decide⟩ (fun w h Y => PySem.W.kIn_of Y) ?F (fun _ _ a ns hl _ hS => ⟨a, ns, rfl, hS, hl, fun _ => rfl⟩) (fun _ _ _ _ _ h => h)
  case F =>
    intro w mg fa h KX G hmg
    refine' Lk00.all_mk KX G hmg ?a0 ?l0 ?c0 ?k0 ?a1 ?l1 ?c1 ?k1 ?a2 ?l2 ?c2 ?k2 ?a3 ?l3 ?c3 ?k3 ?a4 ?l4 ?c4 ?k4 ?a5 ?l5 ?c5 ?k5 ?a6 ?l6 ?c6 ?k6 ?a7 ?l7 ?c7 ?k7 ?a8 ?l8 ?c8 ?k8 ?z_list ?z_len ?z_abs ?z_int ?z_isinstance ?z_bool ?zL ?zG
    (case a0 => k_is); (case l0 => k_is); (case c0 => k_is); (case k0 => k_is); (case a1 => k_is); (case l1 => k_is); (case c1 => k_is); (case k1 => k_is); (case a2 => k_is); (case l2 => k_is); (case c2 => k_is); (case k2 => k_is); (case a3 => k_is); (case l3 => k_is); (case c3 => k_is); (case k3 => k_is); (case a4 => k_is); (case l4 => k_is); (case c4 => k_is); (case k4 => k_is); (case a5 => k_is); (case l5 => k_is); (case c5 => k_is); (case k5 => k_is); (case a6 => k_is); (case l6 => k_is); (case c6 => k_is); (case k6 => k_is); (case a7 => k_is); (case l7 => k_is); (case c7 => k_is); (case k7 => k_is); (case a8 => k_is); (case l8 => k_is); (case c8 => k_is); (case k8 => k_is); (case z_list => k_is); (case z_len => k_is); (case z_abs => k_is); (case z_int => k_is); (case z_isinstance => k_is); (case z_bool => k_is); (case zL => k_is); (case zG => k_is)
