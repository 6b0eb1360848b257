import PyProof.Rows.All
import Wide.All
import OpenK.AllK
import Wide.FinOn
import HandS.ForMost
import HandS.ForExc
import HandS.Wide
import HandS.IsInst
import HandS.CallLocal
import HandS.More
import HandS.Codes
import HandS.TupAny
import HandS.Conv
import HandS.ExcInit
import HandS.TryOnly
import HandS.Zip
import HandS.Zip0
import HandS.Iter
import KE.GoesMore
import HandS.ExcIs
import HandS.ExcField
import HandS.ExcOwn
import HandS.WordsExc
import HandS.SetFor
import HandS.NoneIn
import KE.KExcIs
import HandS.TupMul
import HandS.Star
import HandS.Rev
import HandS.DictComp
import KE.KDictWalk
import HandS.Style
import HandS.WideBits
import HandS.SortInts
import PySem.Challenge.RW_sameruns_k08_bad_rows
set_option Elab.async false
set_option linter.all false
set_option maxRecDepth 100000
set_option maxHeartbeats 4000000
namespace ENT
open PySem PySem.Spec PyProof.Rows L2
theorem meets_enumT (l : Addr) (items : Array Value) :
    Meets (Builtin.«enumerate.__new__» ⟨[.type "enumerate", .ref l], []⟩) (fun _ R s => s.heap.IsTuple l items ∧
      R (.ok (.ret (.ref (s.heap.push { cls := .type "tuple_iterator", data := .fields #[.ref l, .int 0 0] }).objs.size)))
        { s with heap := (s.heap.push { cls := .type "tuple_iterator", data := .fields #[.ref l, .int 0 0] }).push { cls := .type "enumerate", data := .fields #[.none, .bool false, .ref s.heap.objs.size, rawInt 0, .none, .none] } }) :=
  .of_wp fun prog w A R s h => by
    obtain ⟨hp, g, d, tk, os⟩ := s; obtain ⟨hl, h⟩ := h
    have hsub := sub_enumerate
    have hL : Heap.IsTuple (Shared.heap ⟨hp, g, d, tk, os⟩) l items := hl
    wp_walk using wpAny_pyIter_tuple hL
    refine wpAny_stack_any fun st => wpAny_pure ?_
    split
    · rename_i c _ _ _ _ _
      cases (c == Value.type "enumerate")
      · wp_walk using wpAny_pyIter_tuple hL
        exact ⟨_, rfl, h⟩
      · wp_walk using wpAny_pyIter_tuple hL
        exact ⟨_, rfl, h⟩
    · wp_walk using wpAny_pyIter_tuple hL
      exact ⟨_, rfl, h⟩
theorem call_enumT {prog : Program} {w : World} {A : Around} {E : Value → Shared → Prop} {s : Shared} {l : Addr} {items : Array Value} {Q : Value → Shared → Prop} (hL : s.heap.IsTuple l items)
    (h : ∀ h', IsEnum h' (s.heap.objs.size + 1) s.heap.objs.size ((0 : Nat) : Int) .none → h'.IsTupleIter s.heap.objs.size l 0 → h'.objs.size = s.heap.objs.size + 2 →
      (∀ b o, s.heap.get? b = some o → h'.get? b = some o) → Q (.ref (s.heap.objs.size + 1)) { s with heap := h' }) :
    wpAny (model prog w) A (call (.type "enumerate") [.ref l]) Q E s := by
  refine callType_new F.called_enumerate (by decide) (F.typeCall_enumerate_1 _) (F.newCall_enumerate_1 _) (fun obj => F.args_object_init_2 obj _) F.entry_enumerate_new (meets_enumT l items) ⟨hL, ?_⟩
  generalize ho : ({ cls := .type "tuple_iterator", data := .fields #[.ref l, .int 0 0] } : Obj) = o
  have hz : (s.heap.push o).objs.size = s.heap.objs.size + 1 := Heap.size_push ..
  show _ ∧ _
  rw [hz]
  have he : IsEnum ((s.heap.push o).push { cls := .type "enumerate", data := .fields #[.none, .bool false, .ref s.heap.objs.size, rawInt 0, .none, .none] }) (s.heap.objs.size + 1) s.heap.objs.size 0 .none := by
    have := Heap.get?_push_size (s.heap.push o) (o := { cls := .type "enumerate", data := .fields #[.none, .bool false, .ref s.heap.objs.size, rawInt 0, .none, .none] }) rfl
    rw [hz] at this; exact this
  exact ⟨⟨_, he, rfl⟩, h _ he ⟨_, Heap.get?_push_of_some _ (Heap.get?_push_size _ (by subst ho; rfl)), by subst ho; rfl, by subst ho; rfl⟩ (by rw [Heap.size_push, hz]) fun b o x => Heap.get?_push_of_some _ (Heap.get?_push_of_some _ x)⟩
/-- enumerate of the tuple at a -/
def ItT (K : PySem.W.Frag) (a : Addr) : It :=
  ⟨fun i H => ∃ (xs : List V) (x : V), SqT K H a xs ∧ xs[i]? = some x, fun i H v H' => ∃ T x, v = .ref T ∧ H T = none ∧ H' = upd H T (.tup [.int (i : Nat), x]) ∧ ∀ xs, SqT K H a xs → xs[i]? = some x, fun i H => ∃ xs : List V, SqT K H a xs ∧ xs.length ≤ i⟩
theorem turn_enumT {P : Program} {w : World} {K : PySem.W.Frag} {elts : List Expr} {kk : Nat} {tpos : Pos} (a e it : Addr) :
    Turn P w K (.Tuple elts kk tpos) (ItT K a) [e, it] e (fun i h => (∃ old, IsEnum h e it ((i : Nat) : Int) old) ∧ h.IsTupleIter it a i ∧ e ≠ it ∧ a ≠ it ∧ a ≠ e) where
  mem := by simp
  obj := fun i h st b hb => by
    obtain ⟨⟨old, he⟩, ⟨o, ho, hc, hd⟩, _⟩ := st
    rcases List.mem_cons.mp hb with z | z
    · rw [z]; exact ⟨_, he, fun v q => nomatch q⟩
    · rw [List.mem_singleton.mp z]; exact ⟨o, ho, fun v q => by rw [hd] at q; cases q⟩
  keep := fun i h h' st k => let ⟨⟨old, he⟩, hi, hne⟩ := st; ⟨⟨old, k e (by simp) _ he⟩, hi.at fun o q => k it (by simp) o q, hne⟩
  item := by
    intro X hP hw hK hc i pins s σ H E I hf st hg
    subst hP hw hK
    obtain ⟨⟨old, he⟩, hit, hne, hai, hae⟩ := st
    obtain ⟨xs, x, hq, hx⟩ := hg
    obtain ⟨its, rv, p, _⟩ := I.tuple hq
    obtain ⟨u, hu, ru⟩ := rv.get hx
    have hel : e < s.heap.objs.size := Heap.lt_size he
    have hlt : i < its.toArray.size := by
      have := (List.getElem?_eq_some_iff.mp hu).1
      simpa using this
    have p' : s.heap.IsTuple a its.toArray := p
    refine wpAny_pyNext_enum_itemD (Draws.tuple (by exact I.ok.hd hc) it a hai its.toArray) he ⟨hit, p'⟩ hlt hne (by simp [hne, Ne.symm hae]) fun x' h' tk hP ho hst hT hsz hk => ?_
    have ex : x' = u := by
      have hP' : its.toArray[i]? = some x' := hP
      rw [List.getElem?_toArray, hu] at hP'
      exact (Option.some.inj hP').symm
    subst ex
    refine ⟨_, rfl, wpAny_letOwnedTupleGo_enum (s := { s with heap := h', toks := tk + 1 }) ho fun h'' he' sb => ?_⟩
    have hT2 : h''.get? s.heap.objs.size = some { cls := .type "tuple", data := .seq #[.int i tk, x'] } := (sb.2 _ (Nat.ne_of_gt hel)).trans hT
    have new : ObjOk X.prog X.w (upd H s.heap.objs.size (.tup [.int (i : Nat), x])) h'' s.heap.objs.size (.tup [.int (i : Nat), x]) :=
      ⟨by show 2 ≤ sizeLine; decide, [.int i tk, x'], .cons ⟨_, rfl⟩ (.cons ru .nil), ⟨_, hT2, rfl, _, rfl⟩⟩
    have I1 : Inv X pins σ (upd H s.heap.objs.size (.tup [.int (i : Nat), x])) { s with heap := h'', toks := tk + 1 } :=
      I.turnedNew (ch := [e, it]) (fun b ob hb q => (sb.2 b (fun z => hb (by simp [z]))).trans (hk b ob (fun z => hb (by simp [z])) (fun z => hb (by simp [z])) q)) hf (Nat.le_refl _) new
    refine ⟨.ref s.heap.objs.size, _, I1, rfl, ⟨_, x, rfl, I.hok.fresh (Nat.le_refl _), rfl, fun ys hy => by rw [I.tuple_inj hy hq]; exact hx⟩, ⟨⟨x', ?_⟩, hst.1.at fun o q => (sb.2 it (Ne.symm hne)).trans q, hne, hai, hae⟩, fun b hb => ?_⟩
    · have e1 : ((i + 1 : Nat) : Int) = (i : Int) + 1 := by omega
      rw [e1]; exact he'
    · have hb' : b < s.heap.objs.size := by
        rcases List.mem_cons.mp hb with z | z
        · rw [z]; exact hel
        · rw [List.mem_singleton.mp z]; obtain ⟨_, q, _⟩ := hit; exact Heap.lt_size q
      rw [upd_ne (Nat.ne_of_lt hb')]
      exact (hf b hb).1
  done := by
    intro X hP hw hK hc i pins s σ H E I hf st hg
    subst hP hw hK
    obtain ⟨⟨old, he⟩, hit, hne, hai, hae⟩ := st
    obtain ⟨xs, hq, hx⟩ := hg
    obtain ⟨its, rv, p, _⟩ := I.tuple hq
    have p' : s.heap.IsTuple a its.toArray := p
    obtain ⟨f0, f1, f2, f3, f4, f5⟩ := hf it (by simp)
    have hl := rv.length
    have hT : s.TypeIs (.ref e) "enumerate" := ⟨_, he, rfl⟩
    unfold pyNext
    refine wpAny_bind (wpAny_attempt (wpAny_callSpecial?_slot (name := Str.ofString "__next__") hT F.slot_enumerate_next
      (wpAny_call_entry F.slot_enumerate_next hT F.entry_enumerate_next ?_ (F.args_enumerate_next_1 _))))
    show wpAny _ _ (field (.ref e) 2 >>= _) _ _ _
    refine wpAny_bind (wpAny_field he rfl (x := .ref it) rfl ?_)
    refine wpAny_bind (RZ.nextOf_tuple_end (by exact I.ok.hd hc) hit p' (by simp; omega) fun h' x he' hx' => ?_)
    obtain ⟨o, ho, hcl⟩ := hx'
    refine wpAny_bind (wpAny_isInstance (T := "StopIteration") (b := true) ⟨o, ho, hcl⟩ isSubtype_stop ?_)
    exact wpAny_pure ⟨rfl, I.turned (t' := s.toks) (fun b o hb q => he' b o hb q) f0 f1 f3 f4 f5⟩
  self := fun A i s Q E st h => let ⟨⟨_, he⟩, _⟩ := st; wpAny_pyIter_enum he h
def iEnumT (K : PySem.W.Frag) (ta : TA) : TI := fun σ H R => ta σ H fun vs H1 => ∃ a xs, vs = [.ref a] ∧ SqT K H1 a xs ∧ R (ItT K a) H1
theorem pi_enumT {X : Cx} {e : Expr} {ta : TA} {p pos tpos : Pos} {elts : List Expr} {kk : Nat} (hg : Gl X "enumerate") (hm : X.mg "enumerate" = none) (ha : PA X [e] ta) (hs : starEach [e] X.env = [(false, eval e X.env)] := by rfl) :
    PI X (.Tuple elts kk tpos) (.Call (.Name "enumerate" p) [e] [] pos) (iEnumT X.K ta) := by
  refine ⟨fun pins s σ H R I h => ?_⟩
  refine Call_ (ld_blt I hg hm boot_enumerate (PyProof.Rows.callWith_type1 (thn (ha.run pos pins s σ H _ I h) fun us s1 ⟨vs, H1, I1, r1, q1⟩ => ?_) hs rfl))
  obtain ⟨a, xs, ex, hq, q⟩ := q1
  subst ex
  cases r1 with
  | cons r rr =>
    cases rr
    cases r
    obtain ⟨its, rv, p', _⟩ := I1.tuple hq
    have hT : s1.heap.IsTuple a its.toArray := p'
    obtain ⟨oa, hoa, _⟩ := id p'
    have hal : a < s1.heap.objs.size := Heap.lt_size hoa
    refine call_enumT hT fun h' he hit hsz hk => wpAny_pyIter_enum he ?_
    have I2 : Inv X pins σ H1 { s1 with heap := h' } := I1.kept (t' := s1.toks) hk
    refine ⟨s1.heap.objs.size + 1, [s1.heap.objs.size + 1, s1.heap.objs.size], _, _, H1, rfl, I2, turn_enumT a (s1.heap.objs.size + 1) s1.heap.objs.size, ⟨⟨.none, he⟩, hit, Nat.succ_ne_self _, Nat.ne_of_lt hal, Nat.ne_of_lt (Nat.lt_succ_of_lt hal)⟩, fun b hb => ?_, q⟩
    have hle : s1.heap.objs.size ≤ b := by
      rcases List.mem_cons.mp hb with z | z
      · rw [z]; exact Nat.le_add_right _ _
      · rw [List.mem_singleton.mp z]; exact Nat.le_refl _
    exact I1.fpOk hle (I1.hok.fresh hle)
/-- for i, x in enumerate(t), the two names of the target alone changing among the slots -/
theorem for_enumT {K : PySem.W.Frag} {a : Addr} {xs : List V} {tb : TS} {D : Ends} {σ : L2.St} {H : Hp} {g : TG} (Pv : Nat → L2.St → Hp → Prop) (h0 : Pv 0 σ H) (hq : ∀ i σ H, Pv i σ H → SqT K H a xs)
    (hs : ∀ (i : Nat) (x : V) (T : Addr) (σ : L2.St) (H : Hp), xs[i]? = some x → Pv i σ H → H T = none → g (.ref T) σ (upd H T (.tup [.int (i : Nat), x])) fun σ2 H2 => tb { D with nx := Pv (i + 1), ct := Pv (i + 1), bk := D.nx } σ2 H2) (hd : ∀ σ H, Pv xs.length σ H → D.nx σ H) :
    ∃ W : Nat → Nat → L2.St → Hp → Prop, (∃ m, W 0 m σ H) ∧ ∀ i m σ H, W i m σ H →
      ((ItT K a).stop i H ∧ D.nx σ H) ∨ ((ItT K a).go i H ∧ ∃ N : L2.St → Hp → Prop, (∀ σ' H', N σ' H' → ∃ m', m' < m ∧ W (i + 1) m' σ' H') ∧ ∀ v H', (ItT K a).yld i H v H' → g v σ H' fun σ2 H2 => tb { D with nx := N, ct := N, bk := D.nx } σ2 H2) := by
  refine ⟨fun i m σ H => m = xs.length - i ∧ i ≤ xs.length ∧ Pv i σ H, ⟨xs.length, rfl, Nat.zero_le _, h0⟩, ?_⟩
  rintro i m σ H ⟨rfl, hi, p⟩
  have qx := hq i σ H p
  by_cases hlt : i < xs.length
  · have hx : xs[i]? = some xs[i] := List.getElem?_eq_getElem hlt
    refine .inr ⟨⟨xs, _, qx, hx⟩, Pv (i + 1), fun σ' H' p' => ⟨xs.length - (i + 1), by omega, rfl, hlt, p'⟩, fun v H' y => ?_⟩
    obtain ⟨T, x', rfl, hT, rfl, f1⟩ := y
    exact hs i x' T σ H (f1 xs qx) p hT
  · have e : i = xs.length := by omega
    subst e
    exact .inl ⟨⟨xs, qx, Nat.le_refl _⟩, hd σ H p⟩
end ENT
/-! ### values as trees, the tracked heap, and how they stand for the layer's values and heap -/
namespace M
open PySem PySem.Spec PyProof.Rows L2

/-- a value: a tree of what never changes any more, and tracked objects by number -/
inductive T where
  | non | bl (b : Bool) | int (i : Int) | str (x : Str) | ref (a : Str)
  | tup (l : List T) | ktp (l : List T) | lst (l : List T) | rdl (l : List T) | inst (c : Str) (ns : List Str) (l : List T) | dct (ks : List Key) (l : List T) | dctT (ks : List (List Key)) (l : List T)
  | obj (i : Nat)
  deriving Inhabited
/-- a tracked object -/
inductive O where
  | lst (l : List T) | dct (m : List (Key × T)) | dctT (m : List (List Key × T)) | ins (c : Str) (m : List (Str × T))
  deriving Inhabited
abbrev AH := List (Option O)
/-- what is raised: its class, its fields -/
structure Exc where
  c : Str
  ns : List Str
  l : List T
  deriving Inhabited
/-- what an except suite holds: where it stands, its class, its own dict, the slot of its name -/
structure Ex where
  a : Addr
  cls : Value
  d : Option Addr
  i : Nat
  e : Exc
/-- what the names of the module stand for: the written part, the classes, other things by name; what is caught -/
structure Env where
  K : PySem.W.Frag
  ca : Str → Addr
  fa : Str → V
  ex : Option Ex
structure Sta where
  G : Env
  al : List Addr
  h : AH
  H : Hp
  /-- what is being made and may be touched by nobody -/
  pv : List Addr
def Trk (S : Sta) (p : Addr) : Prop := ∃ (i : Nat) (o : O), S.al[i]? = some p ∧ S.h[i]? = some (some o)
def Own (S : Sta) (p : Addr) : Prop := Trk S p ∨ p ∈ S.pv
/-- at p stands o, and it is not tracked -/
def Fz (S : Sta) (p : Addr) (o : HO) : Prop := S.H p = some o ∧ ¬ Own S p
def KL (K : PySem.W.Frag) (a : Addr) (xs : List V) : Prop := ∃ (o : Obj) (its : Array Value) (n : Nat), K.lookup a = some o ∧ o.cls = .type "list" ∧ o.dict = none ∧ o.data = .seq its n ∧ its.size ≤ sizeLine ∧ Vals xs its.toList
def KT (K : PySem.W.Frag) (a : Addr) (xs : List V) : Prop := ∃ (o : Obj) (its : Array Value) (n : Nat), K.lookup a = some o ∧ o.cls = .type "tuple" ∧ o.data = .seq its n ∧ its.size ≤ sizeLine ∧ Vals xs its.toList
/-- a list that may be read but not extended -/
def RdL (S : Sta) (p : Addr) (vs : List V) : Prop := (∃ ob, Fz S p (.frz ob (.lst vs))) ∨ Fz S p (.lst vs) ∨ KL S.G.K p vs
mutual
def Rv (S : Sta) : T → V → Prop
  | .non, v => v = .non
  | .bl b, v => v = .bl b
  | .int i, v => v = .int i
  | .str x, v => v = .str x
  | .ref a, v => v = S.G.fa a
  | .tup l, v => ∃ p vs, v = .ref p ∧ Fz S p (.tup vs) ∧ RvL S l vs
  | .ktp l, v => ∃ p vs, v = .ref p ∧ KT S.G.K p vs ∧ RvL S l vs
  | .lst l, v => ∃ p vs, v = .ref p ∧ Fz S p (.lst vs) ∧ RvL S l vs
  | .rdl l, v => ∃ p vs, v = .ref p ∧ RdL S p vs ∧ RvL S l vs
  | .inst c ns l, v => ∃ p dx vs, v = .ref p ∧ Fz S p (.ins (S.G.ca c) dx (ns.zip vs)) ∧ ns.length = l.length ∧ RvL S l vs
  | .dct ks l, v => ∃ p vs, v = .ref p ∧ Fz S p (.dK (ks.zip vs)) ∧ ks.length = l.length ∧ RvL S l vs
  | .dctT ks l, v => ∃ p vs, v = .ref p ∧ Fz S p (.dT (ks.zip vs)) ∧ ks.length = l.length ∧ RvL S l vs
  | .obj i, v => ∃ p, S.al[i]? = some p ∧ v = .ref p
def RvL (S : Sta) : List T → List V → Prop
  | [], vs => vs = []
  | t :: ts, vs => ∃ v r, vs = v :: r ∧ Rv S t v ∧ RvL S ts r
end
def RvK {κ : Type} (S : Sta) : List (κ × T) → List (κ × V) → Prop
  | [], m => m = []
  | (k, t) :: r, m => ∃ v m', m = (k, v) :: m' ∧ Rv S t v ∧ RvK S r m'
def RO (S : Sta) : O → HO → Prop
  | .lst l, u => ∃ vs, u = .lst vs ∧ RvL S l vs
  | .dct m, u => ∃ vs, u = .dK vs ∧ RvK S m vs
  | .dctT m, u => ∃ vs, u = .dT vs ∧ RvK S m vs
  | .ins c m, u => ∃ dx vs, u = .ins (S.G.ca c) dx vs ∧ RvK S m vs
structure Ok (S : Sta) : Prop where
  len : S.al.length = S.h.length
  rel : ∀ (i : Nat) (o : O) (p : Addr), S.h[i]? = some (some o) → S.al[i]? = some p → ∃ u, S.H p = some u ∧ RO S o u
  inj : ∀ (i j : Nat) (o o' : O) (p : Addr), S.h[i]? = some (some o) → S.h[j]? = some (some o') → S.al[i]? = some p → S.al[j]? = some p → i = j
  priv : ∀ p ∈ S.pv, (∃ u, S.H p = some u) ∧ ¬ Trk S p
structure Step (S S' : Sta) : Prop where
  G : S'.G = S.G
  al : S.al <+: S'.al
  keep : ∀ b o, S.H b = some o → ¬ Own S b → S'.H b = some o
  own : ∀ b, Own S' b → Own S b ∨ S.H b = none
  pv : S'.pv = S.pv
  pk : ∀ b ∈ S.pv, S'.H b = S.H b
theorem Ok.addr {S : Sta} (k : Ok S) {i : Nat} {o : O} (h : S.h[i]? = some (some o)) : ∃ p, S.al[i]? = some p := by
  have := (List.getElem?_eq_some_iff.mp h).1
  exact ⟨S.al[i]'(by rw [k.len]; exact this), List.getElem?_eq_getElem _⟩
theorem Ok.some {S : Sta} (k : Ok S) {p : Addr} (h : Own S p) : ∃ o, S.H p = some o := by
  rcases h with ⟨i, o, h1, h2⟩ | h
  · obtain ⟨u, hu, _⟩ := k.rel i o p h2 h1
    exact ⟨u, hu⟩
  · exact (k.priv p h).1
theorem Ok.fresh {S : Sta} (k : Ok S) {p : Addr} (h : S.H p = none) : ¬ Own S p := fun o => by
  obtain ⟨u, e⟩ := k.some o
  rw [h] at e; cases e
theorem Step.refl (S : Sta) : Step S S := ⟨rfl, List.prefix_rfl, fun _ _ h _ => h, fun _ h => .inl h, rfl, fun _ _ => rfl⟩
theorem Step.nown {S S' : Sta} (s : Step S S') {b : Addr} {o : HO} (h : S.H b = some o) (n : ¬ Own S b) : ¬ Own S' b := fun z => by
  rcases s.own b z with z | z
  · exact n z
  · rw [h] at z; cases z
theorem Step.trans {S S1 S2 : Sta} (a : Step S S1) (b : Step S1 S2) : Step S S2 :=
  ⟨b.G.trans a.G, a.al.trans b.al, fun c o h n => b.keep c o (a.keep c o h n) (a.nown h n), (fun c h => by
    rcases b.own c h with z | z
    · exact a.own c z
    · by_cases n : Own S c
      · exact .inl n
      · cases e : S.H c with
        | none => exact .inr rfl
        | some o => rw [a.keep c o e n] at z; cases z), b.pv.trans a.pv, fun c h => (b.pk c (by rw [a.pv]; exact h)).trans (a.pk c h)⟩
theorem Fz.mono {S S' : Sta} (s : Step S S') {p : Addr} {o : HO} (f : Fz S p o) : Fz S' p o := by
  obtain ⟨r, n⟩ := f
  exact ⟨s.keep _ _ r n, s.nown r n⟩
/-- what is frozen stays as it is -/
structure Tr (S S' : Sta) : Prop where
  G : S'.G = S.G
  al : S.al <+: S'.al
  fz : ∀ p o, Fz S p o → Fz S' p o
theorem Step.tr {S S' : Sta} (s : Step S S') : Tr S S' := ⟨s.G, s.al, fun _ _ f => f.mono s⟩
theorem Tr.refl (S : Sta) : Tr S S := ⟨rfl, List.prefix_rfl, fun _ _ h => h⟩
theorem Tr.trans {S S1 S2 : Sta} (a : Tr S S1) (b : Tr S1 S2) : Tr S S2 := ⟨b.G.trans a.G, a.al.trans b.al, fun _ _ h => b.fz _ _ (a.fz _ _ h)⟩
theorem RdL.tr {S S' : Sta} (s : Tr S S') {p : Addr} {vs : List V} (h : RdL S p vs) : RdL S' p vs :=
  h.imp (fun ⟨ob, f⟩ => ⟨ob, s.fz _ _ f⟩) (fun z => z.imp (s.fz _ _) (fun z => by rw [s.G]; exact z))
mutual
theorem Rv.tr {S S' : Sta} (s : Tr S S') : ∀ {t : T} {v : V}, Rv S t v → Rv S' t v
  | .non, v, h => by simp only [Rv] at h ⊢; exact h
  | .bl b, v, h => by simp only [Rv] at h ⊢; exact h
  | .int i, v, h => by simp only [Rv] at h ⊢; exact h
  | .str x, v, h => by simp only [Rv] at h ⊢; exact h
  | .ref a, v, h => by simp only [Rv] at h ⊢; rw [s.G]; exact h
  | .tup l, v, h => by
    simp only [Rv] at h ⊢
    obtain ⟨p, vs, e, f, r⟩ := h
    exact ⟨p, vs, e, s.fz _ _ f, RvL.tr s r⟩
  | .ktp l, v, h => by
    simp only [Rv] at h ⊢
    obtain ⟨p, vs, e, f, r⟩ := h
    exact ⟨p, vs, e, by rw [s.G]; exact f, RvL.tr s r⟩
  | .lst l, v, h => by
    simp only [Rv] at h ⊢
    obtain ⟨p, vs, e, f, r⟩ := h
    exact ⟨p, vs, e, s.fz _ _ f, RvL.tr s r⟩
  | .rdl l, v, h => by
    simp only [Rv] at h ⊢
    obtain ⟨p, vs, e, f, r⟩ := h
    exact ⟨p, vs, e, f.tr s, RvL.tr s r⟩
  | .inst c ns l, v, h => by
    simp only [Rv] at h ⊢
    obtain ⟨p, dx, vs, e, f, n, r⟩ := h
    exact ⟨p, dx, vs, e, by rw [s.G]; exact s.fz _ _ f, n, RvL.tr s r⟩
  | .dct ks l, v, h => by
    simp only [Rv] at h ⊢
    obtain ⟨p, vs, e, f, n, r⟩ := h
    exact ⟨p, vs, e, s.fz _ _ f, n, RvL.tr s r⟩
  | .dctT ks l, v, h => by
    simp only [Rv] at h ⊢
    obtain ⟨p, vs, e, f, n, r⟩ := h
    exact ⟨p, vs, e, s.fz _ _ f, n, RvL.tr s r⟩
  | .obj i, v, h => by
    simp only [Rv] at h ⊢
    obtain ⟨p, e, q⟩ := h
    refine ⟨p, ?_, q⟩
    obtain ⟨r, hr⟩ := s.al
    rw [← hr, List.getElem?_append_left (List.getElem?_eq_some_iff.mp e).1]
    exact e
theorem RvL.tr {S S' : Sta} (s : Tr S S') : ∀ {l : List T} {vs : List V}, RvL S l vs → RvL S' l vs
  | [], _, h => by simp only [RvL] at h ⊢; exact h
  | t :: ts, vs, h => by
    simp only [RvL] at h ⊢
    obtain ⟨v, r, e, h1, h2⟩ := h
    exact ⟨v, r, e, Rv.tr s h1, RvL.tr s h2⟩
end
theorem RdL.mono {S S' : Sta} (s : Step S S') {p : Addr} {vs : List V} (h : RdL S p vs) : RdL S' p vs := h.tr s.tr
theorem Rv.mono {S S' : Sta} (s : Step S S') {t : T} {v : V} (h : Rv S t v) : Rv S' t v := h.tr s.tr
theorem RvL.mono {S S' : Sta} (s : Step S S') {l : List T} {vs : List V} (h : RvL S l vs) : RvL S' l vs := h.tr s.tr
theorem RvK.tr {κ : Type} {S S' : Sta} (s : Tr S S') : ∀ {m : List (κ × T)} {vs : List (κ × V)}, RvK S m vs → RvK S' m vs
  | [], _, h => h
  | (k, t) :: r, _, ⟨v, m', e, h1, h2⟩ => ⟨v, m', e, h1.tr s, RvK.tr s h2⟩
theorem RvK.mono {κ : Type} {S S' : Sta} (s : Step S S') {m : List (κ × T)} {vs : List (κ × V)} (h : RvK S m vs) : RvK S' m vs := h.tr s.tr
theorem RO.tr {S S' : Sta} (s : Tr S S') : ∀ {o : O} {u : HO}, RO S o u → RO S' o u
  | .lst _, _, ⟨vs, e, r⟩ => ⟨vs, e, r.tr s⟩
  | .dct _, _, ⟨vs, e, r⟩ => ⟨vs, e, r.tr s⟩
  | .dctT _, _, ⟨vs, e, r⟩ => ⟨vs, e, r.tr s⟩
  | .ins _ _, _, ⟨dx, vs, e, r⟩ => ⟨dx, vs, by rw [s.G]; exact e, r.tr s⟩
theorem RO.mono {S S' : Sta} (s : Step S S') {o : O} {u : HO} (h : RO S o u) : RO S' o u := h.tr s.tr
theorem RvL.len {S : Sta} : ∀ {l : List T} {vs : List V}, RvL S l vs → vs.length = l.length
  | [], _, h => by simp only [RvL] at h; subst h; rfl
  | t :: ts, vs, h => by
    simp only [RvL] at h
    obtain ⟨v, r, rfl, _, h2⟩ := h
    simp [RvL.len h2]
theorem RvL.get {S : Sta} : ∀ {l : List T} {vs : List V} {i : Nat} {t : T}, RvL S l vs → l[i]? = some t → ∃ v, vs[i]? = some v ∧ Rv S t v
  | [], _, _, _, _, e => by simp at e
  | t :: ts, vs, 0, _, h, e => by
    simp only [RvL] at h
    obtain ⟨v, r, rfl, h1, h2⟩ := h
    simp at e; subst e
    exact ⟨v, by simp, h1⟩
  | t :: ts, vs, i + 1, u, h, e => by
    simp only [RvL] at h
    obtain ⟨v, r, rfl, h1, h2⟩ := h
    obtain ⟨w, hw, q⟩ := RvL.get (i := i) (t := u) h2 (by simpa using e)
    exact ⟨w, by simpa using hw, q⟩
theorem RvL.nil {S : Sta} : RvL S [] [] := by simp only [RvL]
theorem RvL.cons {S : Sta} {t : T} {v : V} {l : List T} {vs : List V} (a : Rv S t v) (b : RvL S l vs) : RvL S (t :: l) (v :: vs) := by
  simp only [RvL]; exact ⟨v, vs, rfl, a, b⟩
theorem RvL.app {S : Sta} : ∀ {l m : List T} {vs ws : List V}, RvL S l vs → RvL S m ws → RvL S (l ++ m) (vs ++ ws)
  | [], _, _, _, a, b => by simp only [RvL] at a; subst a; exact b
  | t :: ts, m, vs, ws, a, b => by
    simp only [RvL] at a
    obtain ⟨v, r, rfl, h1, h2⟩ := a
    exact RvL.cons h1 (RvL.app h2 b)
theorem RvL.take {S : Sta} : ∀ {l : List T} {vs : List V} (n : Nat), RvL S l vs → RvL S (l.take n) (vs.take n)
  | l, vs, 0, _ => by simp only [List.take_zero]; exact RvL.nil
  | [], _, n + 1, h => by simp only [RvL] at h; subst h; exact RvL.nil
  | t :: ts, vs, n + 1, h => by
    simp only [RvL] at h
    obtain ⟨v, r, rfl, h1, h2⟩ := h
    exact RvL.cons h1 (RvL.take n h2)
theorem RvL.drop {S : Sta} : ∀ {l : List T} {vs : List V} (n : Nat), RvL S l vs → RvL S (l.drop n) (vs.drop n)
  | l, vs, 0, h => h
  | [], _, n + 1, h => by simp only [RvL] at h; subst h; exact RvL.nil
  | t :: ts, vs, n + 1, h => by
    simp only [RvL] at h
    obtain ⟨v, r, rfl, h1, h2⟩ := h
    exact RvL.drop n h2
theorem RvL.set {S : Sta} {t : T} {v : V} (a : Rv S t v) : ∀ {l : List T} {vs : List V} (i : Nat), RvL S l vs → RvL S (l.set i t) (vs.set i v)
  | [], _, _, h => by simp only [RvL] at h; subst h; exact RvL.nil
  | t' :: ts, vs, 0, h => by
    simp only [RvL] at h
    obtain ⟨w, r, rfl, h1, h2⟩ := h
    exact RvL.cons a h2
  | t' :: ts, vs, i + 1, h => by
    simp only [RvL] at h
    obtain ⟨w, r, rfl, h1, h2⟩ := h
    exact RvL.cons h1 (RvL.set a i h2)
theorem RvL.erase {S : Sta} : ∀ {l : List T} {vs : List V} (i : Nat), RvL S l vs → RvL S (l.eraseIdx i) (vs.eraseIdx i)
  | [], _, _, h => by simp only [RvL] at h; subst h; exact RvL.nil
  | t' :: ts, vs, 0, h => by
    simp only [RvL] at h
    obtain ⟨w, r, rfl, h1, h2⟩ := h
    exact h2
  | t' :: ts, vs, i + 1, h => by
    simp only [RvL] at h
    obtain ⟨w, r, rfl, h1, h2⟩ := h
    exact RvL.cons h1 (RvL.erase i h2)
theorem RvL.rev {S : Sta} : ∀ {l : List T} {vs : List V}, RvL S l vs → RvL S l.reverse vs.reverse
  | [], _, h => by simp only [RvL] at h; subst h; exact RvL.nil
  | t :: ts, vs, h => by
    simp only [RvL] at h
    obtain ⟨w, r, rfl, h1, h2⟩ := h
    rw [List.reverse_cons, List.reverse_cons]
    exact (RvL.rev h2).app (RvL.cons h1 RvL.nil)
/-- ints -/
theorem RvL.ints {S : Sta} : ∀ {ns : List Int} {vs : List V}, RvL S (ns.map T.int) vs → vs = ns.map V.int
  | [], _, h => by simp only [List.map_nil, RvL] at h; exact h
  | n :: ns, vs, h => by
    simp only [List.map_cons, RvL] at h
    obtain ⟨w, r, rfl, h1, h2⟩ := h
    simp only [Rv] at h1
    subst h1
    rw [RvL.ints h2]; rfl

/-! ### the moves of the tracked heap -/
variable {S : Sta}
/-- a new tracked object -/
def Sta.push (S : Sta) (p : Addr) (o : O) (H' : Hp) : Sta := ⟨S.G, S.al ++ [p], S.h ++ [some o], H', S.pv⟩
theorem Step.al_lt {S S' : Sta} (s : Step S S') {i : Nat} {p : Addr} (h : S.al[i]? = some p) : S'.al[i]? = some p := by
  obtain ⟨r, hr⟩ := s.al
  rw [← hr, List.getElem?_append_left (List.getElem?_eq_some_iff.mp h).1]
  exact h
theorem trk_push {p : Addr} {o : O} {H' : Hp} (k : Ok S) {b : Addr} : Trk (S.push p o H') b ↔ Trk S b ∨ b = p := by
  constructor
  · rintro ⟨i, o', h1, h2⟩
    by_cases hi : i < S.al.length
    · simp only [Sta.push] at h1 h2
      rw [List.getElem?_append_left hi] at h1
      rw [List.getElem?_append_left (by rw [← k.len]; exact hi)] at h2
      exact .inl ⟨i, o', h1, h2⟩
    · simp only [Sta.push] at h1
      rw [List.getElem?_append_right (by omega)] at h1
      have : i - S.al.length = 0 := by
        have := (List.getElem?_eq_some_iff.mp h1).1
        simp at this; omega
      rw [this] at h1
      simp at h1
      exact .inr h1.symm
  · rintro (⟨i, o', h1, h2⟩ | rfl)
    · refine ⟨i, o', ?_, ?_⟩
      · simp only [Sta.push]; rw [List.getElem?_append_left (List.getElem?_eq_some_iff.mp h1).1]; exact h1
      · simp only [Sta.push]; rw [List.getElem?_append_left (List.getElem?_eq_some_iff.mp h2).1]; exact h2
    · refine ⟨S.al.length, o, ?_, ?_⟩
      · simp [Sta.push]
      · simp only [Sta.push]; rw [k.len]; simp
theorem own_push {p : Addr} {o : O} {H' : Hp} (k : Ok S) {b : Addr} : Own (S.push p o H') b ↔ Own S b ∨ b = p := by
  unfold Own
  rw [trk_push k]
  show (Trk S b ∨ b = p) ∨ b ∈ S.pv ↔ _
  constructor
  · rintro ((h | h) | h)
    · exact .inl (.inl h)
    · exact .inr h
    · exact .inl (.inr h)
  · rintro ((h | h) | h)
    · exact .inl (.inl h)
    · exact .inr h
    · exact .inl (.inr h)
/-- the heap that grows by what was free -/
def Grow (H H' : Hp) : Prop := ∀ b o, H b = some o → H' b = some o
theorem Grow.upd {H : Hp} {p : Addr} {u : HO} (n : H p = none) : Grow H (upd H p u) := fun b o e => by
  rw [upd_ne (ne_of_none e n)]; exact e
theorem Grow.trans {H H1 H2 : Hp} (a : Grow H H1) (b : Grow H1 H2) : Grow H H2 := fun c o e => b c o (a c o e)
theorem grow_pv {H' : Hp} (k : Ok S) (g : Grow S.H H') : ∀ b ∈ S.pv, H' b = S.H b := fun b hb => by
  obtain ⟨u, hu⟩ := (k.priv b hb).1
  rw [hu]; exact g _ _ hu
theorem step_push {p : Addr} {o : O} {H' : Hp} (k : Ok S) (n : S.H p = none) (g : Grow S.H H') : Step S (S.push p o H') :=
  ⟨rfl, List.prefix_append _ _, fun b o e _ => g b o e, fun b h => ((own_push k).mp h).imp id (fun e => by rw [e]; exact n), rfl, grow_pv k g⟩
theorem ok_push {p : Addr} {o : O} {u : HO} {H' : Hp} (k : Ok S) (n : S.H p = none) (g : Grow S.H H') (hp : H' p = some u) (r : RO (S.push p o H') o u) : Ok (S.push p o H') := by
  have st := step_push (o := o) k n g
  refine ⟨by simp [Sta.push, k.len], ?_, ?_, fun q hq => ⟨?_, fun z => ?_⟩⟩
  rotate_left 2
  · obtain ⟨u', hu⟩ := (k.priv q hq).1
    exact ⟨u', g _ _ hu⟩
  · rcases (trk_push k).mp z with z | z
    · exact (k.priv q hq).2 z
    · obtain ⟨u', hu⟩ := (k.priv q hq).1
      rw [z, n] at hu; cases hu
  · intro i o' q h1 h2
    by_cases hi : i < S.h.length
    · simp only [Sta.push] at h1 h2
      rw [List.getElem?_append_left hi] at h1
      rw [List.getElem?_append_left (by rw [k.len]; exact hi)] at h2
      obtain ⟨u', hu, ru⟩ := k.rel i o' q h1 h2
      exact ⟨u', g _ _ hu, ru.mono st⟩
    · simp only [Sta.push] at h1 h2
      rw [List.getElem?_append_right (by omega)] at h1
      rw [List.getElem?_append_right (by rw [k.len]; omega)] at h2
      have : i - S.h.length = 0 := by
        have := (List.getElem?_eq_some_iff.mp h1).1
        simp at this; omega
      rw [k.len, this] at h2
      rw [this] at h1
      simp at h1 h2
      subst h1; subst h2
      exact ⟨u, hp, r⟩
  · intro i j o1 o2 q h1 h2 a1 a2
    have key : ∀ i o1, (S.push p o H').h[i]? = some (some o1) → (S.push p o H').al[i]? = some q → (i < S.h.length ∧ S.h[i]? = some (some o1) ∧ S.al[i]? = some q ∧ S.H q ≠ none) ∨ (i = S.h.length ∧ q = p) := by
      intro i o1 h1 a1
      by_cases hi : i < S.h.length
      · simp only [Sta.push] at h1 a1
        rw [List.getElem?_append_left hi] at h1
        rw [List.getElem?_append_left (by rw [k.len]; exact hi)] at a1
        obtain ⟨u', hu, _⟩ := k.rel i o1 q h1 a1
        exact .inl ⟨hi, h1, a1, by rw [hu]; simp⟩
      · simp only [Sta.push] at h1 a1
        rw [List.getElem?_append_right (by omega)] at h1
        rw [List.getElem?_append_right (by rw [k.len]; omega)] at a1
        have e : i - S.h.length = 0 := by
          have := (List.getElem?_eq_some_iff.mp h1).1
          simp at this; omega
        rw [k.len, e] at a1
        simp at a1
        exact .inr ⟨by omega, a1.symm⟩
    rcases key i o1 h1 a1 with ⟨b1, b2, b3, b4⟩ | ⟨b1, b2⟩ <;> rcases key j o2 h2 a2 with ⟨c1, c2, c3, c4⟩ | ⟨c1, c2⟩
    · exact k.inj i j o1 o2 q b2 c2 b3 c3
    · subst c2; exact absurd n b4
    · subst b2; exact absurd n c4
    · omega
/-- the heap grows, nothing new is tracked -/
def Sta.at (S : Sta) (H' : Hp) : Sta := ⟨S.G, S.al, S.h, H', S.pv⟩
theorem own_at {H' : Hp} {b : Addr} : Own (S.at H') b ↔ Own S b := Iff.rfl
theorem step_at {H' : Hp} (k : Ok S) (g : Grow S.H H') : Step S (S.at H') := ⟨rfl, List.prefix_rfl, fun b o e _ => g b o e, fun _ h => .inl h, rfl, grow_pv k g⟩
theorem ok_at {H' : Hp} (k : Ok S) (g : Grow S.H H') : Ok (S.at H') :=
  ⟨k.len, fun i o p h1 h2 => by
    obtain ⟨u, hu, r⟩ := k.rel i o p h1 h2
    exact ⟨u, g _ _ hu, r.mono (step_at k g)⟩, k.inj, fun q hq => ⟨by
      obtain ⟨u', hu⟩ := (k.priv q hq).1
      exact ⟨u', g _ _ hu⟩, (k.priv q hq).2⟩⟩
theorem fz_new {H' : Hp} {p : Addr} {u : HO} (k : Ok S) (n : S.H p = none) (hp : H' p = some u) : Fz (S.at H') p u := ⟨hp, fun z => k.fresh n z⟩
/-- a tracked object changes -/
def Sta.put (S : Sta) (i : Nat) (o : O) (H' : Hp) : Sta := ⟨S.G, S.al, S.h.set i (some o), H', S.pv⟩
theorem trk_put {i : Nat} {o o' : O} {H' : Hp} (h : S.h[i]? = some (some o)) {b : Addr} : Trk (S.put i o' H') b ↔ Trk S b := by
  have hl := (List.getElem?_eq_some_iff.mp h).1
  constructor
  · rintro ⟨j, u, h1, h2⟩
    by_cases e : i = j
    · subst e; exact ⟨i, o, h1, h⟩
    · exact ⟨j, u, h1, by simp only [Sta.put] at h2; rw [List.getElem?_set_ne e] at h2; exact h2⟩
  · rintro ⟨j, u, h1, h2⟩
    by_cases e : i = j
    · subst e; exact ⟨i, o', h1, by simp only [Sta.put]; rw [List.getElem?_set_self hl]⟩
    · exact ⟨j, u, h1, by simp only [Sta.put]; rw [List.getElem?_set_ne e]; exact h2⟩
theorem own_put {i : Nat} {o o' : O} {H' : Hp} (h : S.h[i]? = some (some o)) {b : Addr} : Own (S.put i o' H') b ↔ Own S b := by
  unfold Own
  rw [trk_put h]
  exact Iff.rfl
theorem step_put {i : Nat} {o o' : O} {p : Addr} {u : HO} (k : Ok S) (h : S.h[i]? = some (some o)) (hp : S.al[i]? = some p) : Step S (S.put i o' (upd S.H p u)) :=
  ⟨rfl, List.prefix_rfl, fun b w e n => by
    simp only [Sta.put]
    rw [upd_ne (fun z => n (by rw [z]; exact .inl ⟨i, o, hp, h⟩))]; exact e, fun b z => .inl ((own_put h).mp z), rfl, fun b hb => by
    show upd S.H p u b = _
    rw [upd_ne (fun z => (k.priv b hb).2 (by rw [z]; exact ⟨i, o, hp, h⟩))]⟩
theorem ok_put {i : Nat} {o o' : O} {p : Addr} {u : HO} (k : Ok S) (h : S.h[i]? = some (some o)) (hp : S.al[i]? = some p) (r : RO S o' u) : Ok (S.put i o' (upd S.H p u)) := by
  have st := step_put (o' := o') (u := u) k h hp
  have hl := (List.getElem?_eq_some_iff.mp h).1
  have back : ∀ (j : Nat) (w : O), (S.put i o' (upd S.H p u)).h[j]? = some (some w) → ∃ w' : O, S.h[j]? = some (some w') := by
    intro j w hj
    simp only [Sta.put] at hj
    by_cases e : i = j
    · subst e; exact ⟨o, h⟩
    · rw [List.getElem?_set_ne e] at hj; exact ⟨w, hj⟩
  refine ⟨by simp [Sta.put, k.len], ?_, ?_, fun q hq => ⟨?_, fun z => (k.priv q hq).2 ((trk_put h).mp z)⟩⟩
  rotate_left 2
  · obtain ⟨u', hu⟩ := (k.priv q hq).1
    rw [← st.pk q hq] at hu
    exact ⟨u', hu⟩
  · intro j w q h1 h2
    by_cases e : i = j
    · subst e
      simp only [Sta.put] at h1 h2
      rw [List.getElem?_set_self hl] at h1
      rw [hp] at h2
      cases h1; cases h2
      exact ⟨u, upd_same, r.mono st⟩
    · simp only [Sta.put] at h1 h2
      rw [List.getElem?_set_ne e] at h1
      obtain ⟨u', hu, ru⟩ := k.rel j w q h1 h2
      refine ⟨u', ?_, ru.mono st⟩
      simp only [Sta.put]
      rw [upd_ne]
      · exact hu
      · rintro rfl
        exact e (k.inj i j o w q h h1 hp h2)
  · intro j l w1 w2 q h1 h2 a1 a2
    obtain ⟨w1', h1'⟩ := back j w1 h1
    obtain ⟨w2', h2'⟩ := back l w2 h2
    exact k.inj j l w1' w2' q h1' h2' a1 a2
/-- a tracked object is let go -/
def Sta.gone (S : Sta) (i : Nat) : Sta := ⟨S.G, S.al, S.h.set i none, S.H, S.pv⟩
theorem trk_gone {i : Nat} {b : Addr} (h : Trk (S.gone i) b) : ∃ (j : Nat) (o : O), j ≠ i ∧ S.al[j]? = some b ∧ S.h[j]? = some (some o) := by
  obtain ⟨j, o, h1, h2⟩ := h
  simp only [Sta.gone] at h1 h2
  by_cases e : i = j
  · subst e
    rw [List.getElem?_set] at h2
    simp at h2
  · rw [List.getElem?_set_ne e] at h2
    exact ⟨j, o, Ne.symm e, h1, h2⟩
theorem own_gone {i : Nat} {b : Addr} (h : Own (S.gone i) b) : Own S b := by
  rcases h with h | h
  · obtain ⟨j, o, _, h1, h2⟩ := trk_gone h
    exact .inl ⟨j, o, h1, h2⟩
  · exact .inr h
theorem step_gone (i : Nat) : Step S (S.gone i) := ⟨rfl, List.prefix_rfl, fun _ _ h _ => h, fun b z => .inl (own_gone z), rfl, fun _ _ => rfl⟩
theorem ok_gone {i : Nat} (k : Ok S) : Ok (S.gone i) := by
  have back : ∀ (j : Nat) (w : O), (S.gone i).h[j]? = some (some w) → S.h[j]? = some (some w) := by
    intro j w hj
    simp only [Sta.gone] at hj
    by_cases e : i = j
    · subst e; rw [List.getElem?_set] at hj; simp at hj
    · rw [List.getElem?_set_ne e] at hj; exact hj
  exact ⟨by simp [Sta.gone, k.len], fun j w q h1 h2 => by
    obtain ⟨u, hu, ru⟩ := k.rel j w q (back j w h1) h2
    exact ⟨u, hu, ru.mono (step_gone i)⟩, fun j l w1 w2 q h1 h2 => k.inj j l w1 w2 q (back _ _ h1) (back _ _ h2), fun q hq => ⟨(k.priv q hq).1, fun z => by
      obtain ⟨j, o, _, h1, h2⟩ := trk_gone z
      exact (k.priv q hq).2 ⟨j, o, h1, h2⟩⟩⟩
theorem nown_gone {i : Nat} {o : O} {p : Addr} (k : Ok S) (h : S.h[i]? = some (some o)) (hp : S.al[i]? = some p) : ¬ Own (S.gone i) p := fun z => by
  rcases z with z | z
  · obtain ⟨j, o', ne, h1, h2⟩ := trk_gone z
    exact ne (k.inj j i o' o p h2 h h1 hp)
  · exact (k.priv p z).2 ⟨i, o, hp, h⟩
/-- something new is made in private -/
def Sta.hide (S : Sta) (p : Addr) (H' : Hp) : Sta := ⟨S.G, S.al, S.h, H', p :: S.pv⟩
/-- what was made in private is given out -/
def Sta.show (S : Sta) (pv : List Addr) : Sta := ⟨S.G, S.al, S.h, S.H, pv⟩
theorem tr_hide {p : Addr} {u : HO} (n : S.H p = none) : Tr S (S.hide p (upd S.H p u)) := ⟨rfl, List.prefix_rfl, fun q o f => by
  have ne : q ≠ p := fun z => by rw [z] at f; rw [f.1] at n; cases n
  refine ⟨by show upd S.H p u q = _; rw [upd_ne ne]; exact f.1, fun z => ?_⟩
  rcases z with z | z
  · exact f.2 (.inl z)
  · rcases List.mem_cons.mp z with z | z
    · exact ne z
    · exact f.2 (.inr z)⟩
theorem ok_hide {p : Addr} {u : HO} (k : Ok S) (n : S.H p = none) : Ok (S.hide p (upd S.H p u)) := ⟨k.len, fun i o q h1 h2 => by
    obtain ⟨w, hw, r⟩ := k.rel i o q h1 h2
    exact ⟨w, Grow.upd n _ _ hw, r.tr (tr_hide n)⟩, k.inj, fun q hq => by
    rcases List.mem_cons.mp hq with rfl | hq
    · exact ⟨⟨u, upd_same⟩, fun z => k.fresh n (.inl z)⟩
    · obtain ⟨⟨w, hw⟩, nt⟩ := k.priv q hq
      exact ⟨⟨w, Grow.upd n _ _ hw⟩, nt⟩⟩
theorem tr_show {p : Addr} {pv : List Addr} (e : S.pv = p :: pv) : Tr S (S.show pv) := ⟨rfl, List.prefix_rfl, fun q o f => ⟨f.1, fun z => by
  rcases z with z | z
  · exact f.2 (.inl z)
  · exact f.2 (.inr (by rw [e]; exact List.mem_cons_of_mem _ z))⟩⟩
theorem ok_show {p : Addr} {pv : List Addr} (k : Ok S) (e : S.pv = p :: pv) : Ok (S.show pv) := ⟨k.len, fun i o q h1 h2 => by
    obtain ⟨w, hw, r⟩ := k.rel i o q h1 h2
    exact ⟨w, hw, r.tr (tr_show e)⟩, k.inj, fun q hq => k.priv q (by rw [e]; exact List.mem_cons_of_mem _ hq)⟩
/-- the private thing changes -/
def Sta.fill (S : Sta) (H' : Hp) : Sta := ⟨S.G, S.al, S.h, H', S.pv⟩
theorem tr_fill {p : Addr} {u : HO} (h : p ∈ S.pv) : Tr S (S.fill (upd S.H p u)) := ⟨rfl, List.prefix_rfl, fun q o f => ⟨by
    show upd S.H p u q = _
    rw [upd_ne (fun z => f.2 (.inr (by rw [z]; exact h)))]; exact f.1, f.2⟩⟩
theorem ok_fill {p : Addr} {u : HO} (k : Ok S) (h : p ∈ S.pv) : Ok (S.fill (upd S.H p u)) := ⟨k.len, fun i o q h1 h2 => by
    obtain ⟨w, hw, r⟩ := k.rel i o q h1 h2
    refine ⟨w, ?_, r.tr (tr_fill h)⟩
    show upd S.H p u q = _
    rw [upd_ne (fun z => (k.priv p h).2 ⟨i, o, by rw [← z]; exact h2, h1⟩)]; exact hw, k.inj, fun q hq => by
    obtain ⟨⟨w, hw⟩, nt⟩ := k.priv q hq
    by_cases z : q = p
    · subst z; exact ⟨⟨u, upd_same⟩, nt⟩
    · exact ⟨⟨w, by show upd S.H p u q = _; rw [upd_ne z]; exact hw⟩, nt⟩⟩
/-- what the public sees while something is made in private: S0 before, S now -/
structure Priv (S0 S : Sta) (p : Addr) : Prop where
  st : Step S0 (S.show S0.pv)
  pv : S.pv = p :: S0.pv
  new : S0.H p = none
theorem Priv.start {p : Addr} {u : HO} (k : Ok S) (n : S.H p = none) : Priv S (S.hide p (upd S.H p u)) p :=
  ⟨⟨rfl, List.prefix_rfl, fun b o e _ => Grow.upd n b o e, fun b z => .inl z, rfl, fun b hb => grow_pv k (Grow.upd n) b hb⟩, rfl, n⟩
theorem Priv.tr {S0 S : Sta} {p : Addr} (x : Priv S0 S p) : Tr S0 S := ⟨x.st.G, x.st.al, fun q o f => by
  obtain ⟨h1, h2⟩ := f.mono x.st
  refine ⟨h1, fun z => ?_⟩
  rcases z with z | z
  · exact h2 (.inl z)
  · rw [x.pv] at z
    rcases List.mem_cons.mp z with z | z
    · rw [z] at f; have := f.1; rw [x.new] at this; cases this
    · exact h2 (.inr z)⟩
theorem Priv.step {S0 S S' : Sta} {p : Addr} (x : Priv S0 S p) (k0 : Ok S0) (k : Ok S) (k' : Ok S') (s : Step S S') : Priv S0 S' p := by
  have hp : p ∈ S.pv := by rw [x.pv]; exact List.mem_cons_self
  refine ⟨x.st.trans ⟨s.G, s.al, fun b o e n => ?_, fun b z => ?_, rfl, fun b hb => ?_⟩, s.pv.trans x.pv, x.new⟩
  · by_cases z : b = p
    · subst z; exact (s.pk b hp).trans e
    · refine s.keep b o e fun w => ?_
      rcases w with w | w
      · exact n (.inl w)
      · rw [x.pv] at w
        rcases List.mem_cons.mp w with w | w
        · exact z w
        · exact n (.inr w)
  · have hb : Own S' b := by
      rcases z with z | z
      · exact .inl z
      · exact .inr (by rw [s.pv, x.pv]; exact List.mem_cons_of_mem _ z)
    rcases s.own b hb with w | w
    · rcases w with w | w
      · exact .inl (.inl w)
      · rw [x.pv] at w
        rcases List.mem_cons.mp w with w | w
        · subst w
          rcases z with z | z
          · exact absurd z (k'.priv b (by rw [s.pv]; exact hp)).2
          · exact .inl (.inr z)
        · exact .inl (.inr w)
    · exact .inr w
  · exact s.pk b (by rw [x.pv]; exact List.mem_cons_of_mem _ hb)
theorem Priv.fill {S0 S : Sta} {p : Addr} {u : HO} (x : Priv S0 S p) (k0 : Ok S0) : Priv S0 (S.fill (upd S.H p u)) p := by
  refine ⟨⟨x.st.G, x.st.al, fun b o e n => ?_, x.st.own, rfl, fun b hb => ?_⟩, x.pv, x.new⟩
  · have ne : b ≠ p := fun z => by rw [z, x.new] at e; cases e
    show upd S.H p u b = _
    rw [upd_ne ne]; exact x.st.keep b o e n
  · have ne : b ≠ p := fun z => by
      obtain ⟨w, hw⟩ := (k0.priv b hb).1
      rw [z, x.new] at hw; cases hw
    show upd S.H p u b = _
    rw [upd_ne ne]; exact x.st.pk b hb
theorem Priv.nown {S0 S : Sta} {p : Addr} (x : Priv S0 S p) (k0 : Ok S0) (k : Ok S) : ¬ Own (S.show S0.pv) p := fun z => by
  rcases z with z | z
  · exact (k.priv p (by rw [x.pv]; exact List.mem_cons_self)).2 z
  · exact k0.fresh x.new (.inr z)
/-- the private thing becomes a tracked one -/
def Sta.adopt (S : Sta) (pv : List Addr) (p : Addr) (o : O) : Sta := ⟨S.G, S.al ++ [p], S.h ++ [some o], S.H, pv⟩
theorem Priv.adopt {S0 S : Sta} {p : Addr} {o : O} {u : HO} (x : Priv S0 S p) (k0 : Ok S0) (k : Ok S) (hp : S.H p = some u) (r : RO S o u) : Ok (S.adopt S0.pv p o) ∧ Step S0 (S.adopt S0.pv p o) := by
  have hm : p ∈ S.pv := by rw [x.pv]; exact List.mem_cons_self
  have nt := (k.priv p hm).2
  have trk : ∀ b, Trk (S.adopt S0.pv p o) b → Trk S b ∨ b = p := by
    rintro b ⟨i, o', h1, h2⟩
    by_cases hi : i < S.al.length
    · simp only [Sta.adopt] at h1 h2
      rw [List.getElem?_append_left hi] at h1
      rw [List.getElem?_append_left (by rw [← k.len]; exact hi)] at h2
      exact .inl ⟨i, o', h1, h2⟩
    · simp only [Sta.adopt] at h1
      rw [List.getElem?_append_right (by omega)] at h1
      have : i - S.al.length = 0 := by
        have := (List.getElem?_eq_some_iff.mp h1).1
        simp at this; omega
      rw [this] at h1
      simp at h1
      exact .inr h1.symm
  have tr : Tr S (S.adopt S0.pv p o) := ⟨rfl, List.prefix_append _ _, fun q w f => ⟨f.1, fun z => by
    rcases z with z | z
    · rcases trk q z with z | z
      · exact f.2 (.inl z)
      · exact f.2 (.inr (by rw [z]; exact hm))
    · exact f.2 (.inr (by rw [x.pv]; exact List.mem_cons_of_mem _ z))⟩⟩
  constructor
  · refine ⟨by simp [Sta.adopt, k.len], ?_, ?_, ?_⟩
    · intro i o' q h1 h2
      by_cases hi : i < S.h.length
      · simp only [Sta.adopt] at h1 h2
        rw [List.getElem?_append_left hi] at h1
        rw [List.getElem?_append_left (by rw [k.len]; exact hi)] at h2
        obtain ⟨u', hu, ru⟩ := k.rel i o' q h1 h2
        exact ⟨u', hu, ru.tr tr⟩
      · simp only [Sta.adopt] at h1 h2
        rw [List.getElem?_append_right (by omega)] at h1
        rw [List.getElem?_append_right (by rw [k.len]; omega)] at h2
        have : i - S.h.length = 0 := by
          have := (List.getElem?_eq_some_iff.mp h1).1
          simp at this; omega
        rw [k.len, this] at h2
        rw [this] at h1
        simp at h1 h2
        subst h1; subst h2
        exact ⟨u, hp, r.tr tr⟩
    · intro i j o1 o2 q h1 h2 a1 a2
      have key : ∀ (i : Nat) (o1 : O), (S.adopt S0.pv p o).h[i]? = some (some o1) → (S.adopt S0.pv p o).al[i]? = some q → (i < S.h.length ∧ S.h[i]? = some (some o1) ∧ S.al[i]? = some q ∧ q ≠ p) ∨ (i = S.h.length ∧ q = p) := by
        intro i o1 h1 a1
        by_cases hi : i < S.h.length
        · simp only [Sta.adopt] at h1 a1
          rw [List.getElem?_append_left hi] at h1
          rw [List.getElem?_append_left (by rw [k.len]; exact hi)] at a1
          exact .inl ⟨hi, h1, a1, fun z => nt ⟨i, o1, by rw [← z]; exact a1, h1⟩⟩
        · simp only [Sta.adopt] at h1 a1
          rw [List.getElem?_append_right (by omega)] at h1
          rw [List.getElem?_append_right (by rw [k.len]; omega)] at a1
          have e : i - S.h.length = 0 := by
            have := (List.getElem?_eq_some_iff.mp h1).1
            simp at this; omega
          rw [k.len, e] at a1
          simp at a1
          exact .inr ⟨by omega, a1.symm⟩
      rcases key i o1 h1 a1 with ⟨b1, b2, b3, b4⟩ | ⟨b1, b2⟩ <;> rcases key j o2 h2 a2 with ⟨c1, c2, c3, c4⟩ | ⟨c1, c2⟩
      · exact k.inj i j o1 o2 q b2 c2 b3 c3
      · exact absurd c2 b4
      · exact absurd b2 c4
      · omega
    · intro q hq
      refine ⟨(k.priv q (by rw [x.pv]; exact List.mem_cons_of_mem _ hq)).1, fun z => ?_⟩
      rcases trk q z with z | z
      · exact (k.priv q (by rw [x.pv]; exact List.mem_cons_of_mem _ hq)).2 z
      · exact k0.fresh x.new (.inr (by rw [← z]; exact hq))
  · refine ⟨x.st.G, x.st.al.trans (List.prefix_append _ _), x.st.keep, fun b z => ?_, rfl, x.st.pk⟩
    rcases z with z | z
    · rcases trk b z with z | z
      · exact x.st.own b (.inl z)
      · rw [z]; exact .inr x.new
    · exact .inl (.inr z)
end M
/-! ### what a piece of the program does, as a function on trees and the tracked heap; and that it stands for the layer's readings -/
namespace M
open PySem PySem.Spec PyProof.Rows L2

inductive Res (α : Type) where
  | bad | ok (a : α) (h : AH) | exc (e : Exc) (h : AH)
  deriving Inhabited
def Res.bind {α β : Type} (x : Res α) (f : α → AH → Res β) : Res β := match x with | .bad => .bad | .ok a h => f a h | .exc e h => .exc e h
@[simp] theorem bind_ok {α β : Type} {a : α} {h : AH} {f : α → AH → Res β} : Res.bind (.ok a h) f = f a h := rfl
@[simp] theorem bind_bad {α β : Type} {f : α → AH → Res β} : Res.bind .bad f = .bad := rfl
@[simp] theorem bind_exc {α β : Type} {e : Exc} {h : AH} {f : α → AH → Res β} : Res.bind (.exc e h) f = .exc e h := rfl
def pur {α : Type} (o : Option α) (h : AH) : Res α := match o with | some a => .ok a h | none => .bad
@[simp] theorem pur_some {α : Type} {a : α} {h : AH} : pur (some a) h = .ok a h := rfl
@[simp] theorem pur_none {α : Type} {h : AH} : pur (none : Option α) h = .bad := rfl
def PostG {α : Type} (S : Sta) (X : Exc → Sta → Prop) (P : α → Sta → Prop) : Res α → Prop
  | .bad => False
  | .ok a h' => ∀ S', S'.h = h' → Ok S' → Step S S' → P a S'
  | .exc e h' => ∀ S', S'.h = h' → Ok S' → Step S S' → X e S'
theorem PostG.mono {α : Type} {S S1 : Sta} {X : Exc → Sta → Prop} {P : α → Sta → Prop} (s : Step S S1) : ∀ {r : Res α}, PostG S X P r → PostG S1 X P r
  | .bad, h => h
  | .ok _ _, h => fun S' e k st => h S' e k (s.trans st)
  | .exc _ _, h => fun S' e k st => h S' e k (s.trans st)
theorem PostG.imp {α : Type} {S : Sta} {X : Exc → Sta → Prop} {P P' : α → Sta → Prop} : ∀ {r : Res α}, (∀ a S', P a S' → P' a S') → PostG S X P r → PostG S X P' r
  | .bad, _, h => h
  | .ok _ _, f, h => fun S' e k st => f _ _ (h S' e k st)
  | .exc _ _, _, h => h
theorem PostG.bind {α β : Type} {S : Sta} {X : Exc → Sta → Prop} {P : β → Sta → Prop} {f : α → AH → Res β} : ∀ {x : Res α}, PostG S X P (x.bind f) → PostG S X (fun a S1 => Ok S1 ∧ Step S S1 ∧ PostG S1 X P (f a S1.h)) x
  | .bad, h => h
  | .ok a h', h => fun S' e k st => by
    subst e
    exact ⟨k, st, PostG.mono st h⟩
  | .exc _ _, h => h
/-- the caught thing, as the layer has it -/
def RX (S : Sta) (e : Exc) (cls : Value) (d : Option Addr) : Prop := cls = .ref (S.G.ca e.c) ∧ ((e.ns = [] ∧ e.l = [] ∧ d = none) ∨ ∃ a vs, d = some a ∧ Fz S a (.xd (e.ns.zip vs)) ∧ e.ns.length = e.l.length ∧ RvL S e.l vs)
def XP (E : XK) : Exc → Sta → Prop := fun e S => ∀ cls d, RX S e cls d → E cls d S.H
abbrev LS := List (Option T)
def RS0 (S : Sta) : LS → L2.St → Prop
  | [], σ => σ = []
  | o :: τ, σ => ∃ v r, σ = v :: r ∧ (∀ t, o = some t → ∃ w, v = some w ∧ Rv S t w) ∧ RS0 S τ r
theorem RS0.mono {S S' : Sta} (s : Step S S') : ∀ {τ : LS} {σ : L2.St}, RS0 S τ σ → RS0 S' τ σ
  | [], _, h => h
  | _ :: _, _, ⟨v, r, e, h, q⟩ => ⟨v, r, e, fun t ht => let ⟨w, h1, h2⟩ := h t ht; ⟨w, h1, h2.mono s⟩, RS0.mono s q⟩
theorem RS0.get {S : Sta} : ∀ {τ : LS} {σ : L2.St} {i : Nat} {t : T}, RS0 S τ σ → τ[i]? = some (some t) → ∃ w : V, σ[i]? = some (some w) ∧ Rv S t w
  | [], _, _, _, _, e => by simp at e
  | o :: τ, _, 0, t, ⟨v, r, rfl, h, q⟩, e => by
    simp at e
    obtain ⟨w, h1, h2⟩ := h t e
    exact ⟨w, by simp [h1], h2⟩
  | o :: τ, _, i + 1, t, ⟨v, r, rfl, h, q⟩, e => by
    obtain ⟨w, h1, h2⟩ := RS0.get (i := i) q (by simpa using e)
    exact ⟨w, by simpa using h1, h2⟩
theorem RS0.set {S : Sta} {t : T} {w : V} (a : Rv S t w) : ∀ {τ : LS} {σ : L2.St} (i : Nat), RS0 S τ σ → RS0 S (τ.set i (some t)) (σ.set i (some w))
  | [], _, _, h => by rw [show _ = [] from h]; rfl
  | _ :: _, _, 0, ⟨v, r, rfl, h, q⟩ => ⟨_, _, rfl, fun t' ht => by cases ht; exact ⟨w, rfl, a⟩, q⟩
  | _ :: _, _, i + 1, ⟨v, r, rfl, h, q⟩ => ⟨_, _, rfl, h, RS0.set a i q⟩
theorem RS0.unset {S : Sta} {v' : Option V} : ∀ {τ : LS} {σ : L2.St} (i : Nat), RS0 S τ σ → RS0 S (τ.set i none) (σ.set i v')
  | [], _, _, h => by rw [show _ = [] from h]; rfl
  | _ :: _, _, 0, ⟨v, r, rfl, h, q⟩ => ⟨_, _, rfl, (fun t' ht => by cases ht), q⟩
  | _ :: _, _, i + 1, ⟨v, r, rfl, h, q⟩ => ⟨_, _, rfl, h, RS0.unset i q⟩
/-- a slot is forgotten -/
theorem RS0.drop1 {S : Sta} : ∀ {τ : LS} {σ : L2.St} (i : Nat), RS0 S τ σ → RS0 S (τ.set i none) σ
  | [], _, _, h => by rw [show _ = [] from h]; rfl
  | _ :: _, _, 0, ⟨v, r, e, h, q⟩ => ⟨v, r, e, (fun t' ht => by cases ht), q⟩
  | _ :: _, _, i + 1, ⟨v, r, e, h, q⟩ => ⟨v, r, e, h, RS0.drop1 i q⟩

theorem RX.tr {S S' : Sta} (s : Tr S S') {e : Exc} {cls : Value} {d : Option Addr} (h : RX S e cls d) : RX S' e cls d := by
  obtain ⟨h1, h2⟩ := h
  refine ⟨by rw [s.G]; exact h1, h2.imp id ?_⟩
  rintro ⟨a, vs, e1, f, n, r⟩
  exact ⟨a, vs, e1, s.fz _ _ f, n, r.tr s⟩
/-- what is caught stands in its slot -/
def XI (S : Sta) (σ : L2.St) : Prop := ∀ x, S.G.ex = some x → σ[x.i]? = some (some (.ref x.a)) ∧ RX S x.e x.cls x.d
theorem XI.tr {S S' : Sta} (s : Tr S S') {σ : L2.St} (h : XI S σ) : XI S' σ := fun x hx => by
  rw [s.G] at hx
  exact ⟨(h x hx).1, (h x hx).2.tr s⟩
/-- the slot is not that of what is caught -/
def NoSl (G : Env) (i : Nat) : Prop := ∀ x, G.ex = some x → i ≠ x.i
theorem noSl_none {G : Env} {i : Nat} (h : G.ex = none) : NoSl G i := fun x hx => by rw [h] at hx; cases hx
theorem noSl_ne {K : PySem.W.Frag} {ca : Str → Addr} {fa : Str → V} {a : Addr} {cls : Value} {d : Option Addr} {i0 : Nat} {e : Exc} {i : Nat} (h : i ≠ i0) : NoSl (Env.mk K ca fa (some ⟨a, cls, d, i0, e⟩)) i := fun y hy => by cases hy; exact h
theorem XI.set {S : Sta} {σ : L2.St} {i : Nat} {v : Option V} (h : XI S σ) (hn : NoSl S.G i) : XI S (σ.set i v) := fun x hx => by
  refine ⟨?_, (h x hx).2⟩
  rw [List.getElem?_set_ne (hn x hx)]
  exact (h x hx).1
structure RS (S : Sta) (τ : LS) (σ : L2.St) : Prop where
  r : RS0 S τ σ
  x : XI S σ
theorem RS.mono {S S' : Sta} (s : Step S S') {τ : LS} {σ : L2.St} (h : RS S τ σ) : RS S' τ σ := ⟨h.r.mono s, h.x.tr s.tr⟩
theorem RS.get {S : Sta} {τ : LS} {σ : L2.St} {i : Nat} {t : T} (h : RS S τ σ) (e : τ[i]? = some (some t)) : ∃ w : V, σ[i]? = some (some w) ∧ Rv S t w := h.r.get e
theorem RS.set {S : Sta} {t : T} {w : V} (a : Rv S t w) {τ : LS} {σ : L2.St} (i : Nat) (hn : NoSl S.G i) (h : RS S τ σ) : RS S (τ.set i (some t)) (σ.set i (some w)) := ⟨RS0.set a i h.r, h.x.set hn⟩
theorem RS.unset {S : Sta} {v' : Option V} {τ : LS} {σ : L2.St} (i : Nat) (hn : NoSl S.G i) (h : RS S τ σ) : RS S (τ.set i none) (σ.set i v') := ⟨RS0.unset i h.r, h.x.set hn⟩
theorem RS.drop1 {S : Sta} {τ : LS} {σ : L2.St} (i : Nat) (h : RS S τ σ) : RS S (τ.set i none) σ := ⟨RS0.drop1 i h.r, h.x⟩
abbrev FE := LS → AH → Res T
abbrev FA := LS → AH → Res (List T)
abbrev FT := LS → AH → Res Bool
def SimE (G : Env) (E : L2.St → XK) (te : TE) (f : FE) : Prop := ∀ (S : Sta) (σ : L2.St) (τ : LS) (Q : VK), S.G = G → Ok S → RS S τ σ → PostG S (XP (E σ)) (fun t S' => ∀ v, Rv S' t v → Q v S'.H) (f τ S.h) → te σ S.H Q
def SimA (G : Env) (E : L2.St → XK) (te : TA) (f : FA) : Prop := ∀ (S : Sta) (σ : L2.St) (τ : LS) (Q : List V → Hp → Prop), S.G = G → Ok S → RS S τ σ → PostG S (XP (E σ)) (fun t S' => ∀ v, RvL S' t v → Q v S'.H) (f τ S.h) → te σ S.H Q
def SimT (G : Env) (E : L2.St → XK) (te : TT) (f : FT) : Prop := ∀ (S : Sta) (σ : L2.St) (τ : LS) (Q : Bool → Hp → Prop), S.G = G → Ok S → RS S τ σ → PostG S (XP (E σ)) (fun t S' => Q t S'.H) (f τ S.h) → te σ S.H Q
def SimR2 (G : Env) (r : R2) (g : T → T → AH → Res T) : Prop := ∀ (S : Sta) (x y : T) (u v : V) (X : Exc → Sta → Prop) (Q : VK), S.G = G → Ok S → Rv S x u → Rv S y v → PostG S X (fun t S' => ∀ v, Rv S' t v → Q v S'.H) (g x y S.h) → r u v S.H Q
def SimR1 (G : Env) (r : V → Hp → VK → Prop) (g : T → AH → Res T) : Prop := ∀ (S : Sta) (x : T) (u : V) (X : Exc → Sta → Prop) (Q : VK), S.G = G → Ok S → Rv S x u → PostG S X (fun t S' => ∀ v, Rv S' t v → Q v S'.H) (g x S.h) → r u S.H Q
def SimRC (G : Env) (r : List V → Hp → VK → Prop) (g : List T → AH → Res T) : Prop := ∀ (S : Sta) (xs : List T) (us : List V) (X : Exc → Sta → Prop) (Q : VK), S.G = G → Ok S → RvL S xs us → PostG S X (fun t S' => ∀ v, Rv S' t v → Q v S'.H) (g xs S.h) → r us S.H Q

section
variable {G : Env} {E : L2.St → XK} {ta tb tc : TE} {fa fb fc : FE}
@[simp] def mVar (i : Nat) : FE := fun τ h => match τ[i]? with | some (some t) => .ok t h | _ => .bad
theorem sim_var {i : Nat} : SimE G E (tVar i) (mVar i) := fun S σ τ Q e k r p => by
  unfold mVar at p
  split at p
  · rename_i t ht
    obtain ⟨w, h1, h2⟩ := r.get ht
    exact ⟨w, h1, p S rfl k (Step.refl S) w h2⟩
  · exact p.elim
@[simp] def mC (t : T) : FE := fun _ h => .ok t h
theorem sim_c {t : T} {v : V} (h : ∀ S, S.G = G → Rv S t v) : SimE G E (tC v) (mC t) := fun S σ τ Q e k r p => p S rfl k (Step.refl S) v (h S e)
theorem sim_int {i : Int} : SimE G E (tC (.int i)) (mC (.int i)) := sim_c fun _ _ => by simp only [Rv]
theorem sim_bl {b : Bool} : SimE G E (tC (.bl b)) (mC (.bl b)) := sim_c fun _ _ => by simp only [Rv]
theorem sim_str {x : Str} : SimE G E (tC (.str x)) (mC (.str x)) := sim_c fun _ _ => by simp only [Rv]
theorem sim_non : SimE G E (tC .non) (mC .non) := sim_c fun _ _ => by simp only [Rv]
theorem sim_ref {x : Str} {v : V} (h : G.fa x = v) : SimE G E (tC v) (mC (.ref x)) := sim_c fun S e => by simp only [Rv]; rw [e]; exact h.symm
@[simp] def mOp (g : T → T → AH → Res T) (fa fb : FE) : FE := fun τ h => (fa τ h).bind fun x h1 => (fb τ h1).bind fun y h2 => g x y h2
theorem sim_op {r : R2} {g : T → T → AH → Res T} (hr : SimR2 G r g) (ha : SimE G E ta fa) (hb : SimE G E tb fb) : SimE G E (tOp r ta tb) (mOp g fa fb) := fun S σ τ Q e k rs p => by
  refine ha S σ τ _ e k rs (PostG.imp (fun x S1 q u ru => ?_) (PostG.bind p))
  obtain ⟨k1, s1, q⟩ := q
  refine hb S1 σ τ _ (s1.G.trans e) k1 (rs.mono s1) (PostG.imp (fun y S2 q v rv => ?_) (PostG.bind q))
  obtain ⟨k2, s2, q⟩ := q
  exact hr S2 x y u v _ Q (s2.G.trans (s1.G.trans e)) k2 (ru.mono s2) rv q
@[simp] def mUn (g : T → AH → Res T) (fa : FE) : FE := fun τ h => (fa τ h).bind fun x h1 => g x h1
theorem sim_un {r : V → Hp → VK → Prop} {g : T → AH → Res T} (hr : SimR1 G r g) (ha : SimE G E ta fa) : SimE G E (tUn r ta) (mUn g fa) := fun S σ τ Q e k rs p => by
  refine ha S σ τ _ e k rs (PostG.imp (fun x S1 q u ru => ?_) (PostG.bind p))
  obtain ⟨k1, s1, q⟩ := q
  exact hr S1 x u _ Q (s1.G.trans e) k1 ru q
/-! arguments -/
@[simp] def mNil : FA := fun _ h => .ok [] h
@[simp] def mCons (fa : FE) (fr : FA) : FA := fun τ h => (fa τ h).bind fun x h1 => (fr τ h1).bind fun xs h2 => .ok (x :: xs) h2
theorem sim_nil : SimA G E tNil mNil := fun S σ τ Q e k rs p => p S rfl k (Step.refl S) [] RvL.nil
theorem sim_cons {tr : TA} {fr : FA} (ha : SimE G E ta fa) (hb : SimA G E tr fr) : SimA G E (tCons ta tr) (mCons fa fr) := fun S σ τ Q e k rs p => by
  refine ha S σ τ _ e k rs (PostG.imp (fun x S1 q u ru => ?_) (PostG.bind p))
  obtain ⟨k1, s1, q⟩ := q
  refine hb S1 σ τ _ (s1.G.trans e) k1 (rs.mono s1) (PostG.imp (fun y S2 q v rv => ?_) (PostG.bind q))
  obtain ⟨k2, s2, q⟩ := q
  exact q S2 rfl k2 (Step.refl S2) _ (RvL.cons (ru.mono s2) rv)
@[simp] def mCB (g : List T → AH → Res T) (fr : FA) : FE := fun τ h => (fr τ h).bind fun xs h1 => g xs h1
theorem sim_CB {r : List V → Hp → VK → Prop} {g : List T → AH → Res T} {tr : TA} {fr : FA} (hr : SimRC G r g) (ha : SimA G E tr fr) : SimE G E (tCB r tr) (mCB g fr) := fun S σ τ Q e k rs p => by
  refine ha S σ τ _ e k rs (PostG.imp (fun x S1 q u ru => ?_) (PostG.bind p))
  obtain ⟨k1, s1, q⟩ := q
  exact hr S1 x u _ Q (s1.G.trans e) k1 ru q
/-! tests -/
@[simp] def mB (fa : FE) : FT := fun τ h => (fa τ h).bind fun x h1 => match x with | .bl b => .ok b h1 | _ => .bad
theorem sim_B (ha : SimE G E ta fa) : SimT G E (tB ta) (mB fa) := fun S σ τ Q e k rs p => by
  refine ha S σ τ _ e k rs (PostG.imp (fun x S1 q u ru => ?_) (PostG.bind p))
  obtain ⟨k1, s1, q⟩ := q
  split at q
  · simp only [Rv] at ru; exact ⟨_, ru, q S1 rfl k1 (Step.refl S1)⟩
  · exact q.elim
theorem sim_test (ha : SimE G E ta fa) : SimT G E (tTest ta) (mB fa) := fun S σ τ Q e k rs p => by
  refine ha S σ τ _ e k rs (PostG.imp (fun x S1 q u ru => ?_) (PostG.bind p))
  obtain ⟨k1, s1, q⟩ := q
  split at q
  · simp only [Rv] at ru; exact ⟨_, ru, q S1 rfl k1 (Step.refl S1)⟩
  · exact q.elim
@[simp] def mAnd (f g : FT) : FT := fun τ h => (f τ h).bind fun c h1 => if c = true then g τ h1 else .ok false h1
@[simp] def mOr (f g : FT) : FT := fun τ h => (f τ h).bind fun c h1 => if c = true then .ok true h1 else g τ h1
@[simp] def mNot (f : FT) : FT := fun τ h => (f τ h).bind fun c h1 => .ok (!c) h1
theorem sim_and {t u : TT} {f g : FT} (ha : SimT G E t f) (hb : SimT G E u g) : SimT G E (tAnd t u) (mAnd f g) := fun S σ τ Q e k rs p => by
  refine ha S σ τ _ e k rs (PostG.imp (fun c S1 q => ?_) (PostG.bind p))
  obtain ⟨k1, s1, q⟩ := q
  cases c with
  | true => exact hb S1 σ τ Q (s1.G.trans e) k1 (rs.mono s1) q
  | false => exact q S1 rfl k1 (Step.refl S1)
theorem sim_or {t u : TT} {f g : FT} (ha : SimT G E t f) (hb : SimT G E u g) : SimT G E (tOr t u) (mOr f g) := fun S σ τ Q e k rs p => by
  refine ha S σ τ _ e k rs (PostG.imp (fun c S1 q => ?_) (PostG.bind p))
  obtain ⟨k1, s1, q⟩ := q
  cases c with
  | true => exact q S1 rfl k1 (Step.refl S1)
  | false => exact hb S1 σ τ Q (s1.G.trans e) k1 (rs.mono s1) q
theorem sim_not {t : TT} {f : FT} (ha : SimT G E t f) : SimT G E (tNot t) (mNot f) := fun S σ τ Q e k rs p => by
  refine ha S σ τ _ e k rs (PostG.imp (fun c S1 q => ?_) (PostG.bind p))
  obtain ⟨k1, s1, q⟩ := q
  exact q S1 rfl k1 (Step.refl S1)
@[simp] def mAndV (fa fb : FE) : FE := fun τ h => (fa τ h).bind fun x h1 => match x with | .bl c => if c = true then fb τ h1 else .ok (.bl false) h1 | _ => .bad
@[simp] def mOrV (fa fb : FE) : FE := fun τ h => (fa τ h).bind fun x h1 => match x with | .bl c => if c = true then .ok (.bl true) h1 else fb τ h1 | _ => .bad
@[simp] def mNotV (fa : FE) : FE := fun τ h => (fa τ h).bind fun x h1 => match x with | .bl c => .ok (.bl (!c)) h1 | _ => .bad
theorem sim_andV (ha : SimE G E ta fa) (hb : SimE G E tb fb) : SimE G E (tAndV ta tb) (mAndV fa fb) := fun S σ τ Q e k rs p => by
  refine ha S σ τ _ e k rs (PostG.imp (fun x S1 q u ru => ?_) (PostG.bind p))
  obtain ⟨k1, s1, q⟩ := q
  split at q
  · rename_i c
    simp only [Rv] at ru
    refine ⟨c, ru, ?_⟩
    cases c with
    | true => exact hb S1 σ τ Q (s1.G.trans e) k1 (rs.mono s1) q
    | false => exact q S1 rfl k1 (Step.refl S1) _ (by simp only [Rv])
  · exact q.elim
theorem sim_orV (ha : SimE G E ta fa) (hb : SimE G E tb fb) : SimE G E (tOrV ta tb) (mOrV fa fb) := fun S σ τ Q e k rs p => by
  refine ha S σ τ _ e k rs (PostG.imp (fun x S1 q u ru => ?_) (PostG.bind p))
  obtain ⟨k1, s1, q⟩ := q
  split at q
  · rename_i c
    simp only [Rv] at ru
    refine ⟨c, ru, ?_⟩
    cases c with
    | true => exact q S1 rfl k1 (Step.refl S1) _ (by simp only [Rv])
    | false => exact hb S1 σ τ Q (s1.G.trans e) k1 (rs.mono s1) q
  · exact q.elim
theorem sim_notV (ha : SimE G E ta fa) : SimE G E (tNotV ta) (mNotV fa) := fun S σ τ Q e k rs p => by
  refine ha S σ τ _ e k rs (PostG.imp (fun x S1 q u ru => ?_) (PostG.bind p))
  obtain ⟨k1, s1, q⟩ := q
  split at q
  · simp only [Rv] at ru
    exact ⟨_, ru, q S1 rfl k1 (Step.refl S1) _ (by simp only [Rv])⟩
  · exact q.elim
@[simp] def mIfE (f : FT) (fa fb : FE) : FE := fun τ h => (f τ h).bind fun c h1 => if c = true then fa τ h1 else fb τ h1
theorem sim_ifE {t : TT} {f : FT} (hc : SimT G E t f) (ha : SimE G E ta fa) (hb : SimE G E tb fb) : SimE G E (tIf t ta tb) (mIfE f fa fb) := fun S σ τ Q e k rs p => by
  refine hc S σ τ _ e k rs (PostG.imp (fun c S1 q => ?_) (PostG.bind p))
  obtain ⟨k1, s1, q⟩ := q
  cases c with
  | true => exact ha S1 σ τ Q (s1.G.trans e) k1 (rs.mono s1) q
  | false => exact hb S1 σ τ Q (s1.G.trans e) k1 (rs.mono s1) q
@[simp] def mChain (g g' : T → T → AH → Res T) (fa fb fc : FE) : FE := fun τ h => (fa τ h).bind fun x h1 => (fb τ h1).bind fun y h2 => (g x y h2).bind fun z h3 => match z with
  | .bl c => if c = true then (fc τ h3).bind fun w h4 => g' y w h4 else .ok (.bl false) h3
  | _ => .bad
theorem sim_chain {r r' : R2} {g g' : T → T → AH → Res T} (hr : SimR2 G r g) (hr' : SimR2 G r' g') (ha : SimE G E ta fa) (hb : SimE G E tb fb) (hc : SimE G E tc fc) : SimE G E (tChain r r' ta tb tc) (mChain g g' fa fb fc) := fun S σ τ Q e k rs p => by
  refine ha S σ τ _ e k rs (PostG.imp (fun x S1 q u ru => ?_) (PostG.bind p))
  obtain ⟨k1, s1, q⟩ := q
  refine hb S1 σ τ _ (s1.G.trans e) k1 (rs.mono s1) (PostG.imp (fun y S2 q v rv => ?_) (PostG.bind q))
  obtain ⟨k2, s2, q⟩ := q
  refine hr S2 x y u v _ _ (s2.G.trans (s1.G.trans e)) k2 (ru.mono s2) rv (PostG.imp (fun z S3 q w rw' => ?_) (PostG.bind q))
  obtain ⟨k3, s3, q⟩ := q
  split at q
  · rename_i c
    simp only [Rv] at rw'
    refine ⟨c, rw', ?_⟩
    cases c with
    | false => exact q S3 rfl k3 (Step.refl S3) _ (by simp only [Rv])
    | true =>
      have e3 := s3.G.trans (s2.G.trans (s1.G.trans e))
      refine hc S3 σ τ _ e3 k3 (rs.mono ((s1.trans s2).trans s3)) (PostG.imp (fun w S4 q a ra => ?_) (PostG.bind q))
      obtain ⟨k4, s4, q⟩ := q
      exact hr' S4 y w v a _ Q (s4.G.trans e3) k4 (rv.mono (s3.trans s4)) ra q
  · exact q.elim
end
end M
/-! ### operations, subscripts, displays, built-ins -/
namespace M
open PySem PySem.Spec PyProof.Rows L2
variable {G : Env} {E : L2.St → XK} {S : Sta}

/-- a pure operation -/
@[simp] def P2 (g : T → T → Option T) : T → T → AH → Res T := fun x y h => pur (g x y) h
@[simp] def P1 (g : T → Option T) : T → AH → Res T := fun x h => pur (g x) h
theorem simP2 {r : R2} {g : T → T → Option T} (hr : ∀ (S : Sta) (x y t : T) (u v : V) (Q : VK), S.G = G → Ok S → Rv S x u → Rv S y v → g x y = some t → (∀ w, Rv S t w → Q w S.H) → r u v S.H Q) : SimR2 G r (P2 g) := fun S x y u v X Q e k ru rv p => by
  unfold P2 pur at p
  split at p
  · rename_i t ht
    exact hr S x y t u v Q e k ru rv ht fun w rw' => p S rfl k (Step.refl S) w rw'
  · exact p.elim
theorem simP1 {r : V → Hp → VK → Prop} {g : T → Option T} (hr : ∀ (S : Sta) (x t : T) (u : V) (Q : VK), S.G = G → Ok S → Rv S x u → g x = some t → (∀ w, Rv S t w → Q w S.H) → r u S.H Q) : SimR1 G r (P1 g) := fun S x u X Q e k ru p => by
  unfold P1 pur at p
  split at p
  · rename_i t ht
    exact hr S x t u Q e k ru ht fun w rw' => p S rfl k (Step.refl S) w rw'
  · exact p.elim
/-! ints -/
@[simp] def iiT (g : Int → Int → T) : T → T → Option T | .int i, .int j => some (g i j) | _, _ => none
@[simp] def iiC (C : Int → Int → Bool) (g : Int → Int → T) : T → T → Option T | .int i, .int j => if C i j = true then some (g i j) else none | _, _ => none
theorem simI0 {gV : Int → Int → V} {gT : Int → Int → T} (h : ∀ i j S, Rv S (gT i j) (gV i j)) : SimR2 G (rI0 gV) (P2 (iiT gT)) := simP2 fun S x y t u v Q e k ru rv hg q => by
  unfold iiT at hg
  split at hg
  · simp only [Rv] at ru rv
    cases hg
    exact ⟨_, _, ru, rv, q _ (h _ _ _)⟩
  · cases hg
theorem simIC {C : Int → Int → Prop} {B : Int → Int → Bool} {gV : Int → Int → V} {gT : Int → Int → T} (h : ∀ i j S, Rv S (gT i j) (gV i j)) (hc : ∀ i j, B i j = true → C i j) : SimR2 G (rI C gV) (P2 (iiC B gT)) := simP2 fun S x y t u v Q e k ru rv hg q => by
  unfold iiC at hg
  split at hg
  · simp only [Rv] at ru rv
    split at hg
    · rename_i hb
      cases hg
      exact ⟨_, _, ru, rv, hc _ _ hb, q _ (h _ _ _)⟩
    · cases hg
  · cases hg
@[simp] theorem rv_int {i : Int} {v : V} : Rv S (.int i) v ↔ v = .int i := by simp only [Rv]
@[simp] theorem rv_bl {b : Bool} {v : V} : Rv S (.bl b) v ↔ v = .bl b := by simp only [Rv]
@[simp] theorem rv_str {b : Str} {v : V} : Rv S (.str b) v ↔ v = .str b := by simp only [Rv]
@[simp] theorem rv_non {v : V} : Rv S .non v ↔ v = .non := by simp only [Rv]
@[simp] abbrev oAdd := P2 (iiT fun i j => .int (i + j))
@[simp] abbrev oSub := P2 (iiT fun i j => .int (i - j))
@[simp] abbrev oMul := P2 (iiC (fun i j => decide (i.natAbs.log2 + j.natAbs.log2 < 1000000)) fun i j => .int (i * j))
@[simp] abbrev oDiv := P2 (iiC (fun _ j => decide (0 < j) && decide (j.natAbs.log2 < 9000)) fun i j => .int (i / j))
@[simp] abbrev oMod := P2 (iiC (fun _ j => decide (0 < j)) fun i j => .int (i % j))
@[simp] abbrev oShl := P2 (iiC (fun i j => decide (0 ≤ j) && decide (j ≤ 1000000) && decide (i.natAbs < 2 ^ 64)) fun i j => .int (i * 2 ^ j.toNat))
@[simp] abbrev oShr := P2 (iiC (fun _ j => decide (0 ≤ j)) fun i j => .int (i / 2 ^ j.toNat))
@[simp] abbrev oAnd := P2 (iiT fun i j => .int (Builtin.bitAnd i j))
@[simp] abbrev oOr := P2 (iiT fun i j => .int (Builtin.bitOr i j))
@[simp] abbrev oXor := P2 (iiT fun i j => .int (Builtin.bitXor i j))
@[simp] abbrev oLt := P2 (iiT fun i j => .bl (decide (i < j)))
@[simp] abbrev oLe := P2 (iiT fun i j => .bl (decide (i ≤ j)))
@[simp] abbrev oGt := P2 (iiT fun i j => .bl (decide (j < i)))
@[simp] abbrev oGe := P2 (iiT fun i j => .bl (decide (j ≤ i)))
theorem so_add : SimR2 G (rI0 fun i j => .int (i + j)) oAdd := simI0 fun _ _ _ => by simp
theorem so_sub : SimR2 G (rI0 fun i j => .int (i - j)) oSub := simI0 fun _ _ _ => by simp
theorem so_mul : SimR2 G (rI CMulW fun i j => .int (i * j)) oMul := simIC (fun _ _ _ => by simp) fun i j h => (of_decide_eq_true h : i.natAbs.log2 + j.natAbs.log2 < 1000000)
theorem so_div : SimR2 G (rI CDivW fun i j => .int (i / j)) oDiv := simIC (fun _ _ _ => by simp) fun i j h => by
  rw [Bool.and_eq_true] at h
  exact ⟨of_decide_eq_true h.1, of_decide_eq_true h.2⟩
theorem so_mod : SimR2 G (rI (fun _ j => 0 < j) fun i j => .int (i % j)) oMod := simIC (fun _ _ _ => by simp) fun i j h => of_decide_eq_true h
theorem so_shl : SimR2 G (rI CPow fun i j => .int (i * 2 ^ j.toNat)) oShl := simIC (fun _ _ _ => by simp) fun i j h => by
  rw [Bool.and_eq_true, Bool.and_eq_true] at h
  exact ⟨of_decide_eq_true h.1.1, of_decide_eq_true h.1.2, of_decide_eq_true h.2⟩
theorem so_shr : SimR2 G (rI (fun _ j => 0 ≤ j) fun i j => .int (i / 2 ^ j.toNat)) oShr := simIC (fun _ _ _ => by simp) fun i j h => of_decide_eq_true h
theorem so_and : SimR2 G (rI0 fun i j => .int (Builtin.bitAnd i j)) oAnd := simI0 fun _ _ _ => by simp
theorem so_or : SimR2 G (rI0 fun i j => .int (Builtin.bitOr i j)) oOr := simI0 fun _ _ _ => by simp
theorem so_xor : SimR2 G (rI0 fun i j => .int (Builtin.bitXor i j)) oXor := simI0 fun _ _ _ => by simp
theorem so_lt : SimR2 G (rI0 fun i j => .bl (decide (i < j))) oLt := simI0 fun _ _ _ => by simp
theorem so_le : SimR2 G (rI0 fun i j => .bl (decide (i ≤ j))) oLe := simI0 fun _ _ _ => by simp
theorem so_gt : SimR2 G (rI0 fun i j => .bl (decide (j < i))) oGt := simI0 fun _ _ _ => by simp
theorem so_ge : SimR2 G (rI0 fun i j => .bl (decide (j ≤ i))) oGe := simI0 fun _ _ _ => by simp
@[simp] def iT (g : Int → T) : T → Option T | .int i => some (g i) | _ => none
@[simp] abbrev oNeg := P1 (iT fun i => .int (-i))
@[simp] abbrev oInv := P1 (iT fun i => .int (Builtin.bitNot i))
theorem simU {gV : Int → V} {gT : Int → T} (h : ∀ i S, Rv S (gT i) (gV i)) : SimR1 G (rU gV) (P1 (iT gT)) := simP1 fun S x t u Q e k ru hg q => by
  unfold iT at hg
  split at hg
  · simp only [Rv] at ru
    cases hg
    exact ⟨_, ru, q _ (h _ _)⟩
  · cases hg
theorem so_neg : SimR1 G (rU fun i => .int (-i)) oNeg := simU fun _ _ => by simp
theorem so_inv : SimR1 G (rU fun i => .int (Builtin.bitNot i)) oInv := simU fun _ _ => by simp
/-! equality -/
mutual
def toD : T → Option PyData
  | .non => some .none
  | .bl b => some (.bool b)
  | .int i => some (.int i)
  | .str x => some (.str x)
  | .tup l => (toDL l).map .tuple
  | .ktp l => (toDL l).map .tuple
  | .lst l => (toDL l).map .list
  | .rdl l => (toDL l).map .list
  | _ => none
def toDL : List T → Option (List PyData)
  | [] => some []
  | t :: ts => match toD t, toDL ts with
    | some d, some ds => some (d :: ds)
    | _, _ => none
end
theorem sqt_of {p : Addr} {vs : List V} (h : Fz S p (.tup vs)) : SqT S.G.K S.H p vs := .inl (.inl h.1)
theorem sql_of {p : Addr} {vs : List V} (h : Fz S p (.lst vs)) : SqL S.G.K S.H p vs := .inl (.inl h.1)
theorem sql_rd {p : Addr} {vs : List V} (h : RdL S p vs) : SqL S.G.K S.H p vs := by
  rcases h with ⟨ob, h⟩ | h | h
  · exact .inl (.inr ⟨ob, h.1⟩)
  · exact .inl (.inl h.1)
  · exact .inr h
mutual
theorem toD_ok : ∀ {t : T} {v : V} {d : PyData}, Rv S t v → toD t = some d → Dp S.G.K S.H v d
  | .non, v, d, r, h => by simp only [Rv] at r; simp only [toD] at h; cases h; subst r; exact .non
  | .bl b, v, d, r, h => by simp only [Rv] at r; simp only [toD] at h; cases h; subst r; exact .bl b
  | .int b, v, d, r, h => by simp only [Rv] at r; simp only [toD] at h; cases h; subst r; exact .int b
  | .str b, v, d, r, h => by simp only [Rv] at r; simp only [toD] at h; cases h; subst r; exact .str b
  | .tup l, v, d, r, h => by
    simp only [Rv] at r; simp only [toD] at h
    obtain ⟨p, vs, rfl, f, rl⟩ := r
    obtain ⟨ds, h1, rfl⟩ := Option.map_eq_some_iff.mp h
    exact .tup (sqt_of f) (toDL_ok rl h1)
  | .ktp l, v, d, r, h => by
    simp only [Rv] at r; simp only [toD] at h
    obtain ⟨p, vs, rfl, f, rl⟩ := r
    obtain ⟨ds, h1, rfl⟩ := Option.map_eq_some_iff.mp h
    exact .tup (.inr f) (toDL_ok rl h1)
  | .lst l, v, d, r, h => by
    simp only [Rv] at r; simp only [toD] at h
    obtain ⟨p, vs, rfl, f, rl⟩ := r
    obtain ⟨ds, h1, rfl⟩ := Option.map_eq_some_iff.mp h
    exact .lst (sql_of f) (toDL_ok rl h1)
  | .rdl l, v, d, r, h => by
    simp only [Rv] at r; simp only [toD] at h
    obtain ⟨p, vs, rfl, f, rl⟩ := r
    obtain ⟨ds, h1, rfl⟩ := Option.map_eq_some_iff.mp h
    exact .lst (sql_rd f) (toDL_ok rl h1)
  | .ref _, _, _, _, h => by simp only [toD] at h; cases h
  | .obj _, _, _, _, h => by simp only [toD] at h; cases h
  | .inst _ _ _, _, _, _, h => by simp only [toD] at h; cases h
  | .dct _ _, _, _, _, h => by simp only [toD] at h; cases h
  | .dctT _ _, _, _, _, h => by simp only [toD] at h; cases h
theorem toDL_ok : ∀ {l : List T} {vs : List V} {ds : List PyData}, RvL S l vs → toDL l = some ds → DpAll S.G.K S.H vs ds
  | [], vs, ds, r, h => by simp only [RvL] at r; simp only [toDL] at h; cases h; subst r; exact .nil
  | t :: ts, vs, ds, r, h => by
    simp only [RvL] at r
    obtain ⟨v, q, rfl, r1, r2⟩ := r
    simp only [toDL] at h
    split at h
    · rename_i d ds' h1 h2
      cases h
      exact .cons (toD_ok r1 h1) (toDL_ok r2 h2)
    · cases h
end
/-- x == y: scalars as they are, data at any depth by what they hold -/
def eqT : T → T → Option Bool
  | .int i, .int j => some (decide (i = j))
  | .bl i, .bl j => some (decide (i = j))
  | .str i, .str j => some (decide (i = j))
  | .non, .non => some true
  | .int _, .str _ => some false
  | .str _, .int _ => some false
  | .non, .int _ => some false
  | .int _, .non => some false
  | .non, .str _ => some false
  | .str _, .non => some false
  | .non, .bl _ => some false
  | .bl _, .non => some false
  | .bl _, .str _ => some false
  | .str _, .bl _ => some false
  | x, y => match toD x, toD y with
    | some d, some e => if SeqAt.shaped d = true ∧ SeqAt.shaped e = true then some (PyData.eqv d e) else none
    | _, _ => none
@[simp] theorem eqT_int {i j : Int} : eqT (.int i) (.int j) = some (decide (i = j)) := rfl
@[simp] theorem eqT_bl {i j : Bool} : eqT (.bl i) (.bl j) = some (decide (i = j)) := rfl
@[simp] theorem eqT_str {i j : Str} : eqT (.str i) (.str j) = some (decide (i = j)) := rfl
@[simp] theorem eqT_non : eqT .non .non = some true := rfl
@[simp] abbrev oEq := P2 fun x y => (eqT x y).map .bl
@[simp] abbrev oNe := P2 fun x y => (eqT x y).map fun b => .bl (!b)
theorem so_eq : SimR2 G (fun x y H Q => rEq x y H Q ∨ rEqD G.K x y H Q) oEq := simP2 fun S x y t u v Q e k ru rv hg q => by
  obtain ⟨b, hb, rfl⟩ := Option.map_eq_some_iff.mp hg
  have q := q (.bl b) (by simp)
  unfold eqT at hb
  split at hb
  all_goals first
    | (simp only [Rv] at ru rv; subst ru; subst rv; cases hb; exact .inl ⟨rfl, by first | exact q | (simpa using q)⟩)
    | skip
  split at hb
  · rename_i d e' hd he
    split at hb
    · rename_i hs
      cases hb
      have a := toD_ok ru hd
      have c := toD_ok rv he
      rw [e] at a c
      exact .inr ⟨d, e', a, c, hs.1, hs.2, q⟩
    · cases hb
  · cases hb
theorem so_ne : SimR2 G (fun x y H Q => rNe x y H Q ∨ rNeD G.K x y H Q) oNe := simP2 fun S x y t u v Q e k ru rv hg q => by
  obtain ⟨b, hb, rfl⟩ := Option.map_eq_some_iff.mp hg
  have q := q (.bl (!b)) (by simp)
  unfold eqT at hb
  split at hb
  all_goals first
    | (simp only [Rv] at ru rv; subst ru; subst rv; cases hb; exact .inl ⟨rfl, by first | exact q | (simpa using q)⟩)
    | skip
  split at hb
  · rename_i d e' hd he
    split at hb
    · rename_i hs
      cases hb
      have a := toD_ok ru hd
      have c := toD_ok rv he
      rw [e] at a c
      exact .inr ⟨d, e', a, c, hs.1, hs.2, q⟩
    · cases hb
  · cases hb
/-! texts -/
@[simp] abbrev oAddS := P2 fun x y => match x, y with | .str i, .str j => if i.length + j.length ≤ sizeLine then some (.str (i ++ j)) else none | _, _ => none
theorem so_addS : SimR2 G (fun x y H Q => ∃ i j, x = .str i ∧ y = .str j ∧ i.length + j.length ≤ sizeLine ∧ Q (.str (i ++ j)) H) oAddS := simP2 fun S x y t u v Q e k ru rv hg q => by
  split at hg
  · simp only [Rv] at ru rv
    split at hg
    · rename_i hb
      cases hg
      exact ⟨_, _, ru, rv, hb, q _ (by simp)⟩
    · cases hg
  · cases hg
@[simp] abbrev oLtS := P2 fun x y => match x, y with | .str i, .str j => some (.bl (decide (i.cps.toList < j.cps.toList))) | _, _ => none
theorem so_ltS : SimR2 G (fun x y H Q => ∃ i j, x = .str i ∧ y = .str j ∧ Q (.bl (decide (i.cps.toList < j.cps.toList))) H) oLtS := simP2 fun S x y t u v Q e k ru rv hg q => by
  split at hg
  · simp only [Rv] at ru rv
    cases hg
    exact ⟨_, _, ru, rv, q _ (by simp)⟩
  · cases hg
@[simp] abbrev oInS := P2 fun x y => match x, y with | .str i, .str j => some (.bl (!(Builtin.Str.occurrences j i 0 j.length 1).isEmpty)) | _, _ => none
theorem so_inS : SimR2 G (fun x y H Q => ∃ i j, x = .str i ∧ y = .str j ∧ Q (.bl (!(Builtin.Str.occurrences j i 0 j.length 1).isEmpty)) H) oInS := simP2 fun S x y t u v Q e k ru rv hg q => by
  split at hg
  · simp only [Rv] at ru rv
    cases hg
    exact ⟨_, _, ru, rv, q _ (by simp)⟩
  · cases hg
@[simp] abbrev oNinS := P2 fun x y => match x, y with | .str i, .str j => some (.bl (!(!(Builtin.Str.occurrences j i 0 j.length 1).isEmpty))) | _, _ => none
theorem so_ninS : SimR2 G (fun x y H Q => ∃ i j, x = .str i ∧ y = .str j ∧ Q (.bl (!(!(Builtin.Str.occurrences j i 0 j.length 1).isEmpty))) H) oNinS := simP2 fun S x y t u v Q e k ru rv hg q => by
  split at hg
  · simp only [Rv] at ru rv
    cases hg
    exact ⟨_, _, ru, rv, q _ (by simp)⟩
  · cases hg
/-! is None -/
@[simp] def isNon : T → Bool | .non => true | _ => false
theorem rv_isNon {x : T} {u : V} (hf : ∀ a, S.G.fa a ≠ .non) (r : Rv S x u) : decide (u = .non) = isNon x := by
  cases x <;> simp only [Rv] at r <;> first
    | (subst r; rfl)
    | (subst r; simp [isNon, hf])
    | (obtain ⟨p, vs, rfl, _⟩ := r; rfl)
    | (obtain ⟨p, dx, vs, rfl, _⟩ := r; rfl)
    | (obtain ⟨p, _, rfl⟩ := r; rfl)
@[simp] abbrev mIsN (fa : FE) : FE := mUn (fun x h => .ok (.bl (isNon x)) h) fa
@[simp] abbrev mNotN (fa : FE) : FE := mUn (fun x h => .ok (.bl (!isNon x)) h) fa
theorem sim_isN {ta : TE} {fa : FE} (hf : ∀ a, G.fa a ≠ .non) (ha : SimE G E ta fa) : SimE G E (tIsN ta) (mIsN fa) := fun S σ τ Q e k rs p => by
  refine ha S σ τ _ e k rs (PostG.imp (fun x S1 q u ru => ?_) (PostG.bind p))
  obtain ⟨k1, s1, q⟩ := q
  exact q S1 rfl k1 (Step.refl S1) _ (by rw [rv_isNon (by rw [s1.G, e]; exact hf) ru]; simp)
theorem sim_notN {ta : TE} {fa : FE} (hf : ∀ a, G.fa a ≠ .non) (ha : SimE G E ta fa) : SimE G E (tNotN ta) (mNotN fa) := fun S σ τ Q e k rs p => by
  refine ha S σ τ _ e k rs (PostG.imp (fun x S1 q u ru => ?_) (PostG.bind p))
  obtain ⟨k1, s1, q⟩ := q
  exact q S1 rfl k1 (Step.refl S1) _ (by rw [rv_isNon (by rw [s1.G, e]; exact hf) ru]; simp)
/-! sequences -/
@[simp] def tupOf : T → Option (List T) | .tup l => some l | .ktp l => some l | _ => none
@[simp] def lstOf : T → AH → Option (List T)
  | .lst l, _ => some l
  | .rdl l, _ => some l
  | .obj i, h => match h[i]? with | some (some (.lst l)) => some l | _ => none
  | _, _ => none
/-- a list that is wholly known -/
@[simp] def lstIn : T → AH → Option (List T)
  | .lst l, _ => some l
  | .obj i, h => match h[i]? with | some (some (.lst l)) => some l | _ => none
  | _, _ => none
theorem tupOf_ok {x : T} {l : List T} {u : V} (h : tupOf x = some l) (r : Rv S x u) : ∃ p vs, u = .ref p ∧ SqT S.G.K S.H p vs ∧ RvL S l vs := by
  cases x <;> simp only [tupOf] at h <;> first
    | (cases h; done)
    | (cases h; simp only [Rv] at r; obtain ⟨p, vs, rfl, f, rl⟩ := r; first | exact ⟨p, vs, rfl, sqt_of f, rl⟩ | exact ⟨p, vs, rfl, .inr f, rl⟩)
theorem obj_lst {i : Nat} {l : List T} {u : V} (k : Ok S) (h : S.h[i]? = some (some (.lst l))) (r : Rv S (.obj i) u) : ∃ p vs, u = .ref p ∧ S.al[i]? = some p ∧ S.H p = some (.lst vs) ∧ RvL S l vs := by
  simp only [Rv] at r
  obtain ⟨p, hp, rfl⟩ := r
  obtain ⟨u, hu, vs, rfl, rl⟩ := k.rel i _ p h hp
  exact ⟨p, vs, rfl, hp, hu, rl⟩
theorem lstOf_ok {x : T} {l : List T} {u : V} (k : Ok S) (h : lstOf x S.h = some l) (r : Rv S x u) : ∃ p vs, u = .ref p ∧ SqL S.G.K S.H p vs ∧ RvL S l vs := by
  cases x <;> simp only [lstOf] at h <;> try (cases h; done)
  · cases h; simp only [Rv] at r; obtain ⟨p, vs, rfl, f, rl⟩ := r; exact ⟨p, vs, rfl, sql_of f, rl⟩
  · cases h; simp only [Rv] at r; obtain ⟨p, vs, rfl, f, rl⟩ := r; exact ⟨p, vs, rfl, sql_rd f, rl⟩
  · split at h
    · rename_i l' hl
      cases h
      obtain ⟨p, vs, rfl, _, hp, rl⟩ := obj_lst k hl r
      exact ⟨p, vs, rfl, .inl (.inl hp), rl⟩
    · cases h
theorem lstIn_ok {x : T} {l : List T} {u : V} (k : Ok S) (h : lstIn x S.h = some l) (r : Rv S x u) : ∃ p vs, u = .ref p ∧ S.H p = some (.lst vs) ∧ RvL S l vs := by
  cases x <;> simp only [lstIn] at h <;> try (cases h; done)
  · cases h; simp only [Rv] at r; obtain ⟨p, vs, rfl, f, rl⟩ := r; exact ⟨p, vs, rfl, f.1, rl⟩
  · split at h
    · rename_i l' hl
      cases h
      obtain ⟨p, vs, rfl, _, hp, rl⟩ := obj_lst k hl r
      exact ⟨p, vs, rfl, hp, rl⟩
    · cases h
theorem RvL.at {l : List T} {vs : List V} {i : Int} {t : T} (r : RvL S l vs) (h : atI l i = some t) : ∃ v, atI vs i = some v ∧ Rv S t v := by
  unfold atI at h ⊢
  rw [r.len]
  obtain ⟨j, hj, e⟩ := Option.bind_eq_some_iff.mp h
  obtain ⟨v, h1, h2⟩ := r.get e
  exact ⟨v, by rw [hj]; exact h1, h2⟩
@[simp] def gIxL (x y : T) (h : AH) : Option T := match y with | .int i => (lstOf x h).bind fun l => atI l i | _ => none
@[simp] def gIxT (x y : T) (_ : AH) : Option T := match y with | .int i => (tupOf x).bind fun l => atI l i | _ => none
@[simp] abbrev oIxL : T → T → AH → Res T := fun x y h => pur (gIxL x y h) h
@[simp] abbrev oIxT : T → T → AH → Res T := fun x y h => pur (gIxT x y h) h
/-- xs[i], a list or a tuple -/
@[simp] abbrev oIx : T → T → AH → Res T := fun x y h => pur (match gIxT x y h with | some t => some t | none => gIxL x y h) h
theorem simPh2 {r : R2} {g : T → T → AH → Option T} (hr : ∀ (S : Sta) (x y t : T) (u v : V) (Q : VK), S.G = G → Ok S → Rv S x u → Rv S y v → g x y S.h = some t → (∀ w, Rv S t w → Q w S.H) → r u v S.H Q) : SimR2 G r (fun x y h => pur (g x y h) h) := fun S x y u v X Q e k ru rv p => by
  change PostG S X _ (pur (g x y S.h) S.h) at p
  unfold pur at p
  split at p
  · rename_i t ht
    exact hr S x y t u v Q e k ru rv ht fun w rw' => p S rfl k (Step.refl S) w rw'
  · exact p.elim
theorem ixT_ok {x y t : T} {u v : V} {Q : VK} (ru : Rv S x u) (rv : Rv S y v) (h : gIxT x y S.h = some t) (q : ∀ w, Rv S t w → Q w S.H) : rIxT S.G.K u v S.H Q := by
  unfold gIxT at h
  split at h
  · obtain ⟨l, hl, ha⟩ := Option.bind_eq_some_iff.mp h
    obtain ⟨p, vs, rfl, hs, rl⟩ := tupOf_ok hl ru
    obtain ⟨w, h1, h2⟩ := rl.at ha
    simp only [Rv] at rv
    exact ⟨p, vs, _, w, rfl, rv, hs, h1, q w h2⟩
  · cases h
theorem ixL_ok {x y t : T} {u v : V} {Q : VK} (k : Ok S) (ru : Rv S x u) (rv : Rv S y v) (h : gIxL x y S.h = some t) (q : ∀ w, Rv S t w → Q w S.H) : rIxL S.G.K u v S.H Q := by
  unfold gIxL at h
  split at h
  · obtain ⟨l, hl, ha⟩ := Option.bind_eq_some_iff.mp h
    obtain ⟨p, vs, rfl, hs, rl⟩ := lstOf_ok k hl ru
    obtain ⟨w, h1, h2⟩ := rl.at ha
    simp only [Rv] at rv
    exact ⟨p, vs, _, w, rfl, rv, hs, h1, q w h2⟩
  · cases h
theorem so_ix : SimR2 G (rIx G.K) oIx := simPh2 fun S x y t u v Q e k ru rv hg q => by
  rw [← e]
  split at hg
  · rename_i t' ht
    cases hg
    exact .inr (.inl (ixT_ok ru rv ht q))
  · exact .inl (ixL_ok k ru rv hg q)
@[simp] abbrev oIxS := P2 fun x y => match x, y with | .str z, .int i => if z.length ≤ sizeLine then (atI z.cps.toList i).map fun c => .str ⟨#[c]⟩ else none | _, _ => none
theorem so_ixS : SimR2 G rIxS oIxS := simP2 fun S x y t u v Q e k ru rv hg q => by
  split at hg
  · simp only [Rv] at ru rv
    split at hg
    · rename_i hb
      obtain ⟨c, hc, rfl⟩ := Option.map_eq_some_iff.mp hg
      exact ⟨_, _, c, ru, rv, hb, hc, q _ (by simp)⟩
    · cases hg
  · cases hg
/-! in -/
@[simp] def flatT : T → Bool | .non => true | .bl _ => true | .int _ => true | .str _ => true | _ => false
def eqF : T → T → Bool
  | .non, .non => true
  | .bl a, .bl b => a == b
  | .bl a, .int b => (if a then 1 else 0) == b
  | .int a, .bl b => a == (if b then 1 else 0)
  | .int a, .int b => a == b
  | .str a, .str b => a == b
  | _, _ => false
def inT (x : T) (l : List T) : Bool := l.any fun y => eqF y x
theorem flat_ok {x : T} {u : V} (r : Rv S x u) (h : flatT x = true) : flatV u = true := by
  cases x <;> simp only [Rv] at r <;> first
    | (subst r; rfl)
    | (simp [flatT] at h)
theorem eqF_ok {x y : T} {u v : V} (rx : Rv S x u) (ry : Rv S y v) (hx : flatT x = true) (hy : flatT y = true) : eqV v u = eqF y x := by
  cases x <;> simp [flatT] at hx <;> cases y <;> simp [flatT] at hy <;> simp only [Rv] at rx ry <;> subst rx <;> subst ry <;> rfl
theorem flats_ok : ∀ {l : List T} {vs : List V}, RvL S l vs → l.all flatT = true → vs.all flatV = true
  | [], vs, r, h => by simp only [RvL] at r; subst r; rfl
  | t :: ts, vs, r, h => by
    simp only [RvL] at r
    obtain ⟨v, q, rfl, r1, r2⟩ := r
    rw [List.all_cons, Bool.and_eq_true] at h ⊢
    exact ⟨flat_ok r1 h.1, flats_ok r2 h.2⟩
theorem inT_ok {x : T} {u : V} (rx : Rv S x u) (hx : flatT x = true) : ∀ {l : List T} {vs : List V}, RvL S l vs → l.all flatT = true → inV u vs = inT x l
  | [], vs, r, h => by simp only [RvL] at r; subst r; rfl
  | t :: ts, vs, r, h => by
    simp only [RvL] at r
    obtain ⟨v, q, rfl, r1, r2⟩ := r
    rw [List.all_cons, Bool.and_eq_true] at h
    have ih := inT_ok rx hx r2 h.2
    unfold inV inT at ih ⊢
    rw [List.any_cons, List.any_cons, eqF_ok rx r1 hx h.1, ih]
@[simp] def seqOf (x : T) (h : AH) : Option (List T) := match tupOf x with | some l => some l | none => lstOf x h
theorem seqOf_ok {x : T} {l : List T} {u : V} (k : Ok S) (h : seqOf x S.h = some l) (r : Rv S x u) : ∃ p vs, u = .ref p ∧ (SqL S.G.K S.H p vs ∨ SqT S.G.K S.H p vs) ∧ RvL S l vs := by
  unfold seqOf at h
  split at h
  · rename_i l' hl
    cases h
    obtain ⟨p, vs, e, hs, rl⟩ := tupOf_ok hl r
    exact ⟨p, vs, e, .inr hs, rl⟩
  · obtain ⟨p, vs, e, hs, rl⟩ := lstOf_ok k h r
    exact ⟨p, vs, e, .inl hs, rl⟩
@[simp] def gIn (neg : Bool) (x y : T) (h : AH) : Option T := (seqOf y h).bind fun l => if flatT x = true ∧ l.all flatT = true then some (.bl (if neg then !inT x l else inT x l)) else none
@[simp] abbrev oIn : T → T → AH → Res T := fun x y h => pur (gIn false x y h) h
@[simp] abbrev oNin : T → T → AH → Res T := fun x y h => pur (gIn true x y h) h
theorem so_inG {neg : Bool} : SimR2 G (rIn G.K neg) (fun x y h => pur (gIn neg x y h) h) := simPh2 fun S x y t u v Q e k ru rv hg q => by
  rw [← e]
  unfold gIn at hg
  obtain ⟨l, hl, hg⟩ := Option.bind_eq_some_iff.mp hg
  split at hg
  · rename_i hb
    cases hg
    obtain ⟨p, vs, rfl, hs, rl⟩ := seqOf_ok k hl rv
    refine ⟨p, vs, rfl, hs, flat_ok ru hb.1, flats_ok rl hb.2, ?_⟩
    rw [inT_ok ru hb.1 rl hb.2]
    exact q _ (by simp)
  · cases hg
theorem so_in : SimR2 G (rIn G.K false) oIn := so_inG
theorem so_nin : SimR2 G (rIn G.K true) oNin := so_inG
/-! new lists and tuples -/
theorem new_fz {u : HO} {Q : VK} {X : Exc → Sta → Prop} {t : T} (k : Ok S) (p : PostG S X (fun t S' => ∀ v, Rv S' t v → Q v S'.H) (.ok t S.h)) (hv : ∀ p, S.H p = none → Fz (S.at (upd S.H p u)) p u → Rv (S.at (upd S.H p u)) t (.ref p)) :
    ∀ p, S.H p = none → Q (.ref p) (upd S.H p u) := fun a n => by
  have g := Grow.upd (u := u) n
  exact p (S.at (upd S.H a u)) rfl (ok_at k g) (step_at k g) _ (hv a n (fz_new k n upd_same))
theorem new_obj {o : O} {u : HO} {Q : VK} {X : Exc → Sta → Prop} (k : Ok S) (p : PostG S X (fun t S' => ∀ v, Rv S' t v → Q v S'.H) (.ok (.obj S.h.length) (S.h ++ [some o]))) (hv : ∀ S', Step S S' → RO S' o u) :
    ∀ p, S.H p = none → Q (.ref p) (upd S.H p u) := fun a n => by
  have g := Grow.upd (u := u) n
  refine p (S.push a o (upd S.H a u)) rfl (ok_push k n g upd_same (hv _ (step_push k n g))) (step_push k n g) _ ?_
  simp only [Rv]
  exact ⟨a, by simp [Sta.push, k.len], rfl⟩
theorem rv_tup {p : Addr} {l : List T} {vs : List V} (f : Fz S p (.tup vs)) (r : RvL S l vs) : Rv S (.tup l) (.ref p) := by simp only [Rv]; exact ⟨p, vs, rfl, f, r⟩
theorem rv_lst {p : Addr} {l : List T} {vs : List V} (f : Fz S p (.lst vs)) (r : RvL S l vs) : Rv S (.lst l) (.ref p) := by simp only [Rv]; exact ⟨p, vs, rfl, f, r⟩
@[simp] def mTup (fr : FA) : FE := fun τ h => (fr τ h).bind fun xs h1 => if xs.length ≤ sizeLine then .ok (.tup xs) h1 else .bad
@[simp] def mLst (fr : FA) : FE := fun τ h => (fr τ h).bind fun xs h1 => if xs.length ≤ sizeLine then .ok (.lst xs) h1 else .bad
/-- a list that will change -/
@[simp] def mLstO (fr : FA) : FE := fun τ h => (fr τ h).bind fun xs h1 => if xs.length ≤ sizeLine then .ok (.obj h1.length) (h1 ++ [some (.lst xs)]) else .bad
section
variable {tr : TA} {fr : FA}
theorem sim_tup (ha : SimA G E tr fr) : SimE G E (tTup tr) (mTup fr) := fun S σ τ Q e k rs p => by
  refine ha S σ τ _ e k rs (PostG.imp (fun x S1 q u ru => ?_) (PostG.bind p))
  obtain ⟨k1, s1, q⟩ := q
  split at q
  · rename_i hb
    exact ⟨by rw [ru.len]; exact hb, new_fz k1 q fun p n f => rv_tup f (ru.mono (step_at (by assumption) (Grow.upd n)))⟩
  · exact q.elim
theorem sim_lst (ha : SimA G E tr fr) : SimE G E (tLst tr) (mLst fr) := fun S σ τ Q e k rs p => by
  refine ha S σ τ _ e k rs (PostG.imp (fun x S1 q u ru => ?_) (PostG.bind p))
  obtain ⟨k1, s1, q⟩ := q
  split at q
  · rename_i hb
    exact ⟨by rw [ru.len]; exact hb, new_fz k1 q fun p n f => rv_lst f (ru.mono (step_at (by assumption) (Grow.upd n)))⟩
  · exact q.elim
theorem sim_lstO (ha : SimA G E tr fr) : SimE G E (tLst tr) (mLstO fr) := fun S σ τ Q e k rs p => by
  refine ha S σ τ _ e k rs (PostG.imp (fun x S1 q u ru => ?_) (PostG.bind p))
  obtain ⟨k1, s1, q⟩ := q
  split at q
  · rename_i hb
    exact ⟨by rw [ru.len]; exact hb, new_obj k1 q fun S' st => ⟨_, rfl, ru.mono st⟩⟩
  · exact q.elim
end
/-! list + list, tuple + tuple, list * int -/
@[simp] def gCat (x y : T) (h : AH) : Option (List T) := (lstIn x h).bind fun l => (lstIn y h).bind fun m => if l.length + m.length ≤ sizeLine then some (l ++ m) else none
@[simp] abbrev oCat : T → T → AH → Res T := fun x y h => pur ((gCat x y h).map .lst) h
@[simp] abbrev oCatO : T → T → AH → Res T := fun x y h => (pur (gCat x y h) h).bind fun l h1 => .ok (.obj h1.length) (h1 ++ [some (.lst l)])
theorem cat_ok {x y : T} {u v : V} {l : List T} (k : Ok S) (ru : Rv S x u) (rv : Rv S y v) (h : gCat x y S.h = some l) : ∃ p q xs ys, u = .ref p ∧ v = .ref q ∧ S.H p = some (.lst xs) ∧ S.H q = some (.lst ys) ∧ xs.length + ys.length ≤ sizeLine ∧ RvL S l (xs ++ ys) := by
  unfold gCat at h
  obtain ⟨l1, h1, h⟩ := Option.bind_eq_some_iff.mp h
  obtain ⟨l2, h2, h⟩ := Option.bind_eq_some_iff.mp h
  split at h
  · rename_i hb
    cases h
    obtain ⟨p, xs, rfl, hp, r1⟩ := lstIn_ok k h1 ru
    obtain ⟨q, ys, rfl, hq, r2⟩ := lstIn_ok k h2 rv
    exact ⟨p, q, xs, ys, rfl, rfl, hp, hq, by rw [r1.len, r2.len]; exact hb, r1.app r2⟩
  · cases h
theorem so_cat : SimR2 G rCat oCat := fun S x y u v X Q e k ru rv p => by
  unfold oCat pur at p
  split at p
  · rename_i t ht
    obtain ⟨l, hl, rfl⟩ := Option.map_eq_some_iff.mp ht
    obtain ⟨a, b, xs, ys, rfl, rfl, ha, hb, hz, rl⟩ := cat_ok k ru rv hl
    exact ⟨a, b, xs, ys, rfl, rfl, ha, hb, hz, new_fz k p fun p n f => rv_lst f (rl.mono (step_at (by assumption) (Grow.upd n)))⟩
  · exact p.elim
theorem so_catO : SimR2 G rCat oCatO := fun S x y u v X Q e k ru rv p => by
  unfold oCatO pur at p
  split at p
  · rename_i l hl
    obtain ⟨a, b, xs, ys, rfl, rfl, ha, hb, hz, rl⟩ := cat_ok k ru rv hl
    exact ⟨a, b, xs, ys, rfl, rfl, ha, hb, hz, new_obj k p fun S' st => ⟨_, rfl, rl.mono st⟩⟩
  · exact p.elim
@[simp] abbrev oCatT : T → T → AH → Res T := P2 fun x y => (tupOf x).bind fun l => (tupOf y).bind fun m => if l ≠ [] ∧ m ≠ [] ∧ l.length + m.length ≤ sizeLine then some (.tup (l ++ m)) else none
/-! slices -/
@[simp] def cutT (xs : List T) (lo hi : Option Int) : List T := (xs.drop (HT.sIx xs.length 0 lo)).take (HT.sIx xs.length xs.length hi - HT.sIx xs.length 0 lo)
theorem RvL.cut {l : List T} {vs : List V} (r : RvL S l vs) (lo hi : Option Int) : RvL S (cutT l lo hi) (cutV vs lo hi) := by
  unfold cutT cutV
  rw [r.len]
  exact (r.drop _).take _
abbrev FO := LS → AH → Res (Option Int)
def SimO (G : Env) (E : L2.St → XK) (te : TO) (f : FO) : Prop := ∀ (S : Sta) (σ : L2.St) (τ : LS) (Q : Option Int → Hp → Prop), S.G = G → Ok S → RS S τ σ → PostG S (XP (E σ)) (fun t S' => Q t S'.H) (f τ S.h) → te σ S.H Q
@[simp] def mNoPart : FO := fun _ h => .ok none h
@[simp] def mPart (fa : FE) : FO := fun τ h => (fa τ h).bind fun x h1 => match x with | .int i => .ok (some i) h1 | _ => .bad
theorem sim_noPart : SimO G E tNoPart mNoPart := fun S σ τ Q e k rs p => p S rfl k (Step.refl S)
theorem sim_part {ta : TE} {fa : FE} (ha : SimE G E ta fa) : SimO G E (tPart ta) (mPart fa) := fun S σ τ Q e k rs p => by
  refine ha S σ τ _ e k rs (PostG.imp (fun x S1 q u ru => ?_) (PostG.bind p))
  obtain ⟨k1, s1, q⟩ := q
  split at q
  · simp only [Rv] at ru; exact ⟨_, ru, q S1 rfl k1 (Step.refl S1)⟩
  · exact q.elim
def SimSl (G : Env) (r : V → Option Int → Option Int → Hp → VK → Prop) (g : T → Option Int → Option Int → AH → Res T) : Prop := ∀ (S : Sta) (x : T) (u : V) (lo hi : Option Int) (X : Exc → Sta → Prop) (Q : VK), S.G = G → Ok S → Rv S x u → PostG S X (fun t S' => ∀ v, Rv S' t v → Q v S'.H) (g x lo hi S.h) → r u lo hi S.H Q
@[simp] def mSl (g : T → Option Int → Option Int → AH → Res T) (fa : FE) (fl fh : FO) : FE := fun τ h => (fa τ h).bind fun x h1 => (fl τ h1).bind fun lo h2 => (fh τ h2).bind fun hi h3 => g x lo hi h3
theorem sim_sl {r : V → Option Int → Option Int → Hp → VK → Prop} {g : T → Option Int → Option Int → AH → Res T} {ta : TE} {fa : FE} {tl th : TO} {fl fh : FO} (hr : SimSl G r g) (ha : SimE G E ta fa) (hl : SimO G E tl fl) (hh : SimO G E th fh) : SimE G E (tSl r ta tl th) (mSl g fa fl fh) := fun S σ τ Q e k rs p => by
  refine ha S σ τ _ e k rs (PostG.imp (fun x S1 q u ru => ?_) (PostG.bind p))
  obtain ⟨k1, s1, q⟩ := q
  refine hl S1 σ τ _ (s1.G.trans e) k1 (rs.mono s1) (PostG.imp (fun lo S2 q => ?_) (PostG.bind q))
  obtain ⟨k2, s2, q⟩ := q
  refine hh S2 σ τ _ (s2.G.trans (s1.G.trans e)) k2 (rs.mono (s1.trans s2)) (PostG.imp (fun hi S3 q => ?_) (PostG.bind q))
  obtain ⟨k3, s3, q⟩ := q
  exact hr S3 x u lo hi _ Q (s3.G.trans (s2.G.trans (s1.G.trans e))) k3 (ru.mono (s2.trans s3)) q
@[simp] abbrev oSlL : T → Option Int → Option Int → AH → Res T := fun x lo hi h => (pur (lstOf x h) h).bind fun l h1 => .ok (.lst (cutT l lo hi)) h1
@[simp] abbrev oSlLO : T → Option Int → Option Int → AH → Res T := fun x lo hi h => (pur (lstOf x h) h).bind fun l h1 => .ok (.obj h1.length) (h1 ++ [some (.lst (cutT l lo hi))])
theorem so_slL : SimSl G (rSlL G.K) oSlL := fun S x u lo hi X Q e k ru p => by
  rw [← e]
  unfold oSlL pur at p
  split at p
  · rename_i l hl
    obtain ⟨a, vs, rfl, hs, rl⟩ := lstOf_ok k hl ru
    exact ⟨a, vs, rfl, hs, new_fz k p fun p n f => rv_lst f ((rl.cut lo hi).mono (step_at (by assumption) (Grow.upd n)))⟩
  · exact p.elim
theorem so_slLO : SimSl G (rSlL G.K) oSlLO := fun S x u lo hi X Q e k ru p => by
  rw [← e]
  unfold oSlLO pur at p
  split at p
  · rename_i l hl
    obtain ⟨a, vs, rfl, hs, rl⟩ := lstOf_ok k hl ru
    exact ⟨a, vs, rfl, hs, new_obj k p fun S' st => ⟨_, rfl, (rl.cut lo hi).mono st⟩⟩
  · exact p.elim
/-- t[lo:hi] of a tuple -/
abbrev oSlT0 : T → Option Int → Option Int → AH → Res T := fun x lo hi h => (pur (tupOf x) h).bind fun l h1 => if HT.sIx l.length 0 lo = 0 ∧ HT.sIx l.length l.length hi = l.length then .ok x h1 else .ok (.tup (cutT l lo hi)) h1
theorem so_slT0 : SimSl G (rSlA G.K) oSlT0 := fun S x u lo hi X Q e k ru p => by
  rw [← e]
  unfold oSlT0 pur at p
  split at p
  · rename_i l hl
    obtain ⟨a, vs, rfl, hs, rl⟩ := tupOf_ok hl ru
    simp only [Res.bind] at p
    refine ⟨a, vs, rfl, hs, fun hw => ?_, fun hw => ?_⟩
    · rw [rl.len] at hw
      rw [if_pos hw] at p
      exact p S rfl k (Step.refl S) _ ru
    · rw [rl.len] at hw
      rw [if_neg hw] at p
      exact new_fz k p fun p n f => rv_tup f ((rl.cut lo hi).mono (step_at (by assumption) (Grow.upd n)))
  · exact p.elim
@[simp] def oSlT : T → Option Int → Option Int → AH → Res T := fun x lo hi h => match x with
  | .tup l => .ok (.tup (cutT l lo hi)) h
  | x => oSlT0 x lo hi h
theorem so_slT : SimSl G (rSlA G.K) oSlT := fun S x u lo hi X Q e k ru p => so_slT0 S x u lo hi X Q e k ru (by
  unfold oSlT at p
  split at p
  · rename_i l
    show PostG S X _ (if HT.sIx l.length 0 lo = 0 ∧ HT.sIx l.length l.length hi = l.length then Res.ok (T.tup l) S.h else .ok (.tup (cutT l lo hi)) S.h)
    split
    · rename_i hw
      have e : cutT l lo hi = l := by
        unfold cutT
        rw [hw.1, hw.2, List.drop_zero, Nat.sub_zero, List.take_length]
      rw [e] at p; exact p
    · exact p
  · exact p)
@[simp] abbrev oSlS : T → Option Int → Option Int → AH → Res T := fun x lo hi h => match x with | .str z => if z.length ≤ sizeLine then .ok (.str (cutS z lo hi)) h else .bad | _ => .bad
theorem so_slS : SimSl G rSlS oSlS := fun S x u lo hi X Q e k ru p => by
  unfold oSlS at p
  split at p
  · split at p
    · rename_i hb
      simp only [Rv] at ru
      exact ⟨_, ru, hb, p S rfl k (Step.refl S) _ (by simp)⟩
    · exact p.elim
  · exact p.elim
/-! built-ins on values -/
@[simp] def one (g : T → AH → Option T) : List T → AH → Res T := fun xs h => match xs with | [x] => pur (g x h) h | _ => .bad
theorem simC1 {r : List V → Hp → VK → Prop} {g : T → AH → Option T} (hr : ∀ (S : Sta) (x t : T) (u : V) (Q : VK), S.G = G → Ok S → Rv S x u → g x S.h = some t → (∀ w, Rv S t w → Q w S.H) → r [u] S.H Q) : SimRC G r (one g) := fun S xs us X Q e k ru p => by
  unfold one at p
  split at p
  · unfold pur at p
    split at p
    · rename_i t ht
      simp only [RvL] at ru
      obtain ⟨v, _, rfl, h1, rfl⟩ := ru
      exact hr S _ t v Q e k h1 ht fun w rw' => p S rfl k (Step.refl S) w rw'
    · exact p.elim
  · exact p.elim
@[simp] def two (g : T → T → AH → Option T) : List T → AH → Res T := fun xs h => match xs with | [x, y] => pur (g x y h) h | _ => .bad
theorem simC2 {r : List V → Hp → VK → Prop} {g : T → T → AH → Option T} (hr : ∀ (S : Sta) (x y t : T) (u v : V) (Q : VK), S.G = G → Ok S → Rv S x u → Rv S y v → g x y S.h = some t → (∀ w, Rv S t w → Q w S.H) → r [u, v] S.H Q) : SimRC G r (two g) := fun S xs us X Q e k ru p => by
  unfold two at p
  split at p
  · unfold pur at p
    split at p
    · rename_i t ht
      simp only [RvL] at ru
      obtain ⟨v, _, rfl, h1, w, _, rfl, h2, rfl⟩ := ru
      exact hr S _ _ t v w Q e k h1 h2 ht fun w rw' => p S rfl k (Step.refl S) w rw'
    · exact p.elim
  · exact p.elim
@[simp] abbrev bAbs := one fun x _ => match x with | .int i => some (.int (if i < 0 then -i else i)) | _ => none
theorem sb_abs : SimRC G (fun xs H Q => ∃ i, xs = [.int i] ∧ Q (.int (if i < 0 then -i else i)) H) bAbs := simC1 fun S x t u Q e k ru hg q => by
  split at hg
  · simp only [Rv] at ru; cases hg; subst ru; exact ⟨_, rfl, q _ (by simp)⟩
  · cases hg
@[simp] abbrev bMax := two fun x y _ => match x, y with | .int i, .int j => some (.int (if j > i then j else i)) | _, _ => none
@[simp] abbrev bMin := two fun x y _ => match x, y with | .int i, .int j => some (.int (if j < i then j else i)) | _, _ => none
theorem sb_max : SimRC G (fun xs H Q => ∃ i j, xs = [.int i, .int j] ∧ Q (.int (if j > i then j else i)) H) bMax := simC2 fun S x y t u v Q e k ru rv hg q => by
  split at hg
  · simp only [Rv] at ru rv; cases hg; subst ru; subst rv; exact ⟨_, _, rfl, q _ (by simp)⟩
  · cases hg
theorem sb_min : SimRC G (fun xs H Q => ∃ i j, xs = [.int i, .int j] ∧ Q (.int (if j < i then j else i)) H) bMin := simC2 fun S x y t u v Q e k ru rv hg q => by
  split at hg
  · simp only [Rv] at ru rv; cases hg; subst ru; subst rv; exact ⟨_, _, rfl, q _ (by simp)⟩
  · cases hg
@[simp] abbrev bInt := one fun x _ => match x with | .int i => some (.int i) | .bl k => some (.int (if k then 1 else 0)) | _ => none
theorem sb_int : SimRC G (fun xs H Q => (∃ i, xs = [.int i] ∧ Q (.int i) H) ∨ ∃ k, xs = [.bl k] ∧ Q (.int (if k then 1 else 0)) H) bInt := simC1 fun S x t u Q e k ru hg q => by
  split at hg
  · simp only [Rv] at ru; cases hg; subst ru; exact .inl ⟨_, rfl, q _ (by simp)⟩
  · simp only [Rv] at ru; cases hg; subst ru; exact .inr ⟨_, rfl, q _ (by simp)⟩
  · cases hg
@[simp] abbrev bIntS := one fun x _ => match x with | .str a => if a.length ≤ 640 then (PySem.intText? a).map .int else none | _ => none
theorem sb_intS : SimRC G (fun xs H Q => ∃ a n, xs = [.str a] ∧ PySem.intText? a = some n ∧ a.length ≤ 640 ∧ Q (.int n) H) bIntS := simC1 fun S x t u Q e k ru hg q => by
  split at hg
  · split at hg
    · rename_i hb
      obtain ⟨n, hn, rfl⟩ := Option.map_eq_some_iff.mp hg
      simp only [Rv] at ru; subst ru; exact ⟨_, n, rfl, hn, hb, q _ (by simp)⟩
    · cases hg
  · cases hg
@[simp] abbrev bBool := one fun x _ => match x with | .int i => some (.bl (i != 0)) | .bl k => some (.bl k) | _ => none
theorem sb_bool : SimRC G (fun xs H Q => (∃ i, xs = [.int i] ∧ Q (.bl (i != 0)) H) ∨ ∃ k, xs = [.bl k] ∧ Q (.bl k) H) bBool := simC1 fun S x t u Q e k ru hg q => by
  split at hg
  · simp only [Rv] at ru; cases hg; subst ru; exact .inl ⟨_, rfl, q _ (by simp)⟩
  · simp only [Rv] at ru; cases hg; subst ru; exact .inr ⟨_, rfl, q _ (by simp)⟩
  · cases hg
@[simp] abbrev bStr := one fun x _ => match x with | .int i => if i.natAbs.log2 < 1920 then some (.str (toString i)) else none | _ => none
theorem sb_str : SimRC G (fun xs H Q => ∃ i : Int, xs = [.int i] ∧ i.natAbs.log2 < 1920 ∧ Q (.str (toString i)) H) bStr := simC1 fun S x t u Q e k ru hg q => by
  split at hg
  · split at hg
    · rename_i hb
      simp only [Rv] at ru; cases hg; subst ru; exact ⟨_, rfl, hb, q _ (by simp)⟩
    · cases hg
  · cases hg
@[simp] abbrev bLen := one fun x h => (seqOf x h).map fun l => .int l.length
theorem sb_len : SimRC G (fun xs H Q => ∃ p ys, xs = [.ref p] ∧ (SqL G.K H p ys ∨ SqT G.K H p ys) ∧ Q (.int ys.length) H) bLen := simC1 fun S x t u Q e k ru hg q => by
  obtain ⟨l, hl, rfl⟩ := Option.map_eq_some_iff.mp hg
  obtain ⟨p, vs, rfl, hs, rl⟩ := seqOf_ok k hl ru
  rw [e] at hs
  exact ⟨p, vs, rfl, hs, q _ (by rw [rl.len]; simp)⟩
@[simp] abbrev bLenS := one fun x _ => match x with | .str z => if z.length ≤ sizeLine then some (.int z.length) else none | _ => none
theorem sb_lenS : SimRC G (fun xs H Q => ∃ z, xs = [.str z] ∧ z.length ≤ sizeLine ∧ Q (.int z.length) H) bLenS := simC1 fun S x t u Q e k ru hg q => by
  split at hg
  · split at hg
    · rename_i hb
      simp only [Rv] at ru; cases hg; subst ru; exact ⟨_, rfl, hb, q _ (by simp)⟩
    · cases hg
  · cases hg
/-- list(x) of a list or tuple -/
@[simp] abbrev bList : List T → AH → Res T := fun xs h => match xs with | [x] => (pur (seqOf x h) h).bind fun l h1 => .ok (.lst l) h1 | _ => .bad
@[simp] abbrev bListO : List T → AH → Res T := fun xs h => match xs with | [x] => (pur (seqOf x h) h).bind fun l h1 => .ok (.obj h1.length) (h1 ++ [some (.lst l)]) | _ => .bad
theorem sb_list : SimRC G (fun xs H Q => ∃ p ys, xs = [.ref p] ∧ (SqL G.K H p ys ∨ SqT G.K H p ys) ∧ ∀ l, H l = none → Q (.ref l) (upd H l (.lst ys))) bList := fun S xs us X Q e k ru p => by
  rw [← e]
  unfold bList at p
  split at p
  · unfold pur at p
    split at p
    · rename_i l hl
      simp only [RvL] at ru
      obtain ⟨v, _, rfl, h1, rfl⟩ := ru
      obtain ⟨a, vs, rfl, hs, rl⟩ := seqOf_ok k hl h1
      exact ⟨a, vs, rfl, hs, new_fz k p fun p n f => rv_lst f (rl.mono (step_at (by assumption) (Grow.upd n)))⟩
    · exact p.elim
  · exact p.elim
theorem sb_listO : SimRC G (fun xs H Q => ∃ p ys, xs = [.ref p] ∧ (SqL G.K H p ys ∨ SqT G.K H p ys) ∧ ∀ l, H l = none → Q (.ref l) (upd H l (.lst ys))) bListO := fun S xs us X Q e k ru p => by
  rw [← e]
  unfold bListO at p
  split at p
  · unfold pur at p
    split at p
    · rename_i l hl
      simp only [RvL] at ru
      obtain ⟨v, _, rfl, h1, rfl⟩ := ru
      obtain ⟨a, vs, rfl, hs, rl⟩ := seqOf_ok k hl h1
      exact ⟨a, vs, rfl, hs, new_obj k p fun S' st => ⟨_, rfl, rl.mono st⟩⟩
    · exact p.elim
  · exact p.elim
/-- tuple(x) -/
@[simp] abbrev bTuple : List T → AH → Res T := fun xs h => match xs with
  | [x] => match tupOf x with
    | some _ => .ok x h
    | none => (pur (lstOf x h) h).bind fun l h1 => .ok (.tup l) h1
  | _ => .bad
theorem sb_tuple : SimRC G (fun xs H Q => ∃ p ys, xs = [.ref p] ∧ ((SqL G.K H p ys ∧ ∀ l, H l = none → Q (.ref l) (upd H l (.tup ys))) ∨ (SqT G.K H p ys ∧ Q (.ref p) H))) bTuple := fun S xs us X Q e k ru p => by
  rw [← e]
  unfold bTuple at p
  split at p
  · simp only [RvL] at ru
    obtain ⟨v, _, rfl, h1, rfl⟩ := ru
    split at p
    · rename_i l hl
      obtain ⟨a, vs, rfl, hs, rl⟩ := tupOf_ok hl h1
      exact ⟨a, vs, rfl, .inr ⟨hs, p S rfl k (Step.refl S) _ h1⟩⟩
    · unfold pur at p
      split at p
      · rename_i l hl
        obtain ⟨a, vs, rfl, hs, rl⟩ := lstOf_ok k hl h1
        exact ⟨a, vs, rfl, .inl ⟨hs, new_fz k p fun p n f => rv_tup f (rl.mono (step_at (by assumption) (Grow.upd n)))⟩⟩
      · exact p.elim
  · exact p.elim
/-- isinstance(x, T) of a built-in type, by what x is -/
def tyOf : T → AH → Option String
  | .non, _ => some "NoneType" | .bl _, _ => some "bool" | .int _, _ => some "int" | .str _, _ => some "str" | .tup _, _ => some "tuple" | .ktp _, _ => some "tuple" | .lst _, _ => some "list"
  | .obj i, h => match h[i]? with | some (some (.lst _)) => some "list" | some (some (.dct _)) => some "dict" | _ => none
  | .dct _ _, _ => some "dict"
  | _, _ => none
@[simp] abbrev bIsi (n : String) : List T → AH → Res T := one fun x h => (tyOf x h).bind fun a => (kitB a n).map .bl
end M
/-! ### statements, loops, comprehensions, calls, defs -/
namespace M
open PySem PySem.Spec PyProof.Rows L2
variable {G : Env} {E : L2.St → XK} {S : Sta}

inductive Fl where
  | nx (τ : LS) | rt (t : T) | bk (τ : LS) | ct (τ : LS) | xc (e : Exc) (τ : LS)
  deriving Inhabited
abbrev FS := LS → AH → Res Fl
def PF (W : WX) (D : Ends) : Fl → Sta → Prop
  | .nx τ, S => ∀ σ, RS S τ σ → D.nx σ S.H
  | .rt t, S => ∀ v, Rv S t v → D.rt v S.H
  | .bk τ, S => ∀ σ, RS S τ σ → D.bk σ S.H
  | .ct τ, S => ∀ σ, RS S τ σ → D.ct σ S.H
  | .xc e τ, S => ∀ σ, RS S τ σ → XP (WE W σ) e S
abbrev PG (S : Sta) (W : WX) (D : Ends) (r : Res Fl) : Prop := PostG S (fun _ _ => False) (PF W D) r
def SimS (G : Env) (W : WX) (ts : TS) (g : FS) : Prop := ∀ (S : Sta) (σ : L2.St) (τ : LS) (D : Ends), S.G = G → Ok S → RS S τ σ → PG S W D (g τ S.h) → ts D σ S.H
variable {W : WX}
/-- an expression within a statement -/
def liftE {α : Type} (r : Res α) (τ : LS) (k : α → AH → Res Fl) : Res Fl := match r with | .bad => .bad | .ok a h => k a h | .exc e h => .ok (.xc e τ) h
@[simp] theorem lift_ok {α : Type} {a : α} {h : AH} {τ : LS} {k : α → AH → Res Fl} : liftE (.ok a h) τ k = k a h := rfl
@[simp] theorem lift_bad {α : Type} {τ : LS} {k : α → AH → Res Fl} : liftE .bad τ k = .bad := rfl
@[simp] theorem lift_exc {α : Type} {e : Exc} {h : AH} {τ : LS} {k : α → AH → Res Fl} : liftE (.exc e h) τ k = .ok (.xc e τ) h := rfl
theorem PG.lift {α : Type} {σ : L2.St} {τ : LS} {D : Ends} {k : α → AH → Res Fl} (rs : RS S τ σ) : ∀ {r : Res α}, PG S W D (liftE r τ k) → PostG S (XP (WE W σ)) (fun a S1 => Ok S1 ∧ Step S S1 ∧ PG S1 W D (k a S1.h)) r
  | .bad, h => h
  | .ok a h', h => fun S' e k st => by
    subst e
    exact ⟨k, st, PostG.mono st h⟩
  | .exc e h', h => fun S' e' k st => h S' e' k st σ (rs.mono st)
@[simp] def sSkip : FS := fun τ h => .ok (.nx τ) h
theorem sim_next : SimS G W tNext sSkip := fun S σ τ D e k rs p => p S rfl k (Step.refl S) σ rs
@[simp] def sBreak : FS := fun τ h => .ok (.bk τ) h
theorem sim_break : SimS G W tBreak sBreak := fun S σ τ D e k rs p => p S rfl k (Step.refl S) σ rs
@[simp] def sCont : FS := fun τ h => .ok (.ct τ) h
theorem sim_cont : SimS G W tCont sCont := fun S σ τ D e k rs p => p S rfl k (Step.refl S) σ rs
@[simp] def sSeq (f g : FS) : FS := fun τ h => (f τ h).bind fun fl h1 => match fl with | .nx τ' => g τ' h1 | fl => .ok fl h1
theorem sim_seq {t u : TS} {f g : FS} (hf : SimS G W t f) (hg : SimS G W u g) : SimS G W (tSeq t u) (sSeq f g) := fun S σ τ D e k rs p => by
  refine hf S σ τ _ e k rs (PostG.imp (fun fl S1 q => ?_) (PostG.bind p))
  obtain ⟨k1, s1, q⟩ := q
  cases fl with
  | nx τ' => exact fun σ' r => hg S1 σ' τ' D (s1.G.trans e) k1 r q
  | rt t => exact q S1 rfl k1 (Step.refl S1)
  | bk t => exact q S1 rfl k1 (Step.refl S1)
  | ct t => exact q S1 rfl k1 (Step.refl S1)
  | xc e t => exact q S1 rfl k1 (Step.refl S1)
section
variable {te : TE} {fe : FE}
@[simp] def sDrop (fe : FE) : FS := fun τ h => liftE (fe τ h) τ fun _ h1 => .ok (.nx τ) h1
theorem sim_drop (he : SimE G (WE W) te fe) : SimS G W (tDrop te) (sDrop fe) := fun S σ τ D e k rs p => by
  refine he S σ τ _ e k rs (PostG.imp (fun x S1 q u ru => ?_) (PG.lift rs p))
  obtain ⟨k1, s1, q⟩ := q
  exact q S1 rfl k1 (Step.refl S1) σ (rs.mono s1)
@[simp] def sRet (fe : FE) : FS := fun τ h => liftE (fe τ h) τ fun t h1 => .ok (.rt t) h1
theorem sim_ret (he : SimE G (WE W) te fe) : SimS G W (tRet te) (sRet fe) := fun S σ τ D e k rs p => by
  refine he S σ τ _ e k rs (PostG.imp (fun x S1 q u ru => ?_) (PG.lift rs p))
  obtain ⟨k1, s1, q⟩ := q
  exact q S1 rfl k1 (Step.refl S1) u ru
@[simp] def sRetN : FS := fun _ h => .ok (.rt .non) h
theorem sim_retN : SimS G W tRetN sRetN := fun S σ τ D e k rs p => p S rfl k (Step.refl S) _ (by simp only [Rv])
@[simp] def sIf (f : FT) (a b : FS) : FS := fun τ h => liftE (f τ h) τ fun c h1 => if c = true then a τ h1 else b τ h1
theorem sim_if {c : TT} {f : FT} {t u : TS} {a b : FS} (hc : SimT G (WE W) c f) (ha : SimS G W t a) (hb : SimS G W u b) : SimS G W (tIfS c t u) (sIf f a b) := fun S σ τ D e k rs p => by
  refine hc S σ τ _ e k rs (PostG.imp (fun c S1 q => ?_) (PG.lift rs p))
  obtain ⟨k1, s1, q⟩ := q
  cases c with
  | true => exact ha S1 σ τ D (s1.G.trans e) k1 (rs.mono s1) q
  | false => exact hb S1 σ τ D (s1.G.trans e) k1 (rs.mono s1) q
/-! targets -/
abbrev FG := T → LS → Option LS
def SimG (G : Env) (g : TG) (a : FG) : Prop := ∀ (S : Sta) (x : T) (v : V) (τ τ' : LS) (σ : L2.St) (Q : L2.St → Hp → Prop), S.G = G → Ok S → Rv S x v → RS S τ σ → a x τ = some τ' → (∀ σ', RS S τ' σ' → Q σ' S.H) → g v σ S.H Q
@[simp] def aName (i : Nat) : FG := fun x τ => some (τ.set i (some x))
theorem sim_gName {i : Nat} (hn : NoSl G i := by first | exact noSl_none rfl | exact noSl_ne (by decide) | assumption) : SimG G (gName i) (aName i) := fun S x v τ τ' σ Q e k rv rs h q => by
  unfold aName at h; cases h
  exact q _ (RS.set rv i (by rw [e]; exact hn) rs)
abbrev FGs := List T → LS → Option LS
def SimGs (G : Env) (g : TGs) (a : FGs) : Prop := ∀ (S : Sta) (x : List T) (v : List V) (τ τ' : LS) (σ : L2.St) (Q : L2.St → Hp → Prop), S.G = G → Ok S → RvL S x v → RS S τ σ → a x τ = some τ' → (∀ σ', RS S τ' σ' → Q σ' S.H) → g v σ S.H Q
@[simp] def aNil : FGs := fun xs τ => match xs with | [] => some τ | _ => none
@[simp] def aCons (a : FG) (r : FGs) : FGs := fun xs τ => match xs with | x :: xs => (a x τ).bind fun τ' => r xs τ' | [] => none
theorem sim_gNil : SimGs G gNil aNil := fun S x v τ τ' σ Q e k rv rs h q => by
  unfold aNil at h
  split at h
  · cases h
    simp only [RvL] at rv
    exact ⟨rv, q _ rs⟩
  · cases h
theorem sim_gCons {g : TG} {u : TGs} {a : FG} {r : FGs} (hg : SimG G g a) (hu : SimGs G u r) : SimGs G (gCons g u) (aCons a r) := fun S x v τ τ' σ Q e k rv rs h q => by
  unfold aCons at h
  split at h
  · obtain ⟨τ1, h1, h2⟩ := Option.bind_eq_some_iff.mp h
    simp only [RvL] at rv
    obtain ⟨w, m, rfl, r1, r2⟩ := rv
    exact ⟨w, m, rfl, hg S _ _ τ τ1 σ _ e k r1 rs h1 fun σ' rs' => hu S _ _ τ1 τ' σ' Q e k r2 rs' h2 q⟩
  · cases h
@[simp] def aTup (n : Nat) (r : FGs) : FG := fun x τ => (tupOf x).bind fun l => if l.length = n then r l τ else none
theorem sim_gTup {n : Nat} {u : TGs} {r : FGs} (hu : SimGs G u r) : SimG G (gTup G.K n u) (aTup n r) := fun S x v τ τ' σ Q e k rv rs h q => by
  unfold aTup at h
  obtain ⟨l, hl, h⟩ := Option.bind_eq_some_iff.mp h
  split at h
  · rename_i hn
    obtain ⟨p, vs, rfl, hs, rl⟩ := tupOf_ok hl rv
    rw [e] at hs
    exact ⟨p, vs, rfl, hs, by rw [rl.len]; exact hn, hu S l vs τ τ' σ Q e k rl rs h q⟩
  · cases h
@[simp] def sAsg (fe : FE) (a : FG) : FS := fun τ h => liftE (fe τ h) τ fun t h1 => match a t τ with | some τ' => .ok (.nx τ') h1 | none => .bad
theorem sim_asg {g : TG} {a : FG} (he : SimE G (WE W) te fe) (hg : SimG G g a) : SimS G W (tAsg te g) (sAsg fe a) := fun S σ τ D e k rs p => by
  refine he S σ τ _ e k rs (PostG.imp (fun x S1 q u ru => ?_) (PG.lift rs p))
  obtain ⟨k1, s1, q⟩ := q
  split at q
  · rename_i τ' hτ
    exact hg S1 x u τ τ' σ _ (s1.G.trans e) k1 ru (rs.mono s1) hτ fun σ' rs' => q S1 rfl k1 (Step.refl S1) σ' rs'
  · exact q.elim
@[simp] def sSet (i : Nat) (fe : FE) : FS := fun τ h => liftE (fe τ h) τ fun t h1 => .ok (.nx (τ.set i (some t))) h1
theorem sim_set {i : Nat} (he : SimE G (WE W) te fe) (hn : NoSl G i := by first | exact noSl_none rfl | exact noSl_ne (by decide) | assumption) : SimS G W (tAsg te (gName i)) (sSet i fe) := fun S σ τ D e k rs p => by
  refine he S σ τ _ e k rs (PostG.imp (fun x S1 q u ru => ?_) (PG.lift rs p))
  obtain ⟨k1, s1, q⟩ := q
  exact q S1 rfl k1 (Step.refl S1) _ (RS.set ru i (by rw [s1.G, e]; exact hn) (rs.mono s1))
/-- a, b = x, y -/
@[simp] def sPar (i j : Nat) (fa : FA) : FS := fun τ h => liftE (fa τ h) τ fun xs h1 => match xs with | [x, y] => .ok (.nx ((τ.set i (some x)).set j (some y))) h1 | _ => .bad
theorem sim_par {i j : Nat} {ta : TA} {fa : FA} (he : SimA G (WE W) ta fa) (hn : NoSl G i := by first | exact noSl_none rfl | exact noSl_ne (by decide) | assumption) (hm : NoSl G j := by first | exact noSl_none rfl | exact noSl_ne (by decide) | assumption) : SimS G W (tPar i j ta) (sPar i j fa) := fun S σ τ D e k rs p => by
  refine he S σ τ _ e k rs (PostG.imp (fun x S1 q u ru => ?_) (PG.lift rs p))
  obtain ⟨k1, s1, q⟩ := q
  split at q
  · simp only [RvL] at ru
    obtain ⟨v, _, rfl, r1, w, _, rfl, r2, rfl⟩ := ru
    exact ⟨v, w, rfl, q S1 rfl k1 (Step.refl S1) _ (RS.set r2 j (by rw [s1.G, e]; exact hm) (RS.set r1 i (by rw [s1.G, e]; exact hn) (rs.mono s1)))⟩
  · exact q.elim
/-- x op= e -/
@[simp] def sAug (i : Nat) (fe : FE) (g : T → T → AH → Res T) : FS := fun τ h => match τ[i]? with
  | some (some x) => liftE (fe τ h) τ fun y h1 => liftE (g x y h1) τ fun z h2 => .ok (.nx (τ.set i (some z))) h2
  | _ => .bad
def SimIp (G : Env) (r : TIp) (g : T → T → AH → Res T) : Prop := SimR2 G r g
theorem sim_aug {i : Nat} {r : TIp} {g : T → T → AH → Res T} (hr : SimR2 G r g) (he : SimE G (WE W) te fe) (hn : NoSl G i := by first | exact noSl_none rfl | exact noSl_ne (by decide) | assumption) : SimS G W (tAug i te r) (sAug i fe g) := fun S σ τ D e k rs p => by
  unfold sAug at p
  split at p
  · rename_i x hx
    obtain ⟨u, hu, ru⟩ := rs.get hx
    refine ⟨u, hu, ?_⟩
    refine he S σ τ _ e k rs (PostG.imp (fun y S1 q v rv => ?_) (PG.lift rs p))
    obtain ⟨k1, s1, q⟩ := q
    refine hr S1 x y u v _ _ (s1.G.trans e) k1 (ru.mono s1) rv (PostG.imp (fun z S2 q w rw' => ?_) (PG.lift (σ := σ) (rs.mono s1) q))
    obtain ⟨k2, s2, q⟩ := q
    exact q S2 rfl k2 (Step.refl S2) _ (RS.set rw' i (by rw [s2.G, s1.G, e]; exact hn) (rs.mono (s1.trans s2)))
  · exact p.elim
end
/-! while -/
def sWhile (f : FT) (b : FS) : Nat → FS
  | 0 => fun _ _ => .bad
  | n + 1 => fun τ h => liftE (f τ h) τ fun c h1 => if c = true then (b τ h1).bind fun fl h2 => match fl with
      | .nx τ' => sWhile f b n τ' h2
      | .ct τ' => sWhile f b n τ' h2
      | .bk τ' => .ok (.nx τ') h2
      | fl => .ok fl h2
    else .ok (.nx τ) h1
theorem sim_while {c : TT} {f : FT} {t : TS} {b : FS} (n : Nat) (hc : SimT G (WE W) c f) (hb : SimS G W t b) : SimS G W (tWhile c t) (sWhile f b n) := fun S σ τ D e k rs p => by
  refine ⟨fun m σ H => ∃ S τ, S.H = H ∧ S.G = G ∧ Ok S ∧ RS S τ σ ∧ PG S W D (sWhile f b m τ S.h), ⟨n, S, τ, rfl, e, k, rs, p⟩, ?_⟩
  rintro m σ H ⟨S, τ, rfl, e, k, rs, p⟩
  cases m with
  | zero => exact p.elim
  | succ m =>
    refine hc S σ τ _ e k rs (PostG.imp (fun c S1 q => ?_) (PG.lift rs p))
    obtain ⟨k1, s1, q⟩ := q
    cases c with
    | false => exact q S1 rfl k1 (Step.refl S1) σ (rs.mono s1)
    | true =>
      rw [if_pos rfl]
      refine ⟨fun σ' H' => ∃ S τ, S.H = H' ∧ S.G = G ∧ Ok S ∧ RS S τ σ' ∧ PG S W D (sWhile f b m τ S.h), fun σ' H' h => ⟨m, Nat.lt_succ_self m, h⟩, ?_⟩
      refine hb S1 σ τ _ (s1.G.trans e) k1 (rs.mono s1) (PostG.imp (fun fl S2 q => ?_) (PostG.bind q))
      obtain ⟨k2, s2, q⟩ := q
      cases fl with
      | nx τ' => exact fun σ' r => ⟨S2, τ', rfl, s2.G.trans (s1.G.trans e), k2, r, q⟩
      | ct τ' => exact fun σ' r => ⟨S2, τ', rfl, s2.G.trans (s1.G.trans e), k2, r, q⟩
      | bk τ' => exact q S2 rfl k2 (Step.refl S2)
      | rt t => exact q S2 rfl k2 (Step.refl S2)
      | xc e t => exact q S2 rfl k2 (Step.refl S2)
/-! what is walked -/
/-- J gives the items of l, one a turn, whatever else goes on -/
def ItOk (S0 : Sta) (J : It) (l : List T) : Prop := ∀ S, Tr S0 S → Ok S → ∀ i : Nat, (∀ x, l[i]? = some x → J.go i S.H ∧ ∀ v H', J.yld i S.H v H' → ∃ S', S'.H = H' ∧ S'.h = S.h ∧ Ok S' ∧ Step S S' ∧ Rv S' x v) ∧ (l.length ≤ i → J.stop i S.H)
def SimI (G : Env) (E : L2.St → XK) (wi : TI) (fi : FA) : Prop := ∀ (S : Sta) (σ : L2.St) (τ : LS) (R : It → Hp → Prop), S.G = G → Ok S → RS S τ σ → PostG S (XP (E σ)) (fun l S' => ∀ J, ItOk S' J l → R J S'.H) (fi τ S.h) → wi σ S.H R
theorem it_list {p : Addr} {l : List T} {vs : List V} (e : S.G = G) (f : Fz S p (.lst vs)) (r : RvL S l vs) : ItOk S (Itl G.K p) l := fun S1 st k i => by
  have hs : SqL G.K S1.H p vs := by rw [← e, ← st.G]; exact sql_of (st.fz _ _ f)
  have uniq : ∀ xs, SqL G.K S1.H p xs → xs[i]? = vs[i]? ∨ True := fun _ _ => .inr trivial
  refine ⟨fun x hx => ?_, fun h => ⟨vs, hs, by rw [r.len]; exact h⟩⟩
  obtain ⟨v, hv, rv⟩ := (r.tr st).get hx
  refine ⟨⟨vs, v, hs, hv⟩, fun w H' hy => ?_⟩
  obtain ⟨rfl, hy⟩ := hy
  have := hy vs hs
  rw [hv] at this
  cases this
  exact ⟨S1, rfl, rfl, k, Step.refl S1, rv⟩
theorem it_tup {p : Addr} {l : List T} {vs : List V} (e : S.G = G) (hs : ∀ S1, Tr S S1 → SqT G.K S1.H p vs) (r : RvL S l vs) : ItOk S (Itt G.K p) l := fun S1 st k i => by
  have hs := hs S1 st
  refine ⟨fun x hx => ?_, fun h => ⟨vs, hs, by rw [r.len]; exact h⟩⟩
  obtain ⟨v, hv, rv⟩ := (r.tr st).get hx
  refine ⟨⟨vs, v, hs, hv⟩, fun w H' hy => ?_⟩
  obtain ⟨rfl, hy⟩ := hy
  have := hy vs hs
  rw [hv] at this
  cases this
  exact ⟨S1, rfl, rfl, k, Step.refl S1, rv⟩
theorem tup_stay {x : T} {l : List T} {u : V} (e : S.G = G) (h : tupOf x = some l) (r : Rv S x u) : ∃ p vs, u = .ref p ∧ (∀ S1, Tr S S1 → SqT G.K S1.H p vs) ∧ RvL S l vs := by
  subst e
  cases x <;> simp only [tupOf] at h <;> first
    | (cases h; done)
    | (cases h; simp only [Rv] at r; obtain ⟨p, vs, rfl, f, rl⟩ := r; first | exact ⟨p, vs, rfl, fun S1 st => by rw [← st.G]; exact sqt_of (st.fz _ _ f), rl⟩ | exact ⟨p, vs, rfl, fun S1 st => .inr f, rl⟩)
section
variable {te : TE} {fe : FE} {ta : TA} {fa : FA}
@[simp] def iLst (fe : FE) : FA := fun τ h => (fe τ h).bind fun x h1 => match x with | .lst l => .ok l h1 | _ => .bad
theorem sim_iLst (he : SimE G E te fe) : SimI G E (iList G.K te) (iLst fe) := fun S σ τ R e k rs p => by
  refine he S σ τ _ e k rs (PostG.imp (fun x S1 q u ru => ?_) (PostG.bind p))
  obtain ⟨k1, s1, q⟩ := q
  split at q
  · simp only [Rv] at ru
    obtain ⟨p, vs, rfl, f, rl⟩ := ru
    have e1 := s1.G.trans e
    exact ⟨p, rfl, ⟨vs, by rw [← e1]; exact sql_of f⟩, q S1 rfl k1 (Step.refl S1) _ (it_list e1 f rl)⟩
  · exact q.elim
@[simp] def iTupM (fe : FE) : FA := fun τ h => (fe τ h).bind fun x h1 => match tupOf x with | some l => .ok l h1 | none => .bad
theorem sim_iTup (he : SimE G E te fe) : SimI G E (iTup G.K te) (iTupM fe) := fun S σ τ R e k rs p => by
  refine he S σ τ _ e k rs (PostG.imp (fun x S1 q u ru => ?_) (PostG.bind p))
  obtain ⟨k1, s1, q⟩ := q
  split at q
  · rename_i l hl
    have e1 := s1.G.trans e
    obtain ⟨p, vs, rfl, hs, rl⟩ := tup_stay e1 hl ru
    exact ⟨p, rfl, ⟨vs, hs S1 (Tr.refl S1)⟩, q S1 rfl k1 (Step.refl S1) _ (it_tup e1 hs rl)⟩
  · exact q.elim
@[simp] def irange (lo : Int) (n : Nat) : List T := (List.range n).map fun i => .int (lo + (i : Nat))
theorem it_rng {lo : Int} {n : Nat} : ItOk S (Itr lo n) (irange lo n) := fun S1 st k i => by
  refine ⟨fun x hx => ?_, fun h => by rw [irange, List.length_map, List.length_range] at h; exact h⟩
  unfold irange at hx
  rw [List.getElem?_map] at hx
  obtain ⟨j, hj, rfl⟩ := Option.map_eq_some_iff.mp hx
  have h1 := (List.getElem?_eq_some_iff.mp hj).1
  rw [List.length_range] at h1
  have h2 : j = i := by
    rw [List.getElem?_range h1] at hj
    exact (Option.some.inj hj).symm
  subst h2
  refine ⟨h1, fun v H' hy => ?_⟩
  obtain ⟨rfl, rfl⟩ := hy
  exact ⟨S1, rfl, rfl, k, Step.refl S1, by simp only [Rv]⟩
/-- a bound that range takes -/
def r62 (i : Int) : Bool := decide (i.natAbs.log2 < 61)
theorem r62_iff {i : Int} (h : r62 i = true) : -(2 ^ 62) ≤ i ∧ i < 2 ^ 62 := by
  have h : i.natAbs.log2 < 61 := of_decide_eq_true h
  by_cases z : i.natAbs = 0
  · omega
  · have := (Nat.log2_lt z).mp h
    have : (2 : Nat) ^ 61 = 2305843009213693952 := by decide
    omega
theorem r62_ok {i : Int} (h0 : -1000000000000 ≤ i) (h1 : i ≤ 1000000000000) : r62 i = true := by
  refine decide_eq_true ?_
  by_cases z : i.natAbs = 0
  · rw [z]; decide
  · refine (Nat.log2_lt z).mpr ?_
    have : (2 : Nat) ^ 61 = 2305843009213693952 := by decide
    omega
@[simp] theorem r62_0 : r62 0 = true := r62_ok (by decide) (by decide)
@[simp] theorem r62_1 : r62 1 = true := r62_ok (by decide) (by decide)
@[simp] theorem r62_2 : r62 2 = true := r62_ok (by decide) (by decide)
@[simp] theorem r62_3 : r62 3 = true := r62_ok (by decide) (by decide)
@[simp] theorem r62_4 : r62 4 = true := r62_ok (by decide) (by decide)
@[simp] theorem r62_5 : r62 5 = true := r62_ok (by decide) (by decide)
@[simp] theorem r62_6 : r62 6 = true := r62_ok (by decide) (by decide)
@[simp] theorem r62_7 : r62 7 = true := r62_ok (by decide) (by decide)
@[simp] theorem r62_8 : r62 8 = true := r62_ok (by decide) (by decide)
@[simp] theorem r62_32 : r62 32 = true := r62_ok (by decide) (by decide)
/-- range(i, j) -/
def rngI (i j : Int) (h : AH) : Res (List T) := match r62 i && r62 j with | true => .ok (irange i (j - i).toNat) h | false => .bad
@[simp] theorem rngI_ok {i j : Int} {h : AH} (hi : r62 i = true) (hj : r62 j = true) : rngI i j h = .ok (irange i (j - i).toNat) h := by
  unfold rngI; rw [hi, hj]; rfl
@[simp] def iRngA (fa : FA) : FA := fun τ h => (fa τ h).bind fun xs h1 => match xs with | [.int j] => rngI 0 j h1 | _ => .bad
theorem sim_rng1 (ha : SimA G E ta fa) : SimI G E (iRng1 ta) (iRngA fa) := fun S σ τ R e k rs p => by
  refine ha S σ τ _ e k rs (PostG.imp (fun x S1 q u ru => ?_) (PostG.bind p))
  obtain ⟨k1, s1, q⟩ := q
  split at q
  · rename_i j
    by_cases hb : r62 j = true
    · rw [rngI_ok r62_0 hb, Int.sub_zero] at q
      simp only [RvL] at ru
      obtain ⟨v, _, rfl, r1, rfl⟩ := ru
      simp only [Rv] at r1
      subst r1
      exact ⟨_, rfl, (r62_iff hb).1, (r62_iff hb).2, q S1 rfl k1 (Step.refl S1) _ it_rng⟩
    · unfold rngI at q
      rw [Bool.eq_false_iff.mpr hb, Bool.and_false] at q
      exact q.elim
  · exact q.elim
@[simp] def iRngB (fa : FA) : FA := fun τ h => (fa τ h).bind fun xs h1 => match xs with | [.int i, .int j] => rngI i j h1 | _ => .bad
theorem sim_rng2 (ha : SimA G E ta fa) : SimI G E (iRng2 ta) (iRngB fa) := fun S σ τ R e k rs p => by
  refine ha S σ τ _ e k rs (PostG.imp (fun x S1 q u ru => ?_) (PostG.bind p))
  obtain ⟨k1, s1, q⟩ := q
  split at q
  · rename_i i j
    by_cases hb : r62 i = true ∧ r62 j = true
    · rw [rngI_ok hb.1 hb.2] at q
      simp only [RvL] at ru
      obtain ⟨v, _, rfl, r1, w, _, rfl, r2, rfl⟩ := ru
      simp only [Rv] at r1 r2
      subst r1; subst r2
      exact ⟨_, _, rfl, ⟨(r62_iff hb.1).1, (r62_iff hb.1).2, r62_iff hb.2⟩, q S1 rfl k1 (Step.refl S1) _ it_rng⟩
    · unfold rngI at q
      cases h1 : r62 i with
      | false => rw [h1] at q; exact q.elim
      | true => cases h2 : r62 j with
        | false => rw [h1, h2] at q; exact q.elim
        | true => exact (hb ⟨h1, h2⟩).elim
  · exact q.elim
@[simp] def chars (x : Str) : List T := x.cps.toList.map fun c => .str ⟨#[c]⟩
theorem it_str {x : Str} : ItOk S (Its x) (chars x) := fun S1 st k i => by
  refine ⟨fun t ht => ?_, fun h => by rw [chars, List.length_map, Array.length_toList] at h; exact h⟩
  unfold chars at ht
  rw [List.getElem?_map] at ht
  obtain ⟨c, hc, rfl⟩ := Option.map_eq_some_iff.mp ht
  have h1 := (List.getElem?_eq_some_iff.mp hc).1
  rw [Array.length_toList] at h1
  refine ⟨h1, fun v H' hy => ?_⟩
  obtain ⟨rfl, c', hc', rfl⟩ := hy
  rw [Array.getElem?_toList] at hc
  rw [hc] at hc'
  cases hc'
  exact ⟨S1, rfl, rfl, k, Step.refl S1, by simp only [Rv]⟩
@[simp] def iStrM (fe : FE) : FA := fun τ h => (fe τ h).bind fun x h1 => match x with | .str z => .ok (chars z) h1 | _ => .bad
theorem sim_iStr (he : SimE G E te fe) : SimI G E (iStr te) (iStrM fe) := fun S σ τ R e k rs p => by
  refine he S σ τ _ e k rs (PostG.imp (fun x S1 q u ru => ?_) (PostG.bind p))
  obtain ⟨k1, s1, q⟩ := q
  split at q
  · simp only [Rv] at ru
    exact ⟨_, ru, q S1 rfl k1 (Step.refl S1) _ it_str⟩
  · exact q.elim
end
/-! for -/
def sForL (a : FG) (b : FS) : List T → FS
  | [] => fun τ h => .ok (.nx τ) h
  | x :: xs => fun τ h => match a x τ with
    | some τ' => (b τ' h).bind fun fl h1 => match fl with
      | .nx τ2 => sForL a b xs τ2 h1
      | .ct τ2 => sForL a b xs τ2 h1
      | .bk τ2 => .ok (.nx τ2) h1
      | fl => .ok fl h1
    | none => .bad
@[simp] def sFor (fi : FA) (a : FG) (b : FS) : FS := fun τ h => liftE (fi τ h) τ fun l h1 => sForL a b l τ h1
theorem sim_for {wi : TI} {fi : FA} {g : TG} {a : FG} {t : TS} {b : FS} (hi : SimI G (WE W) wi fi) (hg : SimG G g a) (hb : SimS G W t b) : SimS G W (tFor wi g t) (sFor fi a b) := fun S σ τ D e k rs p => by
  refine hi S σ τ _ e k rs (PostG.imp (fun l S1 q J hJ => ?_) (PG.lift rs p))
  obtain ⟨k1, s1, q⟩ := q
  refine ⟨fun i m σ H => ∃ S τ, S.H = H ∧ S.G = G ∧ Ok S ∧ Step S1 S ∧ RS S τ σ ∧ m = l.length - i ∧ i ≤ l.length ∧ PG S W D (sForL a b (l.drop i) τ S.h), ⟨l.length, S1, τ, rfl, s1.G.trans e, k1, Step.refl S1, rs.mono s1, by simp, Nat.zero_le _, q⟩, ?_⟩
  rintro i m σ H ⟨S, τ, rfl, e, k, st, rs, rfl, hi, p⟩
  obtain ⟨go, stop⟩ := hJ S st.tr k i
  by_cases hl : i < l.length
  · right
    have hx : l[i]? = some l[i] := List.getElem?_eq_getElem hl
    obtain ⟨g1, g2⟩ := go _ hx
    refine ⟨g1, fun σ' H' => ∃ S τ, S.H = H' ∧ S.G = G ∧ Ok S ∧ Step S1 S ∧ RS S τ σ' ∧ PG S W D (sForL a b (l.drop (i + 1)) τ S.h), ?_, ?_⟩
    · rintro σ' H' ⟨S2, τ2, rfl, e2, k2, st2, rs2, p2⟩
      exact ⟨l.length - (i + 1), by omega, S2, τ2, rfl, e2, k2, st2, rs2, rfl, hl, p2⟩
    · intro v H' hy
      obtain ⟨S2, rfl, hh, k2, st2, rv⟩ := g2 v H' hy
      rw [List.drop_eq_getElem_cons hl] at p
      unfold sForL at p
      split at p
      · rename_i τ' hτ
        refine hg S2 _ v τ τ' σ _ (st2.G.trans e) k2 rv (rs.mono st2) hτ fun σ2 rs2 => ?_
        rw [← hh] at p
        refine hb S2 σ2 τ' _ (st2.G.trans e) k2 rs2 (PostG.imp (fun fl S3 q => ?_) (PostG.bind (PostG.mono st2 p)))
        obtain ⟨k3, s3, q⟩ := q
        cases fl with
        | nx τ2 => exact fun σ' r => ⟨S3, τ2, rfl, s3.G.trans (st2.G.trans e), k3, st.trans (st2.trans s3), r, q⟩
        | ct τ2 => exact fun σ' r => ⟨S3, τ2, rfl, s3.G.trans (st2.G.trans e), k3, st.trans (st2.trans s3), r, q⟩
        | bk τ' => exact q S3 rfl k3 (Step.refl S3)
        | rt t => exact q S3 rfl k3 (Step.refl S3)
        | xc e t => exact q S3 rfl k3 (Step.refl S3)
      · exact p.elim
  · left
    refine ⟨stop (by omega), ?_⟩
    rw [List.drop_eq_nil_of_le (by omega)] at p
    exact p S rfl k (Step.refl S) σ rs
/-! calls -/
/-- a def's promise: what its mirror m of n arguments says -/
def spM (G : Env) (n : Nat) (m : List T → AH → Res T) : Sp := fun vs H Q E => ∃ S ts, S.G = G ∧ Ok S ∧ S.H = H ∧ RvL S ts vs ∧ ts.length = n ∧ PostG S (XP E) (fun t S' => ∀ v, Rv S' t v → Q v S'.H) (m ts S.h)
@[simp] def mCall (n : Nat) (m : List T → AH → Res T) (fr : FA) : FE := fun τ h => (fr τ h).bind fun xs h1 => if xs.length = n then m xs h1 else .bad
theorem PostG.exc {α : Type} {X X' : Exc → Sta → Prop} {P : α → Sta → Prop} (h : ∀ e S', X e S' → X' e S') : ∀ {r : Res α}, PostG S X P r → PostG S X' P r
  | .bad, q => q
  | .ok _ _, q => q
  | .exc _ _, q => fun S' e k st => h _ _ (q S' e k st)
theorem sim_call {n : Nat} {m : List T → AH → Res T} {ta : TA} {fa : FA} (ha : SimA G E ta fa) : SimE G E (tCall (spM G n m) [] (fun _ _ _ => True) ta) (mCall n m fa) := fun S σ τ Q e k rs p => by
  refine ha S σ τ _ e k rs (PostG.imp (fun x S1 q u ru => ?_) (PostG.bind p))
  obtain ⟨k1, s1, q⟩ := q
  split at q
  · rename_i hn
    rw [List.append_nil]
    exact ⟨S1, x, s1.G.trans e, k1, rfl, ru, hn, PostG.exc (fun _ _ _ _ _ _ => trivial) q⟩
  · exact q.elim
theorem sim_callS {n : Nat} {m : List T → AH → Res T} {ta : TA} {fa : FA} (ha : SimA G E ta fa) : SimE G E (tCallS (spM G n m) E ta) (mCall n m fa) := fun S σ τ Q e k rs p => by
  refine ha S σ τ _ e k rs (PostG.imp (fun x S1 q u ru => ?_) (PostG.bind p))
  obtain ⟨k1, s1, q⟩ := q
  split at q
  · rename_i hn
    exact ⟨S1, x, s1.G.trans e, k1, rfl, ru, hn, q⟩
  · exact q.elim
/-! a def's body -/
@[simp] def outD : Res Fl → Res T
  | .ok (.nx _) h1 => .ok .non h1
  | .ok (.rt t) h1 => .ok t h1
  | .ok (.xc e _) h1 => .exc e h1
  | _ => .bad
@[simp] def mDef (N : Nat) (b : FS) : List T → AH → Res T := fun ts h => outD (b (ts.map some ++ List.replicate (N - ts.length) none) h)
theorem RS0.start {N : List Str} : ∀ {ts : List T} {vs : List V} {n : Nat}, RvL S ts vs → RS0 S (ts.map some ++ List.replicate n none) (vs.map some ++ List.replicate n none)
  | [], vs, n, h => by
    simp only [RvL] at h
    subst h
    simp only [List.map_nil, List.nil_append]
    induction n with
    | zero => rfl
    | succ n ih => exact ⟨none, _, rfl, (fun t ht => by cases ht), ih⟩
  | t :: ts, vs, n, h => by
    simp only [RvL] at h
    obtain ⟨v, r, rfl, h1, h2⟩ := h
    exact ⟨some v, _, rfl, fun t' ht => ⟨v, rfl, by cases ht; exact h1⟩, RS0.start (N := N) h2⟩
/-- the body's reading follows from its mirror -/
theorem def_run {N : List Str} {n : Nat} {b : FS} {t : TS} {vs : List V} {H : Hp} {Q : VK} {E : XK} (hb : SimS G (fun cls d _ H => E cls d H) t b) (h : spM G n (mDef N.length b) vs H Q E) (hx : G.ex = none := by rfl) : t { nx := fun _ H' => Q .non H', rt := Q } (start N vs) H := by
  obtain ⟨S, ts, e, k, rfl, rl, hn, p⟩ := h
  have rs : RS S _ _ := ⟨RS0.start (N := N) (n := N.length - vs.length) rl, fun x h => by rw [e, hx] at h; cases h⟩
  have el : N.length - ts.length = N.length - vs.length := by rw [rl.len]
  unfold mDef at p
  rw [el] at p
  have q : PG S (fun cls d _ H => E cls d H) { nx := fun _ H' => Q .non H', rt := Q } (b (ts.map some ++ List.replicate (N.length - vs.length) none) S.h) := by
    cases hr : b (ts.map some ++ List.replicate (N.length - vs.length) none) S.h with
    | bad => rw [hr] at p; exact p
    | exc e h' => rw [hr] at p; exact p.elim
    | ok fl h' =>
      rw [hr] at p
      intro S' e' k' st
      cases fl with
      | nx τ => exact fun σ _ => p S' e' k' st _ (by simp only [Rv])
      | rt t => exact p S' e' k' st
      | bk τ => exact p.elim
      | ct τ => exact p.elim
      | xc e τ => exact fun σ _ => p S' e' k' st
  exact hb S _ _ _ e k rs q
theorem sp_len {n : Nat} {m : List T → AH → Res T} {ps : List Str} (hp : ps.length = n) : ∀ vs H Q E, spM G n m vs H Q E → vs.length = ps.length := fun vs H Q E h => by
  obtain ⟨S, ts, e, k, rfl, rl, hn, p⟩ := h
  rw [rl.len, hn, hp]
end M
/-! ### methods of lists, dicts, instances, truth, comprehensions, letting go, cleaning -/
namespace M
open PySem PySem.Spec PyProof.Rows L2
variable {G : Env} {E : L2.St → XK} {S : Sta} {W : WX}

theorem obj_at {i : Nat} {o : O} {u : V} (k : Ok S) (h : S.h[i]? = some (some o)) (r : Rv S (.obj i) u) : ∃ p ho, u = .ref p ∧ S.al[i]? = some p ∧ S.H p = some ho ∧ RO S o ho := by
  simp only [Rv] at r
  obtain ⟨p, hp, rfl⟩ := r
  obtain ⟨u, hu, ro⟩ := k.rel i o p h hp
  exact ⟨p, u, rfl, hp, hu, ro⟩
theorem RO.mk_lst {l : List T} {vs : List V} (r : RvL S l vs) : RO S (.lst l) (.lst vs) := ⟨vs, rfl, r⟩
/-- a tracked object is written, and that is all -/
theorem put_done {i : Nat} {o o' : O} {p : Addr} {u : HO} {t : T} {v : V} {Q : VK} {X : Exc → Sta → Prop} (k : Ok S) (h : S.h[i]? = some (some o)) (hp : S.al[i]? = some p) (ro : RO S o' u) (rv : Rv S t v)
    (q : PostG S X (fun t S' => ∀ v, Rv S' t v → Q v S'.H) (.ok t (S.h.set i (some o')))) : Q v (upd S.H p u) :=
  have st := step_put (o' := o') (u := u) k h hp
  q (S.put i o' (upd S.H p u)) rfl (ok_put k h hp ro) st v (rv.mono st)
/-! methods of lists -/
def SimM (G : Env) (T0 : String) (r : V → List V → Hp → VK → Prop) (g : T → List T → AH → Res T) : Prop := ∀ (S : Sta) (x : T) (xs : List T) (u : V) (us : List V) (X : Exc → Sta → Prop) (Q : VK), S.G = G → Ok S → Rv S x u → RvL S xs us → PostG S X (fun t S' => ∀ v, Rv S' t v → Q v S'.H) (g x xs S.h) → r u us S.H Q
@[simp] def isLst : T → AH → Bool
  | .obj i, h => match h[i]? with | some (some (.lst _)) => true | _ => false
  | _, _ => false
@[simp] def mLM (g : T → List T → AH → Res T) (fo : FE) (fr : FA) : FE := fun τ h => (fo τ h).bind fun x h1 => if isLst x h1 = true then (fr τ h1).bind fun xs h2 => g x xs h2 else .bad
theorem ty_list {x : T} {u : V} (k : Ok S) (r : Rv S x u) (h : isLst x S.h = true) : tyV S.G.K "list" u S.H := by
  unfold isLst at h
  split at h
  · split at h
    · rename_i l hl
      obtain ⟨p, vs, rfl, _, hp, _⟩ := obj_lst k hl r
      exact .inl ⟨rfl, vs, .inl (.inl hp)⟩
    · cases h
  · cases h
theorem sim_LM {r : V → List V → Hp → VK → Prop} {g : T → List T → AH → Res T} {to : TE} {fo : FE} {tr : TA} {fr : FA} (hm : SimM G "list" r g) (ho : SimE G E to fo) (ha : SimA G E tr fr) : SimE G E (tBM G.K "list" r to tr) (mLM g fo fr) := fun S σ τ Q e k rs p => by
  refine ho S σ τ _ e k rs (PostG.imp (fun x S1 q u ru => ?_) (PostG.bind p))
  obtain ⟨k1, s1, q⟩ := q
  split at q
  · rename_i hl
    have e1 := s1.G.trans e
    have ty := ty_list k1 ru hl
    rw [e1] at ty
    refine ⟨ty, ?_⟩
    refine ha S1 σ τ _ e1 k1 (rs.mono s1) (PostG.imp (fun y S2 q v rv => ?_) (PostG.bind q))
    obtain ⟨k2, s2, q⟩ := q
    exact hm S2 x y u v _ Q (s2.G.trans e1) k2 (ru.mono s2) rv q
  · exact q.elim
@[simp] def mLM0 (g : T → List T → AH → Res T) (fo : FE) : FE := fun τ h => (fo τ h).bind fun x h1 => if isLst x h1 = true then g x [] h1 else .bad
theorem sim_LM0 {r : V → List V → Hp → VK → Prop} {g : T → List T → AH → Res T} {to : TE} {fo : FE} (hm : SimM G "list" r g) (ho : SimE G E to fo) : SimE G E (tBM0 G.K "list" r to) (mLM0 g fo) := fun S σ τ Q e k rs p => by
  refine ho S σ τ _ e k rs (PostG.imp (fun x S1 q u ru => ?_) (PostG.bind p))
  obtain ⟨k1, s1, q⟩ := q
  split at q
  · rename_i hl
    have e1 := s1.G.trans e
    have ty := ty_list k1 ru hl
    rw [e1] at ty
    exact ⟨ty, hm S1 x [] u [] _ Q e1 k1 ru RvL.nil q⟩
  · exact q.elim
@[simp] def gApp : T → List T → AH → Res T
  | .obj i, [y], h => match h[i]? with
    | some (some (.lst l)) => if l.length < sizeLine then .ok .non (h.set i (some (.lst (l ++ [y])))) else .bad
    | _ => .bad
  | _, _, _ => .bad
theorem sm_append : SimM G "list" rAppend gApp := fun S x xs u us X Q e k ru rus p => by
  unfold gApp at p
  split at p
  · split at p
    · rename_i l hl
      split at p
      · rename_i hz
        obtain ⟨a, vs, rfl, hp, ha, rl⟩ := obj_lst k hl ru
        simp only [RvL] at rus
        obtain ⟨w, _, rfl, r1, rfl⟩ := rus
        exact ⟨a, vs, w, rfl, rfl, ha, by rw [rl.len]; exact hz, put_done k hl hp (RO.mk_lst (rl.app (RvL.cons r1 RvL.nil))) (by simp only [Rv]) p⟩
      · exact p.elim
    · exact p.elim
  · exact p.elim
@[simp] def gExt : T → List T → AH → Res T
  | .obj i, [y], h => match h[i]?, lstIn y h with
    | some (some (.lst l)), some m => if l.length + m.length ≤ sizeLine then .ok .non (h.set i (some (.lst (l ++ m)))) else .bad
    | _, _ => .bad
  | _, _, _ => .bad
theorem sm_extend : SimM G "list" rExtend gExt := fun S x xs u us X Q e k ru rus p => by
  unfold gExt at p
  split at p
  · split at p
    · rename_i l m hl hm
      split at p
      · rename_i hz
        obtain ⟨a, vs, rfl, hp, ha, rl⟩ := obj_lst k hl ru
        simp only [RvL] at rus
        obtain ⟨w, _, rfl, r1, rfl⟩ := rus
        obtain ⟨b, ws, rfl, hb, rm⟩ := lstIn_ok k hm r1
        exact ⟨a, b, vs, ws, rfl, rfl, ha, hb, by rw [rl.len, rm.len]; exact hz, put_done k hl hp (RO.mk_lst (rl.app rm)) (by simp only [Rv]) p⟩
      · exact p.elim
    · exact p.elim
  · exact p.elim
theorem RvL.dropLast {l : List T} {vs : List V} (r : RvL S l vs) : RvL S l.dropLast vs.dropLast := by
  rw [List.dropLast_eq_take, List.dropLast_eq_take, r.len]
  exact r.take _
@[simp] def gPop : T → List T → AH → Res T
  | .obj i, [], h => match h[i]? with
    | some (some (.lst l)) => match l[l.length - 1]? with
      | some t => .ok t (h.set i (some (.lst l.dropLast)))
      | none => .bad
    | _ => .bad
  | _, _, _ => .bad
theorem sm_pop : SimM G "list" rPop gPop := fun S x xs u us X Q e k ru rus p => by
  unfold gPop at p
  split at p
  · split at p
    · rename_i l hl
      split at p
      · rename_i t ht
        obtain ⟨a, vs, rfl, hp, ha, rl⟩ := obj_lst k hl ru
        simp only [RvL] at rus
        subst rus
        obtain ⟨w, hw, rw'⟩ := rl.get ht
        exact ⟨a, vs, w, rfl, rfl, ha, by rw [rl.len]; exact hw, put_done k hl hp (RO.mk_lst rl.dropLast) rw' p⟩
      · exact p.elim
    · exact p.elim
  · exact p.elim
@[simp] def gPopAt : T → List T → AH → Res T
  | .obj i, [.int j], h => match h[i]? with
    | some (some (.lst l)) => if -(2 ^ 63) ≤ j ∧ j < 2 ^ 63 then match seqIndex? j l.length with
      | some n => match l[n]? with
        | some t => .ok t (h.set i (some (.lst (l.eraseIdx n))))
        | none => .bad
      | none => .bad
      else .bad
    | _ => .bad
  | _, _, _ => .bad
theorem sm_popAt : SimM G "list" rPopAt gPopAt := fun S x xs u us X Q e k ru rus p => by
  unfold gPopAt at p
  split at p
  · split at p
    · rename_i l hl
      split at p
      · rename_i hz
        split at p
        · rename_i n hn
          split at p
          · rename_i t ht
            obtain ⟨a, vs, rfl, hp, ha, rl⟩ := obj_lst k hl ru
            simp only [RvL] at rus
            obtain ⟨w, _, rfl, r1, rfl⟩ := rus
            simp only [Rv] at r1
            subst r1
            obtain ⟨w, hw, rw'⟩ := rl.get ht
            exact ⟨a, vs, _, n, w, rfl, rfl, ha, hz.1, hz.2, by rw [rl.len]; exact hn, hw, put_done k hl hp (RO.mk_lst (rl.erase n)) rw' p⟩
          · exact p.elim
        · exact p.elim
      · exact p.elim
    · exact p.elim
  · exact p.elim
@[simp] def gRev : T → List T → AH → Res T
  | .obj i, [], h => match h[i]? with
    | some (some (.lst l)) => .ok .non (h.set i (some (.lst l.reverse)))
    | _ => .bad
  | _, _, _ => .bad
theorem sm_reverse : SimM G "list" rReverse gRev := fun S x xs u us X Q e k ru rus p => by
  unfold gRev at p
  split at p
  · split at p
    · rename_i l hl
      obtain ⟨a, vs, rfl, hp, ha, rl⟩ := obj_lst k hl ru
      simp only [RvL] at rus
      subst rus
      exact ⟨a, vs, rfl, rfl, ha, put_done k hl hp (RO.mk_lst rl.rev) (by simp only [Rv]) p⟩
    · exact p.elim
  · exact p.elim
/-- o[i] = e of a list -/
@[simp] def sSetIx (fe fo fi : FE) : FS := fun τ h => liftE (fe τ h) τ fun t h1 => liftE (fo τ h1) τ fun x h2 => liftE (fi τ h2) τ fun y h3 => match x, y with
  | .obj i, .int j => match h3[i]? with
    | some (some (.lst l)) => match ixN l.length j with
      | some n => .ok (.nx τ) (h3.set i (some (.lst (l.set n t))))
      | none => .bad
    | _ => .bad
  | _, _ => .bad
theorem sim_setIx {te to ti : TE} {fe fo fi : FE} (he : SimE G (WE W) te fe) (ho : SimE G (WE W) to fo) (hi : SimE G (WE W) ti fi) : SimS G W (tAsg te (gSub to ti rSetL)) (sSetIx fe fo fi) := fun S σ τ D e k rs p => by
  refine he S σ τ _ e k rs (PostG.imp (fun t S1 q u ru => ?_) (PG.lift rs p))
  obtain ⟨k1, s1, q⟩ := q
  refine ho S1 σ τ _ (s1.G.trans e) k1 (rs.mono s1) (PostG.imp (fun x S2 q v rv => ?_) (PG.lift (rs.mono s1) q))
  obtain ⟨k2, s2, q⟩ := q
  refine hi S2 σ τ _ (s2.G.trans (s1.G.trans e)) k2 (rs.mono (s1.trans s2)) (PostG.imp (fun y S3 q w rw' => ?_) (PG.lift (rs.mono (s1.trans s2)) q))
  obtain ⟨k3, s3, q⟩ := q
  split at q
  · split at q
    · rename_i l hl
      split at q
      · rename_i n hn
        obtain ⟨a, vs, rfl, hp, ha, rl⟩ := obj_lst k3 hl (rv.mono s3)
        simp only [Rv] at rw'
        have st := step_put (o' := .lst (l.set n t)) (u := .lst (vs.set n u)) k3 hl hp
        refine ⟨a, vs, _, n, rfl, rw', ha, by rw [rl.len]; exact hn, ?_⟩
        exact q (S3.put _ _ _) rfl (ok_put k3 hl hp ⟨_, rfl, rl.set (ru.mono (s2.trans s3)) n⟩) st σ (rs.mono ((s1.trans (s2.trans s3)).trans st))
      · exact q.elim
    · exact q.elim
  · exact q.elim
/-! truth -/
@[simp] def truT : T → AH → Option Bool
  | .non, _ => some false
  | .bl b, _ => some b
  | .int i, _ => some (i != 0)
  | .str y, _ => if y.length ≤ sizeLine then some ((y.length : Int) != 0) else none
  | .tup l, _ => some (!l.isEmpty)
  | .ktp l, _ => some (!l.isEmpty)
  | .lst l, _ => some (!l.isEmpty)
  | .rdl l, _ => some (!l.isEmpty)
  | .obj i, h => match h[i]? with
    | some (some (.lst l)) => some (!l.isEmpty)
    | some (some (.dct m)) => some (!m.isEmpty)
    | _ => none
  | _, _ => none
theorem RvL.emp {l : List T} {vs : List V} (r : RvL S l vs) : (!l.isEmpty) = !vs.isEmpty := by
  have := r.len
  cases l <;> cases vs <;> simp_all
theorem RvK.len {κ : Type} : ∀ {m : List (κ × T)} {vs : List (κ × V)}, RvK S m vs → vs.length = m.length
  | [], _, h => by rw [show _ = [] from h]; rfl
  | (k, t) :: r, _, ⟨v, m', e, h1, h2⟩ => by rw [e]; simp [RvK.len h2]
theorem RvK.emp {κ : Type} {m : List (κ × T)} {vs : List (κ × V)} (r : RvK S m vs) : (!m.isEmpty) = !vs.isEmpty := by
  have := r.len
  cases m <;> cases vs <;> simp_all
theorem truT_ok {x : T} {u : V} {b : Bool} (k : Ok S) (r : Rv S x u) (h : truT x S.h = some b) : TruV S.G.K u S.H b := by
  unfold truT at h
  split at h
  · cases h; simp only [Rv] at r; subst r; rfl
  · cases h; simp only [Rv] at r; subst r; rfl
  · cases h; simp only [Rv] at r; subst r; rfl
  · split at h
    · rename_i hz
      cases h; simp only [Rv] at r; subst r; exact ⟨hz, rfl⟩
    · cases h
  · cases h; simp only [Rv] at r; obtain ⟨p, vs, rfl, f, rl⟩ := r; exact .inr (.inl ⟨vs, sqt_of f, rl.emp⟩)
  · cases h; simp only [Rv] at r; obtain ⟨p, vs, rfl, f, rl⟩ := r; exact .inr (.inl ⟨vs, .inr f, rl.emp⟩)
  · cases h; simp only [Rv] at r; obtain ⟨p, vs, rfl, f, rl⟩ := r; exact .inl ⟨vs, sql_of f, rl.emp⟩
  · cases h; simp only [Rv] at r; obtain ⟨p, vs, rfl, f, rl⟩ := r; exact .inl ⟨vs, sql_rd f, rl.emp⟩
  · split at h
    · rename_i l hl
      cases h
      obtain ⟨p, vs, rfl, _, hp, rl⟩ := obj_lst k hl r
      exact .inl ⟨vs, .inl (.inl hp), rl.emp⟩
    · rename_i m hm
      cases h
      obtain ⟨p, ho, rfl, _, hp, vs, rfl, rk⟩ := obj_at k hm r
      exact .inr (.inr ⟨vs, hp, rk.emp⟩)
    · cases h
  · cases h
@[simp] def mTru (fa : FE) : FT := fun τ h => (fa τ h).bind fun x h1 => pur (truT x h1) h1
theorem sim_tru {ta : TE} {fa : FE} (ha : SimE G E ta fa) : SimT G E (fun σ H Q => ta σ H fun x H' => ∃ k, TruV G.K x H' k ∧ Q k H') (mTru fa) := fun S σ τ Q e k rs p => by
  refine ha S σ τ _ e k rs (PostG.imp (fun x S1 q u ru => ?_) (PostG.bind p))
  obtain ⟨k1, s1, q⟩ := q
  unfold pur at q
  split at q
  · rename_i b hb
    have := truT_ok k1 ru hb
    rw [s1.G.trans e] at this
    exact ⟨b, this, q S1 rfl k1 (Step.refl S1)⟩
  · exact q.elim
/-! dicts -/
section
variable {κ : Type} [DecidableEq κ]
def getT (m : List (κ × T)) (k : κ) : Option T := (m.find? fun kv => decide (kv.1 = k)).map (·.2)
def putT (m : List (κ × T)) (k : κ) (v : T) : List (κ × T) := if (m.any fun kv => decide (kv.1 = k)) = true then m.map (fun kv => if kv.1 = k then (kv.1, v) else kv) else m ++ [(k, v)]
def dropT (m : List (κ × T)) (k : κ) : List (κ × T) := m.filter fun kv => decide (kv.1 ≠ k)
def OptRv (S : Sta) : Option T → Option V → Prop
  | some t, some v => Rv S t v
  | none, none => True
  | _, _ => False
theorem RvK.get {m : List (κ × T)} {vs : List (κ × V)} (r : RvK S m vs) (k : κ) : OptRv S (getT m k) (valV vs k) := by
  induction m generalizing vs with
  | nil => rw [show vs = [] from r]; exact trivial
  | cons p m ih =>
    obtain ⟨k', t⟩ := p
    obtain ⟨v, m', rfl, h1, h2⟩ := r
    have := ih h2
    unfold getT valV at this ⊢
    by_cases e : k' = k
    · simp [List.find?_cons, e]; exact h1
    · simp [List.find?_cons, e]; simpa using this
theorem RvK.any {m : List (κ × T)} {vs : List (κ × V)} (r : RvK S m vs) (k : κ) : (m.any fun kv => decide (kv.1 = k)) = vs.any fun kv => decide (kv.1 = k) := by
  induction m generalizing vs with
  | nil => rw [show vs = [] from r]; rfl
  | cons p m ih =>
    obtain ⟨k', t⟩ := p
    obtain ⟨v, m', rfl, h1, h2⟩ := r
    rw [List.any_cons, List.any_cons, ih h2]
theorem RvK.app {m m2 : List (κ × T)} {vs vs2 : List (κ × V)} (r : RvK S m vs) (r2 : RvK S m2 vs2) : RvK S (m ++ m2) (vs ++ vs2) := by
  induction m generalizing vs with
  | nil => rw [show vs = [] from r]; exact r2
  | cons p m ih =>
    obtain ⟨k', t⟩ := p
    obtain ⟨v, m', rfl, h1, h2⟩ := r
    exact ⟨v, _, rfl, h1, ih h2⟩
theorem RvK.swap {m : List (κ × T)} {vs : List (κ × V)} {t : T} {v : V} (r : RvK S m vs) (k : κ) (rv : Rv S t v) : RvK S (m.map fun kv => if kv.1 = k then (kv.1, t) else kv) (vs.map fun kv => if kv.1 = k then (kv.1, v) else kv) := by
  induction m generalizing vs with
  | nil => rw [show vs = [] from r]; rfl
  | cons p m ih =>
    obtain ⟨k', t'⟩ := p
    obtain ⟨v', m', rfl, h1, h2⟩ := r
    by_cases e : k' = k
    · simp only [List.map_cons, e, if_true]
      exact ⟨v, _, rfl, rv, ih h2⟩
    · simp only [List.map_cons, e, if_false]
      exact ⟨v', _, rfl, h1, ih h2⟩
theorem RvK.put {m : List (κ × T)} {vs : List (κ × V)} {t : T} {v : V} (r : RvK S m vs) (k : κ) (rv : Rv S t v) : RvK S (putT m k t) (putK vs k v) := by
  unfold putT putK
  rw [r.any k]
  split
  · exact r.swap k rv
  · exact r.app (m2 := [(k, t)]) (vs2 := [(k, v)]) ⟨v, [], rfl, rv, rfl⟩
theorem RvK.drop {m : List (κ × T)} {vs : List (κ × V)} (r : RvK S m vs) (k : κ) : RvK S (dropT m k) (dropK vs k) := by
  induction m generalizing vs with
  | nil => rw [show vs = [] from r]; rfl
  | cons p m ih =>
    obtain ⟨k', t'⟩ := p
    obtain ⟨v', m', rfl, h1, h2⟩ := r
    unfold dropT dropK at ih ⊢
    by_cases e : k' = k
    · simp only [List.filter_cons, e, ne_eq, not_true, decide_false]
      exact ih h2
    · simp only [List.filter_cons, e, ne_eq, not_false_eq_true, decide_true]
      exact ⟨v', _, rfl, h1, ih h2⟩
end
@[simp] def keyOf : T → Option Key | .int i => some (.inl i) | .str x => some (.inr x) | _ => none
@[simp] def keysL : List T → Option (List Key)
  | [] => some []
  | t :: ts => (keyOf t).bind fun k => (keysL ts).map fun ks => k :: ks
@[simp] def keysOf : T → Option (List Key) | .tup l => keysL l | _ => none
theorem keyOf_ok {y : T} {v : V} {k : Key} (r : Rv S y v) (h : keyOf y = some k) : v = kV k := by
  cases y <;> simp only [keyOf] at h <;> first | (cases h; done) | (cases h; simp only [Rv] at r; exact r)
theorem keysL_ok : ∀ {l : List T} {vs : List V} {ks : List Key}, RvL S l vs → keysL l = some ks → vs = ks.map kV
  | [], vs, ks, r, h => by simp only [RvL] at r; simp only [keysL] at h; cases h; exact r
  | t :: ts, vs, ks, r, h => by
    simp only [RvL] at r
    obtain ⟨v, q, rfl, r1, r2⟩ := r
    simp only [keysL] at h
    obtain ⟨k, h1, h⟩ := Option.bind_eq_some_iff.mp h
    obtain ⟨ks', h2, rfl⟩ := Option.map_eq_some_iff.mp h
    rw [keyOf_ok r1 h1, keysL_ok r2 h2]; rfl
theorem keysOf_ok {y : T} {v : V} {ks : List Key} (r : Rv S y v) (h : keysOf y = some ks) : ∃ b, v = .ref b ∧ S.H b = some (.tup (ks.map kV)) := by
  cases y <;> simp only [keysOf] at h <;> first | (cases h; done) | skip
  simp only [Rv] at r
  obtain ⟨p, vs, rfl, f, rl⟩ := r
  exact ⟨p, rfl, by rw [← keysL_ok rl h]; exact f.1⟩
@[simp] def dctK : T → AH → Option (List (Key × T))
  | .obj i, h => match h[i]? with | some (some (.dct m)) => some m | _ => none
  | .dct ks l, _ => some (ks.zip l)
  | _, _ => none
@[simp] def dctTT : T → AH → Option (List (List Key × T))
  | .obj i, h => match h[i]? with | some (some (.dctT m)) => some m | _ => none
  | .dctT ks l, _ => some (ks.zip l)
  | _, _ => none
theorem RvK.zip {κ : Type} : ∀ {ks : List κ} {l : List T} {vs : List V}, ks.length = l.length → RvL S l vs → RvK S (ks.zip l) (ks.zip vs)
  | [], [], vs, _, r => by simp only [RvL] at r; subst r; rfl
  | k :: ks, t :: ts, vs, h, r => by
    simp only [RvL] at r
    obtain ⟨v, q, rfl, r1, r2⟩ := r
    exact ⟨v, _, rfl, r1, RvK.zip (by simpa using h) r2⟩
  | [], _ :: _, _, h, _ => by simp at h
  | _ :: _, [], _, h, _ => by simp at h
theorem dctK_ok {x : T} {u : V} {m : List (Key × T)} (k : Ok S) (r : Rv S x u) (h : dctK x S.h = some m) : ∃ a vs, u = .ref a ∧ S.H a = some (.dK vs) ∧ RvK S m vs := by
  unfold dctK at h
  split at h
  · split at h
    · rename_i m' hm
      cases h
      obtain ⟨p, ho, rfl, _, hp, vs, rfl, rk⟩ := obj_at k hm r
      exact ⟨p, vs, rfl, hp, rk⟩
    · cases h
  · cases h
    simp only [Rv] at r
    obtain ⟨p, vs, rfl, f, n, rl⟩ := r
    exact ⟨p, _, rfl, f.1, RvK.zip n rl⟩
  · cases h
theorem dctTT_ok {x : T} {u : V} {m : List (List Key × T)} (k : Ok S) (r : Rv S x u) (h : dctTT x S.h = some m) : ∃ a vs, u = .ref a ∧ S.H a = some (.dT vs) ∧ RvK S m vs := by
  unfold dctTT at h
  split at h
  · split at h
    · rename_i m' hm
      cases h
      obtain ⟨p, ho, rfl, _, hp, vs, rfl, rk⟩ := obj_at k hm r
      exact ⟨p, vs, rfl, hp, rk⟩
    · cases h
  · cases h
    simp only [Rv] at r
    obtain ⟨p, vs, rfl, f, n, rl⟩ := r
    exact ⟨p, _, rfl, f.1, RvK.zip n rl⟩
  · cases h
/-- what the dict x holds at y -/
@[simp] def lookD (x y : T) (h : AH) : Option (Option T) := match dctK x h, keyOf y with
  | some m, some k => some (getT m k)
  | _, _ => match dctTT x h, keysOf y with
    | some m, some ks => some (getT m ks)
    | _, _ => none
theorem lookD_ok {x y : T} {u v : V} {o : Option T} (k : Ok S) (ru : Rv S x u) (rv : Rv S y v) (h : lookD x y S.h = some o) : ∃ a o', u = .ref a ∧ DGet S.H a v o' ∧ OptRv S o o' := by
  unfold lookD at h
  split at h
  · rename_i m ky hm hk
    cases h
    obtain ⟨a, vs, rfl, ha, rk⟩ := dctK_ok k ru hm
    exact ⟨a, _, rfl, by rw [keyOf_ok rv hk]; exact DGet.k ha, rk.get ky⟩
  · split at h
    · rename_i m ky hm hk
      cases h
      obtain ⟨a, vs, rfl, ha, rk⟩ := dctTT_ok k ru hm
      obtain ⟨b, rfl, hb⟩ := keysOf_ok rv hk
      exact ⟨a, _, rfl, DGet.t ha hb, rk.get ky⟩
    · cases h
section
variable {td ty tx : TE} {fd fy fx : FE}
@[simp] def mDGet (fd fy : FE) : FE := fun τ h => (fd τ h).bind fun x h1 => (fy τ h1).bind fun y h2 => match lookD x y h2 with | some (some t) => .ok t h2 | _ => .bad
theorem sim_dget (ha : SimE G E td fd) (hb : SimE G E ty fy) : SimE G E (tDGet td ty) (mDGet fd fy) := fun S σ τ Q e k rs p => by
  refine ha S σ τ _ e k rs (PostG.imp (fun x S1 q u ru => ?_) (PostG.bind p))
  obtain ⟨k1, s1, q⟩ := q
  refine hb S1 σ τ _ (s1.G.trans e) k1 (rs.mono s1) (PostG.imp (fun y S2 q v rv => ?_) (PostG.bind q))
  obtain ⟨k2, s2, q⟩ := q
  split at q
  · rename_i t ht
    obtain ⟨a, o', rfl, hd, ho⟩ := lookD_ok k2 (ru.mono s2) rv ht
    cases o' with
    | none => exact ho.elim
    | some w => exact ⟨a, w, rfl, hd, q S2 rfl k2 (Step.refl S2) w ho⟩
  · exact q.elim
@[simp] def mDIn (neg : Bool) (fy fd : FE) : FE := fun τ h => (fy τ h).bind fun y h1 => (fd τ h1).bind fun x h2 => match lookD x y h2 with | some o => .ok (.bl (if neg then !o.isSome else o.isSome)) h2 | _ => .bad
theorem optRv_some {o : Option T} {o' : Option V} (h : OptRv S o o') : o'.isSome = o.isSome := by
  cases o <;> cases o' <;> first | rfl | exact h.elim
theorem sim_din (ha : SimE G E ty fy) (hb : SimE G E td fd) : SimE G E (tDIn ty td) (mDIn false fy fd) := fun S σ τ Q e k rs p => by
  refine ha S σ τ _ e k rs (PostG.imp (fun y S1 q v rv => ?_) (PostG.bind p))
  obtain ⟨k1, s1, q⟩ := q
  refine hb S1 σ τ _ (s1.G.trans e) k1 (rs.mono s1) (PostG.imp (fun x S2 q u ru => ?_) (PostG.bind q))
  obtain ⟨k2, s2, q⟩ := q
  split at q
  · rename_i o ht
    obtain ⟨a, o', rfl, hd, ho⟩ := lookD_ok k2 ru (rv.mono s2) ht
    exact ⟨a, o', rfl, hd, q S2 rfl k2 (Step.refl S2) _ (by rw [optRv_some ho]; simp)⟩
  · exact q.elim
theorem sim_dnin (ha : SimE G E ty fy) (hb : SimE G E td fd) : SimE G E (tDNotIn ty td) (mDIn true fy fd) := fun S σ τ Q e k rs p => by
  refine ha S σ τ _ e k rs (PostG.imp (fun y S1 q v rv => ?_) (PostG.bind p))
  obtain ⟨k1, s1, q⟩ := q
  refine hb S1 σ τ _ (s1.G.trans e) k1 (rs.mono s1) (PostG.imp (fun x S2 q u ru => ?_) (PostG.bind q))
  obtain ⟨k2, s2, q⟩ := q
  split at q
  · rename_i o ht
    obtain ⟨a, o', rfl, hd, ho⟩ := lookD_ok k2 ru (rv.mono s2) ht
    exact ⟨a, o', rfl, hd, q S2 rfl k2 (Step.refl S2) _ (by rw [optRv_some ho]; simp)⟩
  · exact q.elim
@[simp] def isD (x : T) (h : AH) : Bool := (dctK x h).isSome || (dctTT x h).isSome
theorem isD_ok {x : T} {u : V} (k : Ok S) (r : Rv S x u) (h : isD x S.h = true) : ∃ a, u = .ref a ∧ IsD S.H a := by
  unfold isD at h
  rw [Bool.or_eq_true] at h
  rcases h with h | h
  · obtain ⟨m, hm⟩ := Option.isSome_iff_exists.mp h
    obtain ⟨a, vs, rfl, ha, _⟩ := dctK_ok k r hm
    exact ⟨a, rfl, .inl ⟨vs, .inl ha⟩⟩
  · obtain ⟨m, hm⟩ := Option.isSome_iff_exists.mp h
    obtain ⟨a, vs, rfl, ha, _⟩ := dctTT_ok k r hm
    exact ⟨a, rfl, .inr ⟨vs, .inl ha⟩⟩
@[simp] def mDGet2 (fd fy fx : FE) : FE := fun τ h => (fd τ h).bind fun x h1 => if isD x h1 = true then (fy τ h1).bind fun y h2 => (fx τ h2).bind fun z h3 => match lookD x y h3 with | some o => .ok (o.getD z) h3 | _ => .bad else .bad
theorem sim_dget2 (ha : SimE G E td fd) (hb : SimE G E ty fy) (hc : SimE G E tx fx) : SimE G E (tDGet2 td ty tx) (mDGet2 fd fy fx) := fun S σ τ Q e k rs p => by
  refine ha S σ τ _ e k rs (PostG.imp (fun x S1 q u ru => ?_) (PostG.bind p))
  obtain ⟨k1, s1, q⟩ := q
  split at q
  · rename_i hd
    obtain ⟨a, rfl, hD⟩ := isD_ok k1 ru hd
    refine ⟨a, rfl, hD, ?_⟩
    refine hb S1 σ τ _ (s1.G.trans e) k1 (rs.mono s1) (PostG.imp (fun y S2 q v rv => ?_) (PostG.bind q))
    obtain ⟨k2, s2, q⟩ := q
    refine hc S2 σ τ _ (s2.G.trans (s1.G.trans e)) k2 (rs.mono (s1.trans s2)) (PostG.imp (fun z S3 q w rw' => ?_) (PostG.bind q))
    obtain ⟨k3, s3, q⟩ := q
    split at q
    · rename_i o ht
      obtain ⟨a', o', ea, hd, ho⟩ := lookD_ok k3 (ru.mono (s2.trans s3)) (rv.mono s3) ht
      cases ea
      refine ⟨o', hd, q S3 rfl k3 (Step.refl S3) _ ?_⟩
      cases o <;> cases o' <;> first | exact ho.elim | exact rw' | exact ho
    · exact q.elim
  · exact q.elim
@[simp] def mDGet1 (fd fy : FE) : FE := fun τ h => (fd τ h).bind fun x h1 => if isD x h1 = true then (fy τ h1).bind fun y h2 => match lookD x y h2 with | some o => .ok (o.getD .non) h2 | _ => .bad else .bad
theorem sim_dget1 (ha : SimE G E td fd) (hb : SimE G E ty fy) : SimE G E (tDGet1 td ty) (mDGet1 fd fy) := fun S σ τ Q e k rs p => by
  refine ha S σ τ _ e k rs (PostG.imp (fun x S1 q u ru => ?_) (PostG.bind p))
  obtain ⟨k1, s1, q⟩ := q
  split at q
  · rename_i hd
    obtain ⟨a, rfl, hD⟩ := isD_ok k1 ru hd
    refine ⟨a, rfl, hD, ?_⟩
    refine hb S1 σ τ _ (s1.G.trans e) k1 (rs.mono s1) (PostG.imp (fun y S2 q v rv => ?_) (PostG.bind q))
    obtain ⟨k2, s2, q⟩ := q
    split at q
    · rename_i o ht
      obtain ⟨a', o', ea, hd, ho⟩ := lookD_ok k2 (ru.mono s2) rv ht
      cases ea
      refine ⟨o', hd, q S2 rfl k2 (Step.refl S2) _ ?_⟩
      cases o <;> cases o' <;> first | exact ho.elim | exact ho | (show Rv _ _ _; simp)
    · exact q.elim
  · exact q.elim
/-- d[y] = v -/
@[simp] def sDPutM (fd fy fv : FE) : FS := fun τ h => liftE (fv τ h) τ fun t h1 => liftE (fd τ h1) τ fun x h2 => liftE (fy τ h2) τ fun y h3 => match x with
  | .obj i => match h3[i]? with
    | some (some (.dct m)) => match keyOf y with
      | some k => if m.length < sizeLine then .ok (.nx τ) (h3.set i (some (.dct (putT m k t)))) else .bad
      | none => .bad
    | some (some (.dctT m)) => match keysOf y with
      | some k => if m.length < sizeLine then .ok (.nx τ) (h3.set i (some (.dctT (putT m k t)))) else .bad
      | none => .bad
    | _ => .bad
  | _ => .bad
theorem sim_dput {tv : TE} {fv : FE} (hv : SimE G (WE W) tv fv) (ha : SimE G (WE W) td fd) (hb : SimE G (WE W) ty fy) : SimS G W (sDPut td ty tv) (sDPutM fd fy fv) := fun S σ τ D e k rs p => by
  refine hv S σ τ _ e k rs (PostG.imp (fun t S1 q w rt => ?_) (PG.lift rs p))
  obtain ⟨k1, s1, q⟩ := q
  refine ha S1 σ τ _ (s1.G.trans e) k1 (rs.mono s1) (PostG.imp (fun x S2 q u ru => ?_) (PG.lift (rs.mono s1) q))
  obtain ⟨k2, s2, q⟩ := q
  refine hb S2 σ τ _ (s2.G.trans (s1.G.trans e)) k2 (rs.mono (s1.trans s2)) (PostG.imp (fun y S3 q v rv => ?_) (PG.lift (rs.mono (s1.trans s2)) q))
  obtain ⟨k3, s3, q⟩ := q
  have rs3 := rs.mono (s1.trans (s2.trans s3))
  split at q
  · split at q
    · rename_i m hm
      split at q
      · rename_i ky hk
        split at q
        · rename_i hz
          obtain ⟨a, ho, rfl, hp, ha, vs, rfl, rk⟩ := obj_at k3 hm (ru.mono s3)
          have st := step_put (o' := .dct (putT m ky t)) (u := .dK (putK vs ky w)) k3 hm hp
          refine ⟨a, _, rfl, by rw [keyOf_ok rv hk]; exact DPut.k ha (by rw [rk.len]; exact hz), ?_⟩
          exact q (S3.put _ _ _) rfl (ok_put k3 hm hp ⟨_, rfl, rk.put ky (rt.mono (s2.trans s3))⟩) st σ (rs3.mono st)
        · exact q.elim
      · exact q.elim
    · rename_i m hm
      split at q
      · rename_i ky hk
        split at q
        · rename_i hz
          obtain ⟨a, ho, rfl, hp, ha, vs, rfl, rk⟩ := obj_at k3 hm (ru.mono s3)
          obtain ⟨b, rfl, hb⟩ := keysOf_ok rv hk
          have st := step_put (o' := .dctT (putT m ky t)) (u := .dT (putK vs ky w)) k3 hm hp
          refine ⟨a, _, rfl, DPut.t ha hb (by rw [rk.len]; exact hz), ?_⟩
          exact q (S3.put _ _ _) rfl (ok_put k3 hm hp ⟨_, rfl, rk.put ky (rt.mono (s2.trans s3))⟩) st σ (rs3.mono st)
        · exact q.elim
      · exact q.elim
    · exact q.elim
  · exact q.elim
@[simp] def mDNew : FE := fun _ h => .ok (.obj h.length) (h ++ [some (.dct [])])
theorem sim_dnew : SimE G E tDNewK mDNew := fun S σ τ Q e k rs p => new_obj k p fun S' st => ⟨[], rfl, rfl⟩
@[simp] def mDNewT : FE := fun _ h => .ok (.obj h.length) (h ++ [some (.dctT [])])
theorem sim_dnewT : SimE G E tDNewT mDNewT := fun S σ τ Q e k rs p => new_obj k p fun S' st => ⟨[], rfl, rfl⟩
@[simp] abbrev bLenD := one fun x h => (dctK x h).map fun m => .int m.length
theorem sb_lenD : SimRC G (fun xs H Q => ∃ a kvs, xs = [V.ref a] ∧ H a = some (.dK kvs) ∧ Q (.int kvs.length) H) bLenD := simC1 fun S x t u Q e k ru hg q => by
  obtain ⟨m, hm, rfl⟩ := Option.map_eq_some_iff.mp hg
  obtain ⟨a, vs, rfl, ha, rk⟩ := dctK_ok k ru hm
  exact ⟨a, vs, rfl, ha, q _ (by rw [rk.len]; simp)⟩
end
/-! the module's dicts with text keys -/
/-- the written dict at d has just these rows (of those that are asked for): a text, and what stands there, if something does -/
def KRows (G : Env) (d : Addr) (rows : List (Str × Option T)) : Prop := ∀ r ∈ rows, match r.2 with
  | some t => ∃ u0 v0, PySem.W.nsIn G.K d r.1 = some (some u0) ∧ RelV v0 u0 ∧ ∀ S, S.G = G → Rv S t v0
  | none => PySem.W.nsIn G.K d r.1 = some none
@[simp] def gKd (n : Str) (rows : List (Str × Option T)) (x y : T) : Option (Option T) := match x, y with | .ref m, .str z => if m = n then rows.lookup z else none | _, _ => none
theorem lookup_mem {α β : Type} [BEq α] [LawfulBEq α] {a : α} {b : β} : ∀ {l : List (α × β)}, l.lookup a = some b → (a, b) ∈ l
  | [], h => by simp at h
  | (c, d) :: l, h => by
    rw [List.lookup_cons] at h
    split at h
    · rename_i e
      cases h
      rw [eq_of_beq e]; exact List.mem_cons_self
    · exact List.mem_cons_of_mem _ (lookup_mem h)
@[simp] abbrev oKd (n : Str) (rows : List (Str × Option T)) := P2 fun x y => (gKd n rows x y).bind id
@[simp] abbrev oKin (neg : Bool) (n : Str) (rows : List (Str × Option T)) : T → T → AH → Res T := P2 fun y x => (gKd n rows x y).map fun o => .bl (if neg then !o.isSome else o.isSome)
theorem gKd_ok {n : Str} {d : Addr} {rows : List (Str × Option T)} {x y : T} {u v : V} {o : Option T} (hd : G.fa n = .ref d) (e : S.G = G) (ru : Rv S x u) (rv : Rv S y v) (h : gKd n rows x y = some o) : ∃ z, u = .ref d ∧ v = .str z ∧ (z, o) ∈ rows := by
  unfold gKd at h
  split at h
  · split at h
    · rename_i em
      subst em
      simp only [Rv] at ru rv
      rw [e, hd] at ru
      exact ⟨_, ru, rv, lookup_mem h⟩
    · cases h
  · cases h
theorem so_kd {n : Str} {d : Addr} {rows : List (Str × Option T)} (hd : G.fa n = .ref d) (hr : KRows G d rows) : SimR2 G (fun x y H Q => ∃ (z : Str) (u0 : Value) (v0 : V), x = .ref d ∧ y = .str z ∧ PySem.W.nsIn G.K d z = some (some u0) ∧ RelV v0 u0 ∧ Q v0 H) (oKd n rows) := simP2 fun S x y t u v Q e k ru rv hg q => by
  obtain ⟨o, ho, h2⟩ := Option.bind_eq_some_iff.mp hg
  cases o with
  | none => cases h2
  | some t' =>
    cases h2
    obtain ⟨z, rfl, rfl, hm⟩ := gKd_ok hd e ru rv ho
    obtain ⟨u0, v0, h1, h2, h3⟩ := hr _ hm
    exact ⟨z, u0, v0, rfl, rfl, h1, h2, q v0 (h3 S e)⟩
theorem so_kin {n : Str} {d : Addr} {rows : List (Str × Option T)} (hd : G.fa n = .ref d) (hr : KRows G d rows) : SimR2 G (fun x y H Q => ∃ (z : Str) (r : Option Value), x = .str z ∧ y = .ref d ∧ PySem.W.nsIn G.K d z = some r ∧ Q (.bl r.isSome) H) (oKin false n rows) := simP2 fun S x y t u v Q e k ru rv hg q => by
  obtain ⟨o, ho, rfl⟩ := Option.map_eq_some_iff.mp hg
  obtain ⟨z, rfl, rfl, hm⟩ := gKd_ok hd e rv ru ho
  have := hr _ hm
  cases o with
  | none => exact ⟨z, none, rfl, rfl, this, q _ (by simp)⟩
  | some t' =>
    obtain ⟨u0, v0, h1, h2, h3⟩ := this
    exact ⟨z, some u0, rfl, rfl, h1, q _ (by simp)⟩
theorem so_knin {n : Str} {d : Addr} {rows : List (Str × Option T)} (hd : G.fa n = .ref d) (hr : KRows G d rows) : SimR2 G (fun x y H Q => ∃ (z : Str) (r : Option Value), x = .str z ∧ y = .ref d ∧ PySem.W.nsIn G.K d z = some r ∧ Q (.bl (!r.isSome)) H) (oKin true n rows) := simP2 fun S x y t u v Q e k ru rv hg q => by
  obtain ⟨o, ho, rfl⟩ := Option.map_eq_some_iff.mp hg
  obtain ⟨z, rfl, rfl, hm⟩ := gKd_ok hd e rv ru ho
  have := hr _ hm
  cases o with
  | none => exact ⟨z, none, rfl, rfl, this, q _ (by simp)⟩
  | some t' =>
    obtain ⟨u0, v0, h1, h2, h3⟩ := this
    exact ⟨z, some u0, rfl, rfl, h1, q _ (by simp)⟩
end M
/-! ### comprehensions, instances, letting go, cleaning, isinstance -/
namespace M
open PySem PySem.Spec PyProof.Rows L2
variable {G : Env} {E : L2.St → XK} {S : Sta} {W : WX}

/-! comprehensions -/
def wipeT (τ : LS) : List Nat → LS
  | [] => τ
  | v :: vs => (wipeT τ vs).set v none
theorem RS.wipe {τ : LS} {σ : L2.St} (r : RS S τ σ) : ∀ vs : List Nat, (∀ v ∈ vs, NoSl S.G v) → RS S (wipeT τ vs) (wipe σ vs)
  | [], _ => r
  | v :: vs, h => RS.unset v (h v List.mem_cons_self) (RS.wipe r vs fun w hw => h w (List.mem_cons_of_mem _ hw))
theorem wipe_get (σ : L2.St) (j : Nat) : ∀ vs : List Nat, (wipe σ vs)[j]? = if j ∈ vs ∧ j < σ.length then some none else σ[j]?
  | [] => by simp [wipe]
  | v :: vs => by
    show ((wipe σ vs).set v none)[j]? = _
    rw [List.getElem?_set, wipe_length, wipe_get σ j vs]
    by_cases e : v = j
    · subst e
      by_cases h : v < σ.length
      · simp [h]
      · have : σ[v]? = none := List.getElem?_eq_none_iff.mpr (by omega)
        simp [h]
    · have e' : ¬ j = v := fun z => e z.symm
      simp [e, e']
theorem wipe_set {σ : L2.St} {i : Nat} {x : Option V} {vs : List Nat} (h : i ∈ vs) : wipe (σ.set i x) vs = wipe σ vs := by
  apply List.ext_getElem?
  intro j
  rw [wipe_get, wipe_get, List.length_set, List.getElem?_set]
  by_cases e : i = j
  · subst e
    by_cases hl : i < σ.length
    · simp [h, hl]
    · have : σ[i]? = none := List.getElem?_eq_none_iff.mpr (by omega)
      simp [hl]
  · simp [e]
theorem wipe_wipe {σ : L2.St} {vs : List Nat} : wipe (wipe σ vs) vs = wipe σ vs := by
  apply List.ext_getElem?
  intro j
  rw [wipe_get, wipe_get, wipe_length]
  split
  · rfl
  · rfl
def SimGw (G : Env) (vs : List Nat) (g : TG) (a : FG) : Prop := ∀ (S : Sta) (x : T) (v : V) (τ τ' : LS) (σ : L2.St) (Q : L2.St → Hp → Prop), S.G = G → Ok S → Rv S x v → RS S τ σ → a x τ = some τ' → (∀ σ', RS S τ' σ' → wipe σ' vs = wipe σ vs → Q σ' S.H) → g v σ S.H Q
def SimGsw (G : Env) (vs : List Nat) (g : TGs) (a : FGs) : Prop := ∀ (S : Sta) (x : List T) (v : List V) (τ τ' : LS) (σ : L2.St) (Q : L2.St → Hp → Prop), S.G = G → Ok S → RvL S x v → RS S τ σ → a x τ = some τ' → (∀ σ', RS S τ' σ' → wipe σ' vs = wipe σ vs → Q σ' S.H) → g v σ S.H Q
theorem sim_wName {vs : List Nat} {i : Nat} (h : i ∈ vs) (hn : NoSl G i := by first | exact noSl_none rfl | exact noSl_ne (by decide) | assumption) : SimGw G vs (gName i) (aName i) := fun S x v τ τ' σ Q e k rv rs h' q => by
  unfold aName at h'; cases h'
  exact q _ (RS.set rv i (by rw [e]; exact hn) rs) (wipe_set h)
theorem sim_wNil {vs : List Nat} : SimGsw G vs gNil aNil := fun S x v τ τ' σ Q e k rv rs h q => by
  unfold aNil at h
  split at h
  · cases h
    simp only [RvL] at rv
    exact ⟨rv, q _ rs rfl⟩
  · cases h
theorem sim_wCons {vs : List Nat} {g : TG} {u : TGs} {a : FG} {r : FGs} (hg : SimGw G vs g a) (hu : SimGsw G vs u r) : SimGsw G vs (gCons g u) (aCons a r) := fun S x v τ τ' σ Q e k rv rs h q => by
  unfold aCons at h
  split at h
  · obtain ⟨τ1, h1, h2⟩ := Option.bind_eq_some_iff.mp h
    simp only [RvL] at rv
    obtain ⟨w, m, rfl, r1, r2⟩ := rv
    exact ⟨w, m, rfl, hg S _ _ τ τ1 σ _ e k r1 rs h1 fun σ' rs' e1 => hu S _ _ τ1 τ' σ' Q e k r2 rs' h2 fun σ2 rs2 e2 => q σ2 rs2 (e2.trans e1)⟩
  · cases h
theorem sim_wTup {vs : List Nat} {n : Nat} {u : TGs} {r : FGs} (hu : SimGsw G vs u r) : SimGw G vs (gTup G.K n u) (aTup n r) := fun S x v τ τ' σ Q e k rv rs h q => by
  unfold aTup at h
  obtain ⟨l, hl, h⟩ := Option.bind_eq_some_iff.mp h
  split at h
  · rename_i hn
    obtain ⟨p, vs, rfl, hs, rl⟩ := tupOf_ok hl rv
    rw [e] at hs
    exact ⟨p, vs, rfl, hs, by rw [rl.len]; exact hn, hu S l vs τ τ' σ Q e k rl rs h q⟩
  · cases h
abbrev ET : L2.St → XK := fun _ _ _ _ => True
@[simp] def mYes : FT := fun _ h => .ok true h
theorem sim_yes : SimT G E tYes mYes := fun S σ τ Q e k rs p => p S rfl k (Step.refl S)
def mLcL (a : FG) (tt : FT) (fe : FE) (τ : LS) : Nat → List T → AH → Res (List T)
  | _, [], h => .ok [] h
  | n, x :: xs, h => match a x τ with
    | some τ' => (tt τ' h).bind fun b h1 => if b = true then
        (fe τ' h1).bind fun y h2 => if n < sizeLine then (mLcL a tt fe τ (n + 1) xs h2).bind fun ys h3 => .ok (y :: ys) h3 else .bad
      else mLcL a tt fe τ n xs h1
    | none => .bad
@[simp] def mLc (vs : List Nat) (fi : FA) (a : FG) (tt : FT) (fe : FE) : FE := fun τ h => (fi τ h).bind fun l h1 => (mLcL a tt fe (wipeT τ vs) 0 l h1).bind fun ys h2 => .ok (.lst ys) h2
@[simp] def mLcO (vs : List Nat) (fi : FA) (a : FG) (tt : FT) (fe : FE) : FE := fun τ h => (fi τ h).bind fun l h1 => (mLcL a tt fe (wipeT τ vs) 0 l h1).bind fun ys h2 => .ok (.obj h2.length) (h2 ++ [some (.lst ys)])
theorem RvL.snoc {l : List T} {vs : List V} {t : T} {v : V} (r : RvL S l vs) (a : Rv S t v) : RvL S (l ++ [t]) (vs ++ [v]) := r.app (RvL.cons a RvL.nil)
/-- what is to come, by the tracked heap alone -/
def Pnd {α : Type} (P : α → AH → Prop) : Res α → Prop
  | .bad => False
  | .ok a h => P a h
  | .exc _ _ => True
theorem Pnd.bind {α β : Type} {P : β → AH → Prop} {f : α → AH → Res β} : ∀ {x : Res α}, Pnd P (x.bind f) → Pnd (fun a h => Pnd P (f a h)) x
  | .bad, h => h
  | .ok _ _, h => h
  | .exc _ _, h => h
theorem Pnd.post {α : Type} {P : α → AH → Prop} : ∀ {r : Res α}, Pnd P r → PostG S (fun _ _ => True) (fun a S' => Ok S' ∧ Step S S' ∧ P a S'.h) r
  | .bad, h => h
  | .ok _ _, h => fun S' e k st => ⟨k, st, by rw [e]; exact h⟩
  | .exc _ _, _ => fun _ _ _ _ => trivial
theorem PostG.pnd {α β : Type} {X : Exc → Sta → Prop} {P : β → Sta → Prop} {f : α → AH → Res β} : ∀ {x : Res α}, PostG S X P (x.bind f) → Pnd (fun a h => PostG S (fun _ _ => True) P (f a h)) x
  | .bad, h => h
  | .ok _ _, h => PostG.exc (fun _ _ _ => trivial) h
  | .exc _ _, _ => trivial
theorem RS0.tr {S S' : Sta} (s : Tr S S') : ∀ {τ : LS} {σ : L2.St}, RS0 S τ σ → RS0 S' τ σ
  | [], _, h => h
  | _ :: _, _, ⟨v, r, e, h, q⟩ => ⟨v, r, e, fun t ht => let ⟨w, h1, h2⟩ := h t ht; ⟨w, h1, h2.tr s⟩, RS0.tr s q⟩
theorem RS.tr {S S' : Sta} (s : Tr S S') {τ : LS} {σ : L2.St} (h : RS S τ σ) : RS S' τ σ := ⟨h.r.tr s, h.x.tr s⟩
theorem lc_all {wi : TI} {fi : FA} {g : TG} {a : FG} {tt : TT} {ft : FT} {te : TE} {fe : FE} {vs : List Nat} (hi : SimI G E wi fi) (hg : SimGw G vs g a) (ht : SimT G ET tt ft) (he : SimE G ET te fe) (hv : ∀ v ∈ vs, NoSl G v)
    (S : Sta) (σ : L2.St) (τ : LS) (Q : VK) (e : S.G = G) (k : Ok S) (rs : RS S τ σ) (fin : List T → AH → Res T) (p : PostG S (XP (E σ)) (fun t S' => ∀ v, Rv S' t v → Q v S'.H) ((fi τ S.h).bind fun l h1 => (mLcL a ft fe (wipeT τ vs) 0 l h1).bind fin))
    (hfin : ∀ (S0 S : Sta) (ys : List T) (ws : List V) (D : Addr), S0.G = G → Ok S0 → Ok S → Priv S0 S D → S.H D = some (.lst ws) → RvL S ys ws → PostG S0 (fun _ _ => True) (fun t S' => ∀ v, Rv S' t v → Q v S'.H) (fin ys S.h) → Q (.ref D) S.H) : tLc wi g tt te vs σ S.H Q := by
  refine hi S σ τ _ e k rs (PostG.imp (fun l S1 q J hJ D hD => ?_) (PostG.bind p))
  obtain ⟨k1, s1, q⟩ := q
  have e1 := s1.G.trans e
  have rw1 := (rs.mono s1).wipe vs (by rw [s1.G, e]; exact hv)
  have q := PostG.pnd q
  refine ⟨fun i m H => ∃ S acc ws, S.H = H ∧ Ok S ∧ Priv S1 S D ∧ S.H D = some (.lst ws) ∧ RvL S acc ws ∧ m = l.length - i ∧ i ≤ l.length ∧
    Pnd (fun ys h => PostG S1 (fun _ _ => True) (fun t S' => ∀ v, Rv S' t v → Q v S'.H) (fin (acc ++ ys) h)) (mLcL a ft fe (wipeT τ vs) acc.length (l.drop i) S.h), ⟨l.length, S1.hide D (upd S1.H D (.lst [])), [], [], rfl, ok_hide k1 hD, Priv.start k1 hD, upd_same, RvL.nil, by simp, Nat.zero_le _, q⟩, ?_⟩
  rintro i m H ⟨S, acc, ws, rfl, k, x, hDS, rl, rfl, hi, p⟩
  have trS := x.tr
  obtain ⟨go, stop⟩ := hJ S trS k i
  have eS := trS.G.trans e1
  by_cases hl : i < l.length
  · right
    have hx : l[i]? = some l[i] := List.getElem?_eq_getElem hl
    obtain ⟨g1, g2⟩ := go _ hx
    refine ⟨g1, fun H' => ∃ S acc ws, S.H = H' ∧ Ok S ∧ Priv S1 S D ∧ S.H D = some (.lst ws) ∧ RvL S acc ws ∧
      Pnd (fun ys h => PostG S1 (fun _ _ => True) (fun t S' => ∀ v, Rv S' t v → Q v S'.H) (fin (acc ++ ys) h)) (mLcL a ft fe (wipeT τ vs) acc.length (l.drop (i + 1)) S.h), ?_, ?_⟩
    · rintro H' ⟨S2, acc2, ws2, e2, k2, x2, h2, r2, p2⟩
      exact ⟨l.length - (i + 1), by omega, S2, acc2, ws2, e2, k2, x2, h2, r2, rfl, hl, p2⟩
    · intro v H' hy
      obtain ⟨S2, rfl, hh, k2, st2, rv⟩ := g2 v H' hy
      have x2 := x.step k1 k k2 st2
      have hD2 : S2.H D = some (.lst ws) := (st2.pk D (by rw [x.pv]; exact List.mem_cons_self)).trans hDS
      rw [List.drop_eq_getElem_cons hl] at p
      unfold mLcL at p
      split at p
      · rename_i τ' hτ
        refine hg S2 _ v _ τ' (wipe σ vs) _ (st2.G.trans eS) k2 rv (RS.tr (x2.tr) rw1) hτ fun σ2 rs2 ew => ⟨by rw [ew, wipe_wipe], ?_⟩
        rw [← hh] at p
        refine ht S2 σ2 τ' _ (st2.G.trans eS) k2 rs2 (PostG.exc (fun _ _ _ _ _ _ => trivial) (PostG.imp (fun b S3 q => ?_) (Pnd.post (Pnd.bind p))))
        obtain ⟨k3, s3, q⟩ := q
        have x3 := x2.step k1 k2 k3 s3
        have hp3 : D ∈ S2.pv := by rw [x2.pv]; exact List.mem_cons_self
        have hD3 : S3.H D = some (.lst ws) := (s3.pk D hp3).trans hD2
        cases b with
        | false =>
          rw [if_neg Bool.false_ne_true] at q
          rw [if_neg Bool.false_ne_true]
          exact ⟨S3, acc, ws, rfl, k3, x3, hD3, rl.mono (st2.trans s3), q⟩
        | true =>
          rw [if_pos rfl] at q
          rw [if_pos rfl]
          have e3 := s3.G.trans (st2.G.trans eS)
          refine he S3 σ2 τ' _ e3 k3 (rs2.mono s3) (PostG.exc (fun _ _ _ _ _ _ => trivial) (PostG.imp (fun y S4 q w rw' => ?_) (Pnd.post (Pnd.bind q))))
          obtain ⟨k4, s4, q⟩ := q
          have x4 := x3.step k1 k3 k4 s4
          have hp4 : D ∈ S4.pv := by rw [x4.pv]; exact List.mem_cons_self
          have hD4 : S4.H D = some (.lst ws) := (s4.pk D (by rw [x3.pv]; exact List.mem_cons_self)).trans hD3
          have rl4 := rl.mono ((st2.trans s3).trans s4)
          split at q
          · rename_i hz
            refine ⟨ws, hD4, by rw [rl.len]; exact hz, S4.fill (upd S4.H D (.lst (ws ++ [w]))), acc ++ [y], ws ++ [w], rfl, ok_fill k4 hp4, x4.fill k1, upd_same, (rl4.snoc rw').tr (tr_fill hp4), ?_⟩
            rw [List.length_append]
            have q := Pnd.bind q
            show Pnd _ (mLcL a ft fe (wipeT τ vs) (acc.length + 1) (l.drop (i + 1)) S4.h)
            cases hr : mLcL a ft fe (wipeT τ vs) (acc.length + 1) (l.drop (i + 1)) S4.h with
            | bad => rw [hr] at q; exact q.elim
            | exc e h' => exact trivial
            | ok ys h' =>
              rw [hr] at q
              show PostG _ _ _ (fin ((acc ++ [y]) ++ ys) h')
              rw [List.append_assoc]
              exact q
          · exact q.elim
      · exact p.elim
  · left
    refine ⟨stop (by omega), ?_⟩
    rw [List.drop_eq_nil_of_le (by omega)] at p
    have p : PostG _ _ _ (fin (acc ++ []) S.h) := p
    rw [List.append_nil] at p
    exact hfin S1 S acc ws D e1 k1 k x hDS rl p
theorem sim_lc {wi : TI} {fi : FA} {g : TG} {a : FG} {tt : TT} {ft : FT} {te : TE} {fe : FE} {vs : List Nat} (hi : SimI G E wi fi) (hg : SimGw G vs g a) (ht : SimT G ET tt ft) (he : SimE G ET te fe) (hv : ∀ v ∈ vs, NoSl G v := by first | exact fun _ _ => noSl_none rfl | exact fun v hv => noSl_ne (by revert v; decide) | assumption) : SimE G E (tLc wi g tt te vs) (mLc vs fi a ft fe) := fun S σ τ Q e k rs p => by
  refine lc_all hi hg ht he hv S σ τ Q e k rs _ p fun S0 S ys ws D _ k0 k x hD r q => ?_
  have e := x.pv
  exact q (S.show S0.pv) rfl (ok_show k e) x.st _ (rv_lst ⟨hD, x.nown k0 k⟩ (r.tr (tr_show e)))
theorem sim_lcO {wi : TI} {fi : FA} {g : TG} {a : FG} {tt : TT} {ft : FT} {te : TE} {fe : FE} {vs : List Nat} (hi : SimI G E wi fi) (hg : SimGw G vs g a) (ht : SimT G ET tt ft) (he : SimE G ET te fe) (hv : ∀ v ∈ vs, NoSl G v := by first | exact fun _ _ => noSl_none rfl | exact fun v hv => noSl_ne (by revert v; decide) | assumption) : SimE G E (tLc wi g tt te vs) (mLcO vs fi a ft fe) := fun S σ τ Q e k rs p => by
  refine lc_all hi hg ht he hv S σ τ Q e k rs _ p fun S0 S ys ws D _ k0 k x hD r q => ?_
  obtain ⟨k', st⟩ := x.adopt k0 k hD (RO.mk_lst r)
  exact q (S.adopt S0.pv D _) rfl k' st _ (by simp only [Rv]; exact ⟨D, by simp [Sta.adopt, k.len], rfl⟩)
/-! letting go: what is tracked becomes a tree -/
def frzL (f : AH → T → T × AH) : AH → List T → List T × AH
  | h, [] => ([], h)
  | h, t :: ts => ((f h t).1 :: (frzL f (f h t).2 ts).1, (frzL f (f h t).2 ts).2)
def frz : Nat → AH → T → T × AH
  | 0, h, t => (t, h)
  | n + 1, h, t => match t with
    | .obj i => match h[i]? with
      | some (some (.lst l)) => (.lst (frzL (frz n) h l).1, (frzL (frz n) h l).2.set i none)
      | some (some (.ins c m)) => (.inst c (m.map (·.1)) (frzL (frz n) h (m.map (·.2))).1, (frzL (frz n) h (m.map (·.2))).2.set i none)
      | some (some (.dct m)) => (.dct (m.map (·.1)) (frzL (frz n) h (m.map (·.2))).1, (frzL (frz n) h (m.map (·.2))).2.set i none)
      | some (some (.dctT m)) => (.dctT (m.map (·.1)) (frzL (frz n) h (m.map (·.2))).1, (frzL (frz n) h (m.map (·.2))).2.set i none)
      | _ => (t, h)
    | _ => (t, h)
def Sta.wh (S : Sta) (h : AH) : Sta := ⟨S.G, S.al, h, S.H, S.pv⟩
structure Sub (h' h : AH) : Prop where
  len : h'.length = h.length
  sub : ∀ (j : Nat) (o : O), h'[j]? = some (some o) → h[j]? = some (some o)
theorem Sub.refl (h : AH) : Sub h h := ⟨rfl, fun _ _ e => e⟩
theorem Sub.trans {a b c : AH} (x : Sub a b) (y : Sub b c) : Sub a c := ⟨x.len.trans y.len, fun j o e => y.sub j o (x.sub j o e)⟩
theorem Sub.gone {h : AH} (i : Nat) : Sub (h.set i none) h := ⟨List.length_set, fun j o e => by
  by_cases z : i = j
  · subst z; rw [List.getElem?_set] at e; simp at e
  · rw [List.getElem?_set_ne z] at e; exact e⟩
theorem wh_trk {h' : AH} (s : Sub h' S.h) {b : Addr} (z : Trk (S.wh h') b) : Trk S b := by
  obtain ⟨j, o, h1, h2⟩ := z
  exact ⟨j, o, h1, s.sub j o h2⟩
theorem wh_step {h' : AH} (s : Sub h' S.h) : Step S (S.wh h') := ⟨rfl, List.prefix_rfl, fun _ _ h _ => h, fun b z => .inl (z.imp (wh_trk s) id), rfl, fun _ _ => rfl⟩
theorem wh_ok {h' : AH} (k : Ok S) (s : Sub h' S.h) : Ok (S.wh h') := ⟨k.len.trans s.len.symm, fun i o p h1 h2 => by
    obtain ⟨u, hu, r⟩ := k.rel i o p (s.sub i o h1) h2
    exact ⟨u, hu, r.mono (wh_step s)⟩, fun i j o o' p h1 h2 => k.inj i j o o' p (s.sub i o h1) (s.sub j o' h2), fun q hq => ⟨(k.priv q hq).1, fun z => (k.priv q hq).2 (wh_trk s z)⟩⟩
theorem RvK.unzip {κ : Type} : ∀ {m : List (κ × T)} {ws : List (κ × V)}, RvK S m ws → ∃ vs, ws = (m.map (·.1)).zip vs ∧ RvL S (m.map (·.2)) vs
  | [], ws, r => ⟨[], by rw [show ws = [] from r]; rfl, RvL.nil⟩
  | (k, t) :: m, ws, r => by
    obtain ⟨v, m', rfl, h1, h2⟩ := r
    obtain ⟨vs, rfl, h3⟩ := RvK.unzip h2
    exact ⟨v :: vs, rfl, RvL.cons h1 h3⟩
def FrzOk (f : AH → T → T × AH) : Prop := ∀ (S : Sta) (t : T) (v : V), Ok S → Rv S t v → Sub (f S.h t).2 S.h ∧ Rv (S.wh (f S.h t).2) (f S.h t).1 v
theorem frzL_ok {f : AH → T → T × AH} (hf : FrzOk f) : ∀ (l : List T) (S : Sta) (vs : List V), Ok S → RvL S l vs → Sub (frzL f S.h l).2 S.h ∧ RvL (S.wh (frzL f S.h l).2) (frzL f S.h l).1 vs
  | [], S, vs, k, r => ⟨Sub.refl _, r⟩
  | t :: ts, S, vs, k, r => by
    simp only [RvL] at r
    obtain ⟨v, q, rfl, r1, r2⟩ := r
    obtain ⟨s1, h1⟩ := hf S t v k r1
    have k1 := wh_ok k s1
    obtain ⟨s2, h2⟩ := frzL_ok hf ts (S.wh (f S.h t).2) q k1 (r2.mono (wh_step s1))
    exact ⟨s2.trans s1, RvL.cons (h1.mono (wh_step (S := S.wh (f S.h t).2) s2)) h2⟩
theorem gone_fz {i : Nat} {o : O} {p : Addr} {u : HO} {h' : AH} (k : Ok S) (h : S.h[i]? = some (some o)) (hp : S.al[i]? = some p) (hu : S.H p = some u) (s : Sub h' S.h) : Fz (S.wh (h'.set i none)) p u := by
  refine ⟨hu, fun z => ?_⟩
  rcases z with z | z
  · obtain ⟨j, o', h1, h2⟩ := z
    have h2 : (h'.set i none)[j]? = some (some o') := h2
    by_cases e : i = j
    · subst e; rw [List.getElem?_set] at h2; simp at h2
    · rw [List.getElem?_set_ne e] at h2
      exact e (k.inj i j o o' p h (s.sub j o' h2) hp h1)
  · exact (k.priv p z).2 ⟨i, o, hp, h⟩
theorem frz_ok : ∀ n, FrzOk (frz n)
  | 0 => fun S t v k r => ⟨Sub.refl _, r⟩
  | n + 1 => fun S t v k r => by
    have ih := frz_ok n
    unfold frz
    split
    · rename_i i
      split
      · rename_i l hl
        obtain ⟨p, vs, rfl, hp, hu, rl⟩ := obj_lst k hl r
        obtain ⟨s1, h1⟩ := frzL_ok ih l S vs k rl
        refine ⟨(Sub.gone i).trans s1, rv_lst (gone_fz k hl hp hu s1) ?_⟩
        exact h1.mono (wh_step (S := S.wh _) (Sub.gone i))
      · rename_i c m hl
        obtain ⟨p, ho, rfl, hp, hu, dx, ws, rfl, rk⟩ := obj_at k hl r
        obtain ⟨vs, rfl, rl⟩ := rk.unzip
        obtain ⟨s1, h1⟩ := frzL_ok ih _ S vs k rl
        refine ⟨(Sub.gone i).trans s1, ?_⟩
        simp only [Rv]
        exact ⟨p, dx, vs, rfl, gone_fz k hl hp hu s1, by rw [← h1.len, rl.len, List.length_map, List.length_map], h1.mono (wh_step (S := S.wh _) (Sub.gone i))⟩
      · rename_i m hl
        obtain ⟨p, ho, rfl, hp, hu, ws, rfl, rk⟩ := obj_at k hl r
        obtain ⟨vs, rfl, rl⟩ := rk.unzip
        obtain ⟨s1, h1⟩ := frzL_ok ih _ S vs k rl
        refine ⟨(Sub.gone i).trans s1, ?_⟩
        simp only [Rv]
        exact ⟨p, vs, rfl, gone_fz k hl hp hu s1, by rw [← h1.len, rl.len, List.length_map, List.length_map], h1.mono (wh_step (S := S.wh _) (Sub.gone i))⟩
      · rename_i m hl
        obtain ⟨p, ho, rfl, hp, hu, ws, rfl, rk⟩ := obj_at k hl r
        obtain ⟨vs, rfl, rl⟩ := rk.unzip
        obtain ⟨s1, h1⟩ := frzL_ok ih _ S vs k rl
        refine ⟨(Sub.gone i).trans s1, ?_⟩
        simp only [Rv]
        exact ⟨p, vs, rfl, gone_fz k hl hp hu s1, by rw [← h1.len, rl.len, List.length_map, List.length_map], h1.mono (wh_step (S := S.wh _) (Sub.gone i))⟩
      · exact ⟨Sub.refl _, r⟩
    · exact ⟨Sub.refl _, r⟩
theorem RS0.setT {t : T} {w : V} (a : Rv S t w) : ∀ {τ : LS} {σ : L2.St} {i : Nat}, RS0 S τ σ → σ[i]? = some (some w) → RS0 S (τ.set i (some t)) σ
  | [], _, _, h, _ => by rw [show _ = [] from h]; rfl
  | _ :: _, _, 0, ⟨v, r, e1, h, q⟩, e => ⟨v, r, e1, fun t' ht => ⟨w, by subst e1; simpa using e, by cases ht; exact a⟩, q⟩
  | _ :: _, _, i + 1, ⟨v, r, e1, h, q⟩, e => ⟨v, r, e1, h, RS0.setT a q (by subst e1; simpa using e)⟩
theorem RS.setT {t : T} {w : V} (a : Rv S t w) {τ : LS} {σ : L2.St} {i : Nat} (h : RS S τ σ) (e : σ[i]? = some (some w)) : RS S (τ.set i (some t)) σ := ⟨RS0.setT a h.r e, h.x⟩
/-- slot i's object changes no more: from here on a tree (nothing that Python does) -/
@[simp] def sFrz (i : Nat) (g : FS) : FS := fun τ h => match τ[i]? with
  | some (some (.obj j)) => g (τ.set i (some (frz 8 h (.obj j)).1)) (frz 8 h (.obj j)).2
  | _ => g τ h
theorem sim_frz {i : Nat} {t : TS} {g : FS} (hg : SimS G W t g) : SimS G W t (sFrz i g) := fun S σ τ D e k rs p => by
  unfold sFrz at p
  split at p
  · rename_i j ht
    obtain ⟨w, h1, h2⟩ := rs.get ht
    obtain ⟨s1, r1⟩ := frz_ok 8 S (.obj j) w k h2
    exact hg (S.wh (frz 8 S.h (.obj j)).2) σ _ D e (wh_ok k s1) ((rs.mono (wh_step s1)).setT r1 h1) (PostG.mono (wh_step s1) p)
  · exact hg S σ τ D e k rs p
/-! instances -/
@[simp] def insOf (c : Str) : T → AH → Option (List (Str × T))
  | .obj i, h => match h[i]? with | some (some (.ins c' m)) => if c' = c then some m else none | _ => none
  | .inst c' ns l, _ => if c' = c then some (ns.zip l) else none
  | _, _ => none
theorem insOf_ok {c : Str} {x : T} {u : V} {m : List (Str × T)} (k : Ok S) (r : Rv S x u) (h : insOf c x S.h = some m) : ∃ a dx vs, u = .ref a ∧ S.H a = some (.ins (S.G.ca c) dx vs) ∧ RvK S m vs := by
  unfold insOf at h
  split at h
  · split at h
    · rename_i c' m' hm
      split at h
      · rename_i e
        subst e
        cases h
        obtain ⟨p, ho, rfl, _, hp, dx, vs, rfl, rk⟩ := obj_at k hm r
        exact ⟨p, dx, vs, rfl, hp, rk⟩
      · cases h
    · cases h
  · split at h
    · rename_i e
      subst e
      cases h
      simp only [Rv] at r
      obtain ⟨p, dx, vs, rfl, f, n, rl⟩ := r
      exact ⟨p, dx, _, rfl, f.1, RvK.zip n rl⟩
    · cases h
  · cases h
theorem RvK.look {f : Str} : ∀ {m : List (Str × T)} {vs : List (Str × V)}, RvK S m vs → OptRv S (m.lookup f) (vs.lookup f)
  | [], vs, r => by rw [show vs = [] from r]; exact trivial
  | (k, t) :: m, vs, r => by
    obtain ⟨v, m', rfl, h1, h2⟩ := r
    rw [List.lookup_cons, List.lookup_cons]
    cases f == k with
    | true => exact h1
    | false => exact RvK.look h2
@[simp] def putFT (f : Str) (v : T) : List (Str × T) → List (Str × T)
  | [] => [(f, v)]
  | (g, x) :: r => if g = f then (g, v) :: r else (g, x) :: putFT f v r
theorem RvK.putF {f : Str} {t : T} {v : V} (rv : Rv S t v) : ∀ {m : List (Str × T)} {vs : List (Str × V)}, RvK S m vs → RvK S (putFT f t m) (putF f v vs)
  | [], vs, r => by rw [show vs = [] from r]; exact ⟨v, [], rfl, rv, rfl⟩
  | (k, t') :: m, vs, r => by
    obtain ⟨v', m', rfl, h1, h2⟩ := r
    show RvK S (if k = f then _ else _) (if k = f then _ else _)
    split
    · exact ⟨v, _, rfl, rv, h2⟩
    · exact ⟨v', _, rfl, h1, RvK.putF rv h2⟩
section
variable {ta tv : TE} {fa fv : FE} {c f : Str}
@[simp] def mFld (c f : Str) (fa : FE) : FE := fun τ h => (fa τ h).bind fun x h1 => match (insOf c x h1).bind fun m => m.lookup f with | some t => .ok t h1 | none => .bad
theorem sim_fld (hC : Cls G.K (G.ca c)) (hn : NoAttr G.K (G.ca c) f) (ha : SimE G E ta fa) : SimE G E (tFld G.K ta f) (mFld c f fa) := fun S σ τ Q e k rs p => by
  refine ha S σ τ _ e k rs (PostG.imp (fun x S1 q u ru => ?_) (PostG.bind p))
  obtain ⟨k1, s1, q⟩ := q
  split at q
  · rename_i t ht
    obtain ⟨m, hm, hl⟩ := Option.bind_eq_some_iff.mp ht
    obtain ⟨a, dx, vs, rfl, hH, rk⟩ := insOf_ok k1 ru hm
    have := rk.look (f := f)
    rw [hl] at this
    rw [s1.G.trans e] at hH
    cases hv : vs.lookup f with
    | none => rw [hv] at this; exact this.elim
    | some w => rw [hv] at this; exact ⟨a, _, dx, vs, w, rfl, hH, hC, hn, hv, q S1 rfl k1 (Step.refl S1) w this⟩
  · exact q.elim
/-- o.f = e -/
@[simp] def sFldM (c f : Str) (fo fv : FE) : FS := fun τ h => liftE (fv τ h) τ fun t h1 => liftE (fo τ h1) τ fun x h2 => match x with
  | .obj i => match h2[i]? with
    | some (some (.ins c' m)) => if c' = c ∧ m.length < 1000 then .ok (.nx τ) (h2.set i (some (.ins c' (putFT f t m)))) else .bad
    | _ => .bad
  | _ => .bad
theorem sim_sfld (hC : Cls G.K (G.ca c)) (hn : NoAttr G.K (G.ca c) f) (ha : SimE G (WE W) ta fa) (hv : SimE G (WE W) tv fv) : SimS G W (sFld G.K ta tv f) (sFldM c f fa fv) := fun S σ τ D e k rs p => by
  refine hv S σ τ _ e k rs (PostG.imp (fun t S1 q w rt => ?_) (PG.lift rs p))
  obtain ⟨k1, s1, q1⟩ := q
  refine ha S1 σ τ _ (s1.G.trans e) k1 (rs.mono s1) (PostG.imp (fun x S2 q2 u ru => ?_) (PG.lift (rs.mono s1) q1))
  obtain ⟨k2, s2, q3⟩ := q2
  have e2 := s2.G.trans (s1.G.trans e)
  split at q3
  · split at q3
    · rename_i c' m hm
      split at q3
      · rename_i hz
        obtain ⟨rfl, hz⟩ := hz
        obtain ⟨a, ho, rfl, hp, ha, dx, vs, rfl, rk⟩ := obj_at k2 hm ru
        have st := step_put (o' := .ins c' (putFT f t m)) (u := .ins (S2.G.ca c') dx (putF f w vs)) k2 hm hp
        refine ⟨a, G.ca c', dx, vs, rfl, by rw [ha, e2], hC, hn, by rw [rk.len]; exact hz, ?_⟩
        have q4 := q3 (S2.put _ _ _) rfl (ok_put k2 hm hp ⟨dx, _, rfl, rk.putF (rt.mono s2)⟩) st σ (rs.mono ((s1.trans s2).trans st))
        rw [← e2]
        exact q4
      · exact q3.elim
    · exact q3.elim
  · exact q3.elim
/-- o.m(..) -/
@[simp] def mMeth (c m : Str) (n : Nat) (mir : List T → AH → Res T) (fo : FE) (fr : FA) : FE := fun τ h => (fo τ h).bind fun x h1 => match (insOf c x h1).map fun mm => mm.lookup m with
  | some none => (fr τ h1).bind fun xs h2 => if xs.length + 1 = n then mir (x :: xs) h2 else .bad
  | _ => .bad
theorem sim_meth {C : Addr} {m : Str} {n : Nat} {mir : List T → AH → Res T} {tr : TA} {fr : FA} (hc : G.ca c = C) (ha : SimE G E ta fa) (hr : SimA G E tr fr) : SimE G E (tMeth C m (spM G n mir) [] (fun _ _ _ => True) ta tr) (mMeth c m n mir fa fr) := fun S σ τ Q e k rs p => by
  subst hc
  refine ha S σ τ _ e k rs (PostG.imp (fun x S1 q u ru => ?_) (PostG.bind p))
  obtain ⟨k1, s1, q⟩ := q
  split at q
  · rename_i ht
    obtain ⟨mm, hm, hl⟩ := Option.map_eq_some_iff.mp ht
    obtain ⟨a, dx, vs, rfl, hH, rk⟩ := insOf_ok k1 ru hm
    have := rk.look (f := m)
    rw [hl] at this
    have e1 := s1.G.trans e
    rw [e1] at hH
    refine ⟨a, dx, vs, rfl, hH, ?_, ?_⟩
    · cases hv : vs.lookup m with
      | none => rfl
      | some w => rw [hv] at this; exact this.elim
    · refine hr S1 σ τ _ e1 k1 (rs.mono s1) (PostG.imp (fun xs S2 q us rus => ?_) (PostG.bind q))
      obtain ⟨k2, s2, q⟩ := q
      split at q
      · rename_i hn
        rw [List.append_nil]
        exact ⟨S2, x :: xs, s2.G.trans e1, k2, rfl, RvL.cons (ru.mono s2) rus, by simpa using hn, PostG.exc (fun _ _ _ _ _ _ => trivial) q⟩
      · exact q.elim
  · exact q.elim
/-- C(..): a new instance, tracked while its __init__ runs; fz: and then let go -/
@[simp] def mMake (c : Str) (n : Nat) (mir : List T → AH → Res T) (fz : Bool) (fr : FA) : FE := fun τ h => (fr τ h).bind fun xs h1 => if xs.length + 1 = n then
    (mir (.obj h1.length :: xs) (h1 ++ [some (.ins c [])])).bind fun r h2 => match r with
      | .non => if fz = true then .ok (frz 8 h2 (.obj h1.length)).1 (frz 8 h2 (.obj h1.length)).2 else .ok (.obj h1.length) h2
      | _ => .bad
  else .bad
theorem make_core {n : Nat} {mir : List T → AH → Res T} {fz : Bool} {xs : List T} {us : List V} {Q : VK} {X : Exc → Sta → Prop} {E' : XK} (e : S.G = G) (k : Ok S) (rus : RvL S xs us) (hn : xs.length + 1 = n) (hX : ∀ e S', X e S' → XP E' e S')
    (q : PostG S X (fun t S' => ∀ v, Rv S' t v → Q v S'.H) ((mir (.obj S.h.length :: xs) (S.h ++ [some (.ins c [])])).bind fun r h2 => match r with
      | .non => if fz = true then .ok (frz 8 h2 (.obj S.h.length)).1 (frz 8 h2 (.obj S.h.length)).2 else .ok (.obj S.h.length) h2
      | _ => .bad)) : ∀ x dx, S.H x = none → S.H dx = none → dx ≠ x → spM G n mir (.ref x :: us) (upd (upd S.H dx (.own x)) x (.ins (G.ca c) dx [])) (fun v H2 => v = .non ∧ Q (.ref x) H2) E' := by
  intro x dx nx ndx ne
  have g : Grow S.H (upd (upd S.H dx (.own x)) x (.ins (G.ca c) dx [])) := by
    refine (Grow.upd (u := .own x) ndx).trans (Grow.upd ?_)
    rw [upd_ne (Ne.symm ne)]; exact nx
  have st := step_push (o := .ins c []) k nx g
  have kp := ok_push (o := .ins c []) (u := .ins (G.ca c) dx []) k nx g upd_same ⟨dx, [], by show _ = HO.ins (S.G.ca c) dx []; rw [e], rfl⟩
  have rx : Rv (S.push x (.ins c []) (upd (upd S.H dx (.own x)) x (.ins (G.ca c) dx []))) (.obj S.h.length) (.ref x) := by
    simp only [Rv]
    exact ⟨x, by simp [Sta.push, k.len], rfl⟩
  refine ⟨_, .obj S.h.length :: xs, st.G.trans e, kp, rfl, RvL.cons rx (rus.mono st), by simpa using hn, ?_⟩
  refine PostG.exc hX (PostG.imp (fun r S2 q v rv => ?_) (PostG.bind (PostG.mono st q)))
  obtain ⟨k2, s2, q⟩ := q
  split at q
  · simp only [Rv] at rv
    refine ⟨rv, ?_⟩
    have r2 := rx.mono s2
    split at q
    · obtain ⟨s3, r3⟩ := frz_ok 8 S2 _ _ k2 r2
      exact q (S2.wh _) rfl (wh_ok k2 s3) (wh_step s3) _ r3
    · exact q S2 rfl k2 (Step.refl S2) _ r2
  · exact q.elim
theorem sim_make {C : Addr} {n : Nat} {mir : List T → AH → Res T} {fz : Bool} {tr : TA} {fr : FA} (hc : G.ca c = C) (hr : SimA G E tr fr) : SimE G E (tMake C (spM G n mir) [] (fun _ _ _ => True) tr) (mMake c n mir fz fr) := fun S σ τ Q e k rs p => by
  subst hc
  refine hr S σ τ _ e k rs (PostG.imp (fun xs S1 q us rus => ?_) (PostG.bind p))
  obtain ⟨k1, s1, q⟩ := q
  split at q
  · rename_i hn
    rw [List.append_nil]
    exact make_core (s1.G.trans e) k1 rus hn (fun _ _ _ _ _ _ => trivial) q
  · exact q.elim
end
/-! isinstance of a built-in type -/
theorem tyOf_ok {x : T} {u : V} {n : String} (k : Ok S) (r : Rv S x u) (h : tyOf x S.h = some n) : TyX S.G.K S.H u (.type n) := by
  unfold tyOf at h
  split at h
  · cases h; simp only [Rv] at r; subst r; exact .base .non
  · cases h; simp only [Rv] at r; subst r; exact .base (.bl _)
  · cases h; simp only [Rv] at r; subst r; exact .base (.int _)
  · cases h; simp only [Rv] at r; subst r; exact .base (.str _)
  · cases h; simp only [Rv] at r; obtain ⟨p, vs, rfl, f, _⟩ := r; exact .base (.tup f.1)
  · cases h; simp only [Rv] at r; obtain ⟨p, vs, rfl, ⟨o, its, n, h1, h2, _⟩, _⟩ := r; exact .kTuple h1 h2
  · cases h; simp only [Rv] at r; obtain ⟨p, vs, rfl, f, _⟩ := r; exact .base (.lst f.1)
  · split at h
    · rename_i l hl
      cases h
      obtain ⟨p, vs, rfl, _, hp, _⟩ := obj_lst k hl r
      exact .base (.lst hp)
    · rename_i m hm
      cases h
      obtain ⟨p, ho, rfl, _, hp, vs, rfl, _⟩ := obj_at k hm r
      exact .base (.dK hp)
    · cases h
  · cases h; simp only [Rv] at r; obtain ⟨p, vs, rfl, f, _⟩ := r; exact .base (.dK f.1)
  · cases h
@[simp] def mIsi (n : String) (fa : FE) : FE := fun τ h => (fa τ h).bind fun x h1 => match (tyOf x h1).bind fun a => kitB a n with | some b => .ok (.bl b) h1 | none => .bad
theorem sim_isi {n : String} {ta : TE} {fa : FE} (ha : SimE G E ta fa) : SimE G E (tCB (rIsi G.K) (tCons ta (tCons (tC (.ty n)) tNil))) (mIsi n fa) := fun S σ τ Q e k rs p => by
  refine ha S σ τ _ e k rs (PostG.imp (fun x S1 q u ru => ?_) (PostG.bind p))
  obtain ⟨k1, s1, q⟩ := q
  split at q
  · rename_i b hb
    obtain ⟨a, h1, h2⟩ := Option.bind_eq_some_iff.mp hb
    have ty := tyOf_ok k1 ru h1
    rw [s1.G.trans e] at ty
    exact ⟨u, .ty n, _, _, b, rfl, .ty n, ty, kit_ty h2, q S1 rfl k1 (Step.refl S1) _ (by simp only [Rv])⟩
  · exact q.elim
end M
/-! ### the layer's rules with the written part named, zip, enumerate, cleaning -/
namespace M
open PySem PySem.Spec PyProof.Rows L2
variable {G : Env} {E : L2.St → XK} {S : Sta} {W : WX}
theorem ix_kd {X : Cx} {d : Addr} {es : Array DictEntry} {n : Nat} (D : KDict X.K X.w d es n) : IxR X (fun x y H Q => ∃ (z : Str) (u0 : Value) (v0 : V), x = .ref d ∧ y = .str z ∧ PySem.W.nsIn X.K d z = some (some u0) ∧ RelV v0 u0 ∧ Q v0 H) := by
  intro value slice pins s σ H x y v u Q I rx ry h hs
  obtain ⟨z, u0, v0, rfl, rfl, e, r, q⟩ := h
  cases rx
  obtain ⟨t, rfl⟩ := ry
  exact tail_any (kd_type D I) PySem.F.slot_dict_getitem.lookup (wpAny_getItem_of (PySem.strKind_is X.prog X.w z t) (PySem.W.mapOf_K (prog := X.prog) I.kIn D.at_ D.lit) (PySem.W.find_K D.at_ e) ⟨v0, H, I.tok _, r, q⟩) hs
section
variable {X : Cx} {K : PySem.W.Frag}
theorem x_ix (h : X.K = K) : IxR X (rIx K) := h ▸ ix_seq
theorem x_slL (h : X.K = K) : SlR X (rSlL K) := h ▸ sl_list
theorem x_slT (h : X.K = K) : SlR X (rSlA K) := h ▸ sl_tupA
theorem x_in (h : X.K = K) : OpR X (compareOp .In) (rIn K false) := h ▸ op_in_seq
theorem x_nin (h : X.K = K) : OpR X (compareOp .NotIn) (rIn K true) := h ▸ op_notIn_seq
theorem x_eq (h : X.K = K) (hu : X.A.units + 64 < cLine) : OpR X (compareOp .Eq) (fun x y H Q => rEq x y H Q ∨ rEqD K x y H Q) := h ▸ OpR.or op_eq (op_eqD hu)
theorem x_ne (h : X.K = K) (hu : X.A.units + 64 < cLine) : OpR X (compareOp .NotEq) (fun x y H Q => rNe x y H Q ∨ rNeD K x y H Q) := h ▸ OpR.or op_ne (op_neD hu)
theorem x_len (h : X.K = K) : CallR X (.builtin "len") (fun xs H Q => ∃ p ys, xs = [.ref p] ∧ (SqL K H p ys ∨ SqT K H p ys) ∧ Q (.int ys.length) H) := h ▸ call_len_seq
theorem x_list (h : X.K = K) : CallR X (.type "list") (fun xs H Q => ∃ p ys, xs = [.ref p] ∧ (SqL K H p ys ∨ SqT K H p ys) ∧ ∀ l, H l = none → Q (.ref l) (upd H l (.lst ys))) := h ▸ call_list_of
theorem x_tuple (h : X.K = K) : CallR X (.type "tuple") (fun xs H Q => ∃ p ys, xs = [.ref p] ∧ ((SqL K H p ys ∧ ∀ l, H l = none → Q (.ref l) (upd H l (.tup ys))) ∨ (SqT K H p ys ∧ Q (.ref p) H))) := h ▸ call_tuple_of
theorem x_isi (h : X.K = K) : CallR X (.builtin "isinstance") (rIsi K) := h ▸ call_isi
theorem x_any (h : X.K = K) (hc : X.calm = true) : CallR X (.builtin "any") (rAny K) := h ▸ cr_any hc
theorem x_all (h : X.K = K) (hc : X.calm = true) : CallR X (.builtin "all") (rAll K) := h ▸ cr_all hc
theorem x_sum (h : X.K = K) (hc : X.calm = true) : CallR X (.builtin "sum") (rSum K) := h ▸ cr_sum hc
theorem x_catT (h : X.K = K) : OpR X (binaryOp .Add) (rCatT K) := h ▸ op_catT
theorem x_fld (h : X.K = K) {e : Expr} {f : Str} {ta : TE} {pos : Pos} (he : PE X e ta) (hb : attributeBase e f X.env (eval e X.env) = eval e X.env) : PE X (.Attribute e f pos) (tFld K ta f) := h ▸ pe_fld he hb
theorem x_kd {w : World} {d : Addr} {es : Array DictEntry} {n : Nat} (h : X.K = K) (hw : X.w = w) (D : KDict K w d es n) : IxR X (fun x y H Q => ∃ (z : Str) (u0 : Value) (v0 : V), x = .ref d ∧ y = .str z ∧ PySem.W.nsIn K d z = some (some u0) ∧ RelV v0 u0 ∧ Q v0 H) := by
  subst h; subst hw; exact ix_kd D
theorem x_kin {w : World} {d : Addr} {es : Array DictEntry} {n : Nat} (h : X.K = K) (hw : X.w = w) (D : KDict K w d es n) : OpR X (compareOp .In) (fun x y H Q => ∃ (z : Str) (r : Option Value), x = .str z ∧ y = .ref d ∧ PySem.W.nsIn K d z = some r ∧ Q (.bl r.isSome) H) := by
  subst h; subst hw; exact op_in_kd D
theorem x_knin {w : World} {d : Addr} {es : Array DictEntry} {n : Nat} (h : X.K = K) (hw : X.w = w) (D : KDict K w d es n) : OpR X (compareOp .NotIn) (fun x y H Q => ∃ (z : Str) (r : Option Value), x = .str z ∧ y = .ref d ∧ PySem.W.nsIn K d z = some r ∧ Q (.bl (!r.isSome)) H) := by
  subst h; subst hw; exact op_notIn_kd D
theorem x_tru (h : X.K = K) {a : Expr} {ta : TE} (ha : PE X a ta) (he : ∀ whole, isTrue a X.env whole = (do let v ← whole; standAt a.pos; holding [v] (truthy v))) : PT X a (fun σ H Q => ta σ H fun x H' => ∃ k, TruV K x H' k ∧ Q k H') := h ▸ pt_truth ha he
theorem x_pil (h : X.K = K) {tg l : Expr} {tl : TE} (hl : PE X l tl) : PI X tg l (iList K tl) := h ▸ pi_list hl
theorem x_pit (h : X.K = K) {tg l : Expr} {tl : TE} (hl : PE X l tl) : PI X tg l (iTup K tl) := h ▸ pi_tup hl
end
/-! tuple + tuple, any, all, sum -/
theorem so_catT : SimR2 G (rCatT G.K) oCatT := fun S x y u v X Q e k ru rv p => by
  rw [← e]
  unfold oCatT P2 pur at p
  split at p
  · rename_i t ht
    obtain ⟨l, hl, ht⟩ := Option.bind_eq_some_iff.mp ht
    obtain ⟨m, hm, ht⟩ := Option.bind_eq_some_iff.mp ht
    split at ht
    · rename_i hz
      cases ht
      obtain ⟨a, xs, rfl, hs, rl⟩ := tupOf_ok hl ru
      obtain ⟨b, ys, rfl, hs2, rm⟩ := tupOf_ok hm rv
      refine ⟨a, b, xs, ys, rfl, rfl, hs, hs2, ?_, by rw [rl.len, rm.len]; exact hz.2.2, ?_, fun _ => new_fz k p fun p n f => rv_tup f ((rl.app rm).mono (step_at (by assumption) (Grow.upd n)))⟩
      · intro z; subst z
        have := rl.len
        exact hz.1 (List.length_eq_zero_iff.mp (by simpa using this.symm))
      · intro z; subst z
        have := rm.len
        exact absurd (List.length_eq_zero_iff.mp (by simpa using this.symm)) hz.2.1
    · cases ht
  · exact p.elim
@[simp] def bools : List T → Option (List Bool)
  | [] => some []
  | .bl b :: ts => (bools ts).map fun bs => b :: bs
  | _ => none
theorem bools_ok : ∀ {l : List T} {vs : List V} {bs : List Bool}, RvL S l vs → bools l = some bs → vs = bs.map V.bl
  | [], vs, bs, r, h => by simp only [RvL] at r; simp only [bools] at h; cases h; exact r
  | t :: ts, vs, bs, r, h => by
    simp only [RvL] at r
    obtain ⟨v, q, rfl, r1, r2⟩ := r
    cases t <;> simp only [bools] at h <;> first | (cases h; done) | skip
    obtain ⟨bs', h2, rfl⟩ := Option.map_eq_some_iff.mp h
    simp only [Rv] at r1
    rw [r1, bools_ok r2 h2]; rfl
@[simp] abbrev bAny := one fun x h => ((lstOf x h).bind bools).map fun bs => .bl (bs.any id)
@[simp] abbrev bAll := one fun x h => ((lstOf x h).bind bools).map fun bs => .bl (bs.all id)
theorem sb_any : SimRC G (rAny G.K) bAny := simC1 fun S x t u Q e k ru hg q => by
  obtain ⟨bs, hb, rfl⟩ := Option.map_eq_some_iff.mp hg
  obtain ⟨l, hl, hb⟩ := Option.bind_eq_some_iff.mp hb
  obtain ⟨a, vs, rfl, hs, rl⟩ := lstOf_ok k hl ru
  rw [e, bools_ok rl hb] at hs
  exact ⟨a, bs, rfl, hs, q _ (by simp)⟩
theorem sb_all : SimRC G (rAll G.K) bAll := simC1 fun S x t u Q e k ru hg q => by
  obtain ⟨bs, hb, rfl⟩ := Option.map_eq_some_iff.mp hg
  obtain ⟨l, hl, hb⟩ := Option.bind_eq_some_iff.mp hb
  obtain ⟨a, vs, rfl, hs, rl⟩ := lstOf_ok k hl ru
  rw [e, bools_ok rl hb] at hs
  exact ⟨a, bs, rfl, hs, q _ (by simp)⟩
@[simp] def intsOf : List T → Option (List Int)
  | [] => some []
  | .int b :: ts => (intsOf ts).map fun bs => b :: bs
  | _ => none
theorem intsOf_ok : ∀ {l : List T} {vs : List V} {bs : List Int}, RvL S l vs → intsOf l = some bs → vs = bs.map V.int
  | [], vs, bs, r, h => by simp only [RvL] at r; simp only [intsOf] at h; cases h; exact r
  | t :: ts, vs, bs, r, h => by
    simp only [RvL] at r
    obtain ⟨v, q, rfl, r1, r2⟩ := r
    cases t <;> simp only [intsOf] at h <;> first | (cases h; done) | skip
    obtain ⟨bs', h2, rfl⟩ := Option.map_eq_some_iff.mp h
    simp only [Rv] at r1
    rw [r1, intsOf_ok r2 h2]; rfl
@[simp] abbrev bSum := one fun x h => ((lstOf x h).bind intsOf).map fun bs => .int bs.sum
theorem sb_sum : SimRC G (rSum G.K) bSum := simC1 fun S x t u Q e k ru hg q => by
  obtain ⟨bs, hb, rfl⟩ := Option.map_eq_some_iff.mp hg
  obtain ⟨l, hl, hb⟩ := Option.bind_eq_some_iff.mp hb
  obtain ⟨a, vs, rfl, hs, rl⟩ := lstOf_ok k hl ru
  rw [e, intsOf_ok rl hb] at hs
  exact ⟨a, bs, rfl, hs, q _ (by simp)⟩
/-! zip, enumerate: each item a new pair -/
theorem new_pair {x y : T} {u v : V} {p : Addr} (k : Ok S) (n : S.H p = none) (ru : Rv S x u) (rv : Rv S y v) : ∃ S', S'.H = upd S.H p (.tup [u, v]) ∧ S'.h = S.h ∧ Ok S' ∧ Step S S' ∧ Rv S' (.tup [x, y]) (.ref p) :=
  have g := Grow.upd (u := .tup [u, v]) n
  ⟨S.at _, rfl, rfl, ok_at k g, step_at k g, rv_tup (fz_new k n upd_same) ((RvL.cons ru (RvL.cons rv RvL.nil)).mono (step_at k g))⟩
def pairs (l m : List T) : List T := List.zipWith (fun x y => .tup [x, y]) l m
theorem pairs_get {l m : List T} {i : Nat} {t : T} (h : (pairs l m)[i]? = some t) : ∃ x y, l[i]? = some x ∧ m[i]? = some y ∧ t = .tup [x, y] := by
  unfold pairs at h
  rw [List.getElem?_zipWith] at h
  cases hx : l[i]? with
  | none => rw [hx] at h; cases h
  | some x =>
    cases hy : m[i]? with
    | none => rw [hx, hy] at h; cases h
    | some y => rw [hx, hy] at h; cases h; exact ⟨x, y, rfl, rfl, rfl⟩
theorem it_zipL {p q : Addr} {l m : List T} {vs ws : List V} (e : S.G = G) (f : Fz S p (.lst vs)) (f2 : Fz S q (.lst ws)) (r : RvL S l vs) (r2 : RvL S m ws) : ItOk S (Itz G.K p q) (pairs l m) := fun S1 st k i => by
  have hs : SqL G.K S1.H p vs := by rw [← e, ← st.G]; exact sql_of (st.fz _ _ f)
  have hs2 : SqL G.K S1.H q ws := by rw [← e, ← st.G]; exact sql_of (st.fz _ _ f2)
  refine ⟨fun t ht => ?_, fun h => ⟨vs, ws, hs, hs2, ?_⟩⟩
  · obtain ⟨x, y, hx, hy, rfl⟩ := pairs_get ht
    obtain ⟨v, hv, rv⟩ := (r.tr st).get hx
    obtain ⟨w, hw, rw'⟩ := (r2.tr st).get hy
    refine ⟨⟨vs, ws, v, w, hs, hs2, hv, hw⟩, fun z H' hy => ?_⟩
    obtain ⟨T0, x', y', rfl, hn, rfl, h1, h2⟩ := hy
    have a := h1 vs hs
    have b := h2 ws hs2
    rw [hv] at a; cases a
    rw [hw] at b; cases b
    exact new_pair k hn rv rw'
  · unfold pairs at h
    rw [List.length_zipWith] at h
    rw [r.len, r2.len]
    omega
theorem it_zipT {p q : Addr} {l m : List T} {vs ws : List V} (hs : ∀ S1, Tr S S1 → SqT G.K S1.H p vs) (hs2 : ∀ S1, Tr S S1 → SqT G.K S1.H q ws) (r : RvL S l vs) (r2 : RvL S m ws) : ItOk S (RZ.ItzT G.K p q) (pairs l m) := fun S1 st k i => by
  have hs := hs S1 st
  have hs2 := hs2 S1 st
  refine ⟨fun t ht => ?_, fun h => ⟨vs, ws, hs, hs2, ?_⟩⟩
  · obtain ⟨x, y, hx, hy, rfl⟩ := pairs_get ht
    obtain ⟨v, hv, rv⟩ := (r.tr st).get hx
    obtain ⟨w, hw, rw'⟩ := (r2.tr st).get hy
    refine ⟨⟨vs, ws, v, w, hs, hs2, hv, hw⟩, fun z H' hy => ?_⟩
    obtain ⟨T0, x', y', rfl, hn, rfl, h1, h2⟩ := hy
    have a := h1 vs hs
    have b := h2 ws hs2
    rw [hv] at a; cases a
    rw [hw] at b; cases b
    exact new_pair k hn rv rw'
  · unfold pairs at h
    rw [List.length_zipWith] at h
    rw [r.len, r2.len]
    omega
@[simp] def iZipM (fa : FA) : FA := fun τ h => (fa τ h).bind fun xs h1 => match xs with
  | [.lst l, .lst m] => .ok (pairs l m) h1
  | [x, y] => match tupOf x, tupOf y with
    | some l, some m => .ok (pairs l m) h1
    | _, _ => .bad
  | _ => .bad
theorem sim_zip {ta : TA} {fa : FA} (ha : SimA G E ta fa) : SimI G E (RZ.iZipA G.K ta) (iZipM fa) := fun S σ τ R e k rs p => by
  refine ha S σ τ _ e k rs (PostG.imp (fun x S1 q u ru => ?_) (PostG.bind p))
  obtain ⟨k1, s1, q⟩ := q
  have e1 := s1.G.trans e
  split at q
  · simp only [RvL, Rv] at ru
    obtain ⟨_, _, rfl, ⟨a, vs, rfl, f1, r1⟩, _, _, rfl, ⟨b, ws, rfl, f2, r2⟩, rfl⟩ := ru
    exact ⟨a, b, vs, ws, rfl, .inl ⟨by rw [← e1]; exact sql_of f1, by rw [← e1]; exact sql_of f2, q S1 rfl k1 (Step.refl S1) _ (it_zipL e1 f1 f2 r1 r2)⟩⟩
  · split at q
    · rename_i l m hl hm
      simp only [RvL] at ru
      obtain ⟨_, _, rfl, h1, _, _, rfl, h2, rfl⟩ := ru
      obtain ⟨a, vs, rfl, hs1, r1⟩ := tup_stay e1 hl h1
      obtain ⟨b, ws, rfl, hs2, r2⟩ := tup_stay e1 hm h2
      exact ⟨a, b, vs, ws, rfl, .inr ⟨hs1 S1 (Tr.refl S1), hs2 S1 (Tr.refl S1), q S1 rfl k1 (Step.refl S1) _ (it_zipT hs1 hs2 r1 r2)⟩⟩
    · exact q.elim
  · exact q.elim
def numbered (l : List T) : List T := l.mapIdx fun i x => .tup [.int (i : Nat), x]
theorem numbered_get {l : List T} {i : Nat} {t : T} (h : (numbered l)[i]? = some t) : ∃ x, l[i]? = some x ∧ t = .tup [.int (i : Nat), x] := by
  unfold numbered at h
  rw [List.getElem?_mapIdx] at h
  obtain ⟨x, hx, rfl⟩ := Option.map_eq_some_iff.mp h
  exact ⟨x, hx, rfl⟩
@[simp] def iEnumL (fa : FA) : FA := fun τ h => (fa τ h).bind fun xs h1 => match xs with | [.lst l] => .ok (numbered l) h1 | _ => .bad
theorem sim_enumL {ta : TA} {fa : FA} (ha : SimA G E ta fa) : SimI G E (iEnum G.K ta) (iEnumL fa) := fun S σ τ R e k rs p => by
  refine ha S σ τ _ e k rs (PostG.imp (fun x S1 q u ru => ?_) (PostG.bind p))
  obtain ⟨k1, s1, q⟩ := q
  have e1 := s1.G.trans e
  split at q
  · simp only [RvL, Rv] at ru
    obtain ⟨_, _, rfl, ⟨a, vs, rfl, f, r⟩, rfl⟩ := ru
    refine ⟨a, vs, rfl, by rw [← e1]; exact sql_of f, q S1 rfl k1 (Step.refl S1) _ fun S2 st k i => ?_⟩
    have hs : SqL G.K S2.H a vs := by rw [← e1, ← st.G]; exact sql_of (st.fz _ _ f)
    refine ⟨fun t ht => ?_, fun h => ⟨vs, hs, by rw [r.len]; unfold numbered at h; rw [List.length_mapIdx] at h; exact h⟩⟩
    obtain ⟨x, hx, rfl⟩ := numbered_get ht
    obtain ⟨v, hv, rv⟩ := (r.tr st).get hx
    refine ⟨⟨vs, v, hs, hv⟩, fun z H' hy => ?_⟩
    obtain ⟨T0, x', rfl, hn, rfl, h1⟩ := hy
    have b := h1 vs hs
    rw [hv] at b; cases b
    exact new_pair k hn (by simp only [Rv]) rv
  · exact q.elim
@[simp] def iEnumTM (fa : FA) : FA := fun τ h => (fa τ h).bind fun xs h1 => match xs with | [x] => (match tupOf x with | some l => .ok (numbered l) h1 | none => .bad) | _ => .bad
theorem sim_enumT {ta : TA} {fa : FA} (ha : SimA G E ta fa) : SimI G E (ENT.iEnumT G.K ta) (iEnumTM fa) := fun S σ τ R e k rs p => by
  refine ha S σ τ _ e k rs (PostG.imp (fun x S1 q u ru => ?_) (PostG.bind p))
  obtain ⟨k1, s1, q⟩ := q
  have e1 := s1.G.trans e
  split at q
  · split at q
    · rename_i l hl
      simp only [RvL] at ru
      obtain ⟨_, _, rfl, h1, rfl⟩ := ru
      obtain ⟨a, vs, rfl, hs1, r⟩ := tup_stay e1 hl h1
      refine ⟨a, vs, rfl, hs1 S1 (Tr.refl S1), q S1 rfl k1 (Step.refl S1) _ fun S2 st k i => ?_⟩
      have hs := hs1 S2 st
      refine ⟨fun t ht => ?_, fun h => ⟨vs, hs, by rw [r.len]; unfold numbered at h; rw [List.length_mapIdx] at h; exact h⟩⟩
      obtain ⟨x, hx, rfl⟩ := numbered_get ht
      obtain ⟨v, hv, rv⟩ := (r.tr st).get hx
      refine ⟨⟨vs, v, hs, hv⟩, fun z H' hy => ?_⟩
      obtain ⟨T0, x', rfl, hn, rfl, h1⟩ := hy
      have b := h1 vs hs
      rw [hv] at b; cases b
      exact new_pair k hn (by simp only [Rv]) rv
    · exact q.elim
  · exact q.elim
/-! constants of the module -/
theorem rv_ktp {p : Addr} {l : List T} {vs : List V} (h : KT S.G.K p vs) (r : RvL S l vs) : Rv S (.ktp l) (.ref p) := by simp only [Rv]; exact ⟨p, vs, rfl, h, r⟩
/-! cleaning: what a def leaves behind its own end is dropped -/
mutual
def lt (n : Nat) : T → Bool
  | .obj i => decide (i < n)
  | .tup l => ltL n l
  | .ktp l => ltL n l
  | .lst l => ltL n l
  | .rdl l => ltL n l
  | .inst _ _ l => ltL n l
  | .dct _ l => ltL n l
  | .dctT _ l => ltL n l
  | _ => true
def ltL (n : Nat) : List T → Bool
  | [] => true
  | t :: ts => lt n t && ltL n ts
end
def ltO (n : Nat) : O → Bool
  | .lst l => ltL n l
  | .dct m => ltL n (m.map (·.2))
  | .dctT m => ltL n (m.map (·.2))
  | .ins _ m => ltL n (m.map (·.2))
/-- the first n of the tracked things -/
def Sta.cut (S : Sta) (n : Nat) : Sta := ⟨S.G, S.al.take n, S.h.take n, S.H, S.pv⟩
theorem cut_trk {n : Nat} {b : Addr} (h : Trk (S.cut n) b) : Trk S b := by
  obtain ⟨i, o, h1, h2⟩ := h
  simp only [Sta.cut] at h1 h2
  rw [List.getElem?_take] at h1 h2
  split at h1
  · rename_i hi
    rw [if_pos hi] at h2
    exact ⟨i, o, h1, h2⟩
  · cases h1
theorem cut_fz {n : Nat} {p : Addr} {o : HO} (f : Fz S p o) : Fz (S.cut n) p o := ⟨f.1, fun z => f.2 (z.imp cut_trk id)⟩
mutual
theorem rv_cut {n : Nat} : ∀ {t : T} {v : V}, Rv S t v → lt n t = true → Rv (S.cut n) t v
  | .non, v, h, _ => by simp only [Rv] at h ⊢; exact h
  | .bl b, v, h, _ => by simp only [Rv] at h ⊢; exact h
  | .int i, v, h, _ => by simp only [Rv] at h ⊢; exact h
  | .str x, v, h, _ => by simp only [Rv] at h ⊢; exact h
  | .ref a, v, h, _ => by simp only [Rv] at h ⊢; exact h
  | .tup l, v, h, q => by
    simp only [Rv] at h ⊢; simp only [lt] at q
    obtain ⟨p, vs, e, f, r⟩ := h
    exact ⟨p, vs, e, cut_fz f, rvL_cut r q⟩
  | .ktp l, v, h, q => by
    simp only [Rv] at h ⊢; simp only [lt] at q
    obtain ⟨p, vs, e, f, r⟩ := h
    exact ⟨p, vs, e, f, rvL_cut r q⟩
  | .lst l, v, h, q => by
    simp only [Rv] at h ⊢; simp only [lt] at q
    obtain ⟨p, vs, e, f, r⟩ := h
    exact ⟨p, vs, e, cut_fz f, rvL_cut r q⟩
  | .rdl l, v, h, q => by
    simp only [Rv] at h ⊢; simp only [lt] at q
    obtain ⟨p, vs, e, f, r⟩ := h
    exact ⟨p, vs, e, f.imp (fun ⟨ob, f⟩ => ⟨ob, cut_fz f⟩) (fun z => z.imp cut_fz id), rvL_cut r q⟩
  | .inst c ns l, v, h, q => by
    simp only [Rv] at h ⊢; simp only [lt] at q
    obtain ⟨p, dx, vs, e, f, n, r⟩ := h
    exact ⟨p, dx, vs, e, cut_fz f, n, rvL_cut r q⟩
  | .dct ks l, v, h, q => by
    simp only [Rv] at h ⊢; simp only [lt] at q
    obtain ⟨p, vs, e, f, n, r⟩ := h
    exact ⟨p, vs, e, cut_fz f, n, rvL_cut r q⟩
  | .dctT ks l, v, h, q => by
    simp only [Rv] at h ⊢; simp only [lt] at q
    obtain ⟨p, vs, e, f, n, r⟩ := h
    exact ⟨p, vs, e, cut_fz f, n, rvL_cut r q⟩
  | .obj i, v, h, q => by
    simp only [Rv] at h ⊢; simp only [lt] at q
    obtain ⟨p, e, z⟩ := h
    refine ⟨p, ?_, z⟩
    simp only [Sta.cut]
    rw [List.getElem?_take, if_pos (of_decide_eq_true q)]
    exact e
theorem rvL_cut {n : Nat} : ∀ {l : List T} {vs : List V}, RvL S l vs → ltL n l = true → RvL (S.cut n) l vs
  | [], _, h, _ => by simp only [RvL] at h ⊢; exact h
  | t :: ts, vs, h, q => by
    simp only [RvL] at h ⊢; simp only [ltL, Bool.and_eq_true] at q
    obtain ⟨v, r, e, h1, h2⟩ := h
    exact ⟨v, r, e, rv_cut h1 q.1, rvL_cut h2 q.2⟩
end
theorem rvK_cut {κ : Type} {n : Nat} : ∀ {m : List (κ × T)} {vs : List (κ × V)}, RvK S m vs → ltL n (m.map (·.2)) = true → RvK (S.cut n) m vs
  | [], _, h, _ => h
  | (k, t) :: m, vs, h, q => by
    obtain ⟨v, m', rfl, h1, h2⟩ := h
    simp only [List.map_cons, ltL, Bool.and_eq_true] at q
    exact ⟨v, m', rfl, rv_cut h1 q.1, rvK_cut h2 q.2⟩
theorem ro_cut {n : Nat} {o : O} {u : HO} (r : RO S o u) (q : ltO n o = true) : RO (S.cut n) o u := by
  cases o with
  | lst l => obtain ⟨vs, e, r⟩ := r; exact ⟨vs, e, rvL_cut r q⟩
  | dct m => obtain ⟨vs, e, r⟩ := r; exact ⟨vs, e, rvK_cut r q⟩
  | dctT m => obtain ⟨vs, e, r⟩ := r; exact ⟨vs, e, rvK_cut r q⟩
  | ins c m => obtain ⟨dx, vs, e, r⟩ := r; exact ⟨dx, vs, e, rvK_cut r q⟩
mutual
theorem lt_of_rv : ∀ {t : T} {v : V}, Rv S t v → lt S.al.length t = true
  | .non, v, h => rfl
  | .bl b, v, h => rfl
  | .int i, v, h => rfl
  | .str x, v, h => rfl
  | .ref a, v, h => rfl
  | .tup l, v, h => by simp only [Rv] at h; simp only [lt]; obtain ⟨p, vs, e, f, r⟩ := h; exact ltL_of_rv r
  | .ktp l, v, h => by simp only [Rv] at h; simp only [lt]; obtain ⟨p, vs, e, f, r⟩ := h; exact ltL_of_rv r
  | .lst l, v, h => by simp only [Rv] at h; simp only [lt]; obtain ⟨p, vs, e, f, r⟩ := h; exact ltL_of_rv r
  | .rdl l, v, h => by simp only [Rv] at h; simp only [lt]; obtain ⟨p, vs, e, f, r⟩ := h; exact ltL_of_rv r
  | .inst c ns l, v, h => by simp only [Rv] at h; simp only [lt]; obtain ⟨p, dx, vs, e, f, n, r⟩ := h; exact ltL_of_rv r
  | .dct ks l, v, h => by simp only [Rv] at h; simp only [lt]; obtain ⟨p, vs, e, f, n, r⟩ := h; exact ltL_of_rv r
  | .dctT ks l, v, h => by simp only [Rv] at h; simp only [lt]; obtain ⟨p, vs, e, f, n, r⟩ := h; exact ltL_of_rv r
  | .obj i, v, h => by simp only [Rv] at h; simp only [lt]; obtain ⟨p, e, z⟩ := h; exact decide_eq_true (List.getElem?_eq_some_iff.mp e).1
theorem ltL_of_rv : ∀ {l : List T} {vs : List V}, RvL S l vs → ltL S.al.length l = true
  | [], _, h => rfl
  | t :: ts, vs, h => by
    simp only [RvL] at h; simp only [ltL, Bool.and_eq_true]
    obtain ⟨v, r, e, h1, h2⟩ := h
    exact ⟨lt_of_rv h1, ltL_of_rv h2⟩
end
theorem ltK_of_rv {κ : Type} : ∀ {m : List (κ × T)} {vs : List (κ × V)}, RvK S m vs → ltL S.al.length (m.map (·.2)) = true
  | [], _, _ => rfl
  | (k, t) :: m, vs, h => by
    obtain ⟨v, m', rfl, h1, h2⟩ := h
    simp only [List.map_cons, ltL, Bool.and_eq_true]
    exact ⟨lt_of_rv h1, ltK_of_rv h2⟩
theorem ltO_of_ro {o : O} {u : HO} (r : RO S o u) : ltO S.al.length o = true := by
  cases o with
  | lst l => obtain ⟨vs, e, r⟩ := r; exact ltL_of_rv r
  | dct m => obtain ⟨vs, e, r⟩ := r; exact ltK_of_rv r
  | dctT m => obtain ⟨vs, e, r⟩ := r; exact ltK_of_rv r
  | ins c m => obtain ⟨dx, vs, e, r⟩ := r; exact ltK_of_rv r
mutual
theorem lt_le {n m : Nat} (h : n ≤ m) : ∀ {t : T}, lt n t = true → lt m t = true
  | .non, _ => rfl
  | .bl b, _ => rfl
  | .int i, _ => rfl
  | .str x, _ => rfl
  | .ref a, _ => rfl
  | .tup l, q => by simp only [lt] at q ⊢; exact ltL_le h q
  | .ktp l, q => by simp only [lt] at q ⊢; exact ltL_le h q
  | .lst l, q => by simp only [lt] at q ⊢; exact ltL_le h q
  | .rdl l, q => by simp only [lt] at q ⊢; exact ltL_le h q
  | .inst c ns l, q => by simp only [lt] at q ⊢; exact ltL_le h q
  | .dct ks l, q => by simp only [lt] at q ⊢; exact ltL_le h q
  | .dctT ks l, q => by simp only [lt] at q ⊢; exact ltL_le h q
  | .obj i, q => by simp only [lt] at q ⊢; exact decide_eq_true (Nat.lt_of_lt_of_le (of_decide_eq_true q) h)
theorem ltL_le {n m : Nat} (h : n ≤ m) : ∀ {l : List T}, ltL n l = true → ltL m l = true
  | [], _ => rfl
  | t :: ts, q => by
    simp only [ltL, Bool.and_eq_true] at q ⊢
    exact ⟨lt_le h q.1, ltL_le h q.2⟩
end
theorem ltO_le {n m : Nat} (h : n ≤ m) {o : O} (q : ltO n o = true) : ltO m o = true := by
  cases o <;> exact ltL_le h q
/-- r is q, but for tracked things at its end that nobody knows -/
def Clean {α : Type} (lq : Nat → α → Bool) (h : AH) (r q : Res α) : Prop := match q with
  | .bad => True
  | .ok a h' => ∃ j, r = .ok a (h' ++ j) ∧ h.length ≤ h'.length ∧ lq h'.length a = true ∧ ∀ (i : Nat) (o : O), h'[i]? = some (some o) → h[i]? = some (some o) ∨ ltO h'.length o = true
  | .exc e h' => ∃ j, r = .exc e (h' ++ j) ∧ h.length ≤ h'.length ∧ ltL h'.length e.l = true ∧ ∀ (i : Nat) (o : O), h'[i]? = some (some o) → h[i]? = some (some o) ∨ ltO h'.length o = true
theorem cut_ok {S1 : Sta} {h' j : AH} (k0 : Ok S) (k : Ok S1) (st : Step S S1) (e : S1.h = h' ++ j) (hl : S.h.length ≤ h'.length) (ho : ∀ (i : Nat) (o : O), h'[i]? = some (some o) → S.h[i]? = some (some o) ∨ ltO h'.length o = true) : (S1.cut h'.length).h = h' ∧ Ok (S1.cut h'.length) ∧ Step S (S1.cut h'.length) := by
  have eh : (S1.cut h'.length).h = h' := by show S1.h.take _ = _; rw [e, List.take_left]
  have hal : h'.length ≤ S1.al.length := by rw [k.len, e, List.length_append]; omega
  have small : ∀ (i : Nat) (o : O), h'[i]? = some (some o) → ltO h'.length o = true := fun i o hi => by
    rcases ho i o hi with z | z
    · obtain ⟨p, hp⟩ := k0.addr z
      obtain ⟨u, _, r⟩ := k0.rel i o p z hp
      exact ltO_le (by rw [k0.len]; exact hl) (ltO_of_ro r)
    · exact z
  have back : ∀ (i : Nat) (o : O), (S1.cut h'.length).h[i]? = some (some o) → S1.h[i]? = some (some o) ∧ h'[i]? = some (some o) := fun i o hi => by
    rw [eh] at hi
    refine ⟨?_, hi⟩
    rw [e, List.getElem?_append_left (List.getElem?_eq_some_iff.mp hi).1]
    exact hi
  have backA : ∀ (i : Nat) (p : Addr), (S1.cut h'.length).al[i]? = some p → S1.al[i]? = some p := fun i p hi => by
    simp only [Sta.cut] at hi
    rw [List.getElem?_take] at hi
    split at hi
    · exact hi
    · cases hi
  refine ⟨eh, ⟨?_, fun i o p h1 h2 => ?_, fun i j' o o' p h1 h2 h3 h4 => ?_, fun q hq => ?_⟩, ⟨st.G, ?_, st.keep, fun b z => st.own b (z.imp cut_trk id), st.pv, st.pk⟩⟩
  · rw [eh]; simp only [Sta.cut]; rw [List.length_take]; omega
  · obtain ⟨b1, b2⟩ := back i o h1
    obtain ⟨u, hu, r⟩ := k.rel i o p b1 (backA i p h2)
    exact ⟨u, hu, ro_cut r (small i o b2)⟩
  · exact k.inj i j' o o' p (back i o h1).1 (back j' o' h2).1 (backA i p h3) (backA j' p h4)
  · exact ⟨(k.priv q hq).1, fun z => (k.priv q hq).2 (cut_trk z)⟩
  · have pre := st.al
    rw [List.prefix_iff_eq_take] at pre
    have hle : S.al.length ≤ h'.length := by rw [k0.len]; exact hl
    show S.al <+: S1.al.take h'.length
    rw [pre]
    exact List.take_prefix_take_left hle
theorem Clean.post {h : AH} {r q : Res T} {X : Exc → Sta → Prop} {P : T → Sta → Prop} {E' : XK} {Q : VK} (k0 : Ok S) (eh : S.h = h) (c : Clean lt h r q) (p : PostG S (XP E') (fun t S' => ∀ v, Rv S' t v → Q v S'.H) q) : PostG S (XP E') (fun t S' => ∀ v, Rv S' t v → Q v S'.H) r := by
  subst eh
  cases q with
  | bad => exact p.elim
  | ok a h' =>
    obtain ⟨j, rfl, hl, ha, ho⟩ := c
    intro S1 e k st v rv
    obtain ⟨e2, k2, st2⟩ := cut_ok k0 k st e hl ho
    exact p (S1.cut h'.length) e2 k2 st2 v (rv_cut rv ha)
  | exc x h' =>
    obtain ⟨j, rfl, hl, ha, ho⟩ := c
    intro S1 e k st cls d rx
    obtain ⟨e2, k2, st2⟩ := cut_ok k0 k st e hl ho
    refine p (S1.cut h'.length) e2 k2 st2 cls d ?_
    obtain ⟨r1, r2⟩ := rx
    refine ⟨r1, r2.imp id fun ⟨a, vs, h1, h2, h3, h4⟩ => ⟨a, vs, h1, cut_fz h2, h3, rvL_cut h4 ha⟩⟩
/-- a def's promise by a cleaner mirror -/
theorem sp_clean {n : Nat} {m p : List T → AH → Res T} (hc : ∀ ts h, ts.length = n → Clean lt h (m ts h) (p ts h)) : ∀ vs H Q E, spM G n p vs H Q E → spM G n m vs H Q E := fun vs H Q E h => by
  obtain ⟨S, ts, e, k, rfl, rl, hn, q⟩ := h
  exact ⟨S, ts, e, k, rfl, rl, hn, Clean.post (P := fun _ _ => True) (X := fun _ _ => True) k rfl (hc ts S.h hn) q⟩
/-! the law's end -/
def FUEL : Nat := 1000000
def spLaw (K : PySem.W.Frag) : Sp := fun vs H Q _ => ∃ (a : Addr) (ns : List Int), vs = [.ref a] ∧ SqL K H a (ns.map V.int) ∧ ns.length ≤ 63 ∧ ∀ H', Q (.bl true) H'
theorem RvL.ofInts {S : Sta} : ∀ ns : List Int, RvL S (ns.map T.int) (ns.map V.int)
  | [] => RvL.nil
  | n :: ns => RvL.cons (by simp only [Rv]) (RvL.ofInts ns)
theorem law_end {P : Program} {w : World} {K : PySem.W.Frag} {mg : Str → Option Value} {k : Nat} {fa0 : Addr} {ps : List Str} {m : List T → AH → Res T} {R : FuncData → Prop} (ht : ∀ ns : List Int, ns.length ≤ 63 → ∃ h', m [.rdl (ns.map .int)] [] = .ok (.bl true) h')
    (h : ∃ fd : FuncData, R fd ∧ ∃ G : Env, G.K = K ∧ ∀ base : Heap, K.In base → base.Ns mainGlobals mg → FnOk P w K mg base CX0 k fa0 fd ps (spM G 1 m)) :
    ∃ fd : FuncData, R fd ∧ ∀ base : Heap, K.In base → base.Ns mainGlobals mg → FnOk P w K mg base CX0 k fa0 fd ps (spLaw K) := by
  obtain ⟨fd, r, G, rfl, h⟩ := h
  refine ⟨fd, r, fun base a b => FnOk.imp (h base a b) fun vs H Q E q => ?_⟩
  obtain ⟨p, ns, rfl, hs, hl, q⟩ := q
  obtain ⟨h', hm⟩ := ht ns hl
  refine ⟨⟨G, [], [], H, []⟩, [.rdl (ns.map .int)], rfl, ⟨rfl, fun i o p h1 => by simp at h1, fun i j o o' p h1 => by simp at h1, fun q hq => by simp at hq⟩, rfl, RvL.cons ?_ RvL.nil, rfl, ?_⟩
  · simp only [Rv]
    have no : ¬ Own (⟨G, [], [], H, []⟩ : Sta) p := fun z => by
      rcases z with ⟨i, o, h1, _⟩ | z
      · simp at h1
      · simp at z
    refine ⟨p, _, rfl, ?_, RvL.ofInts ns⟩
    rcases hs with (hs | ⟨ob, hs⟩) | hs
    · exact .inr (.inl ⟨hs, no⟩)
    · exact .inl ⟨ob, hs, no⟩
    · exact .inr (.inr hs)
  · rw [hm]
    intro S' e k st v rv
    simp only [Rv] at rv
    subst rv
    exact q _
end M
/-! ### loops, step by step -/
namespace M
open PySem PySem.Spec PyProof.Rows L2
section
variable {f : FT} {b : FS} {n : Nat} {τ τ' : LS} {h h1 h2 : AH} {t : T} {e : Exc}
theorem while_nx (hc : f τ h = .ok true h1) (hb : b τ h1 = .ok (.nx τ') h2) : sWhile f b (n + 1) τ h = sWhile f b n τ' h2 := by
  show liftE (f τ h) τ _ = _
  rw [hc]
  show (b τ h1).bind _ = _
  rw [hb]; rfl
theorem while_ct (hc : f τ h = .ok true h1) (hb : b τ h1 = .ok (.ct τ') h2) : sWhile f b (n + 1) τ h = sWhile f b n τ' h2 := by
  show liftE (f τ h) τ _ = _
  rw [hc]
  show (b τ h1).bind _ = _
  rw [hb]; rfl
theorem while_rt (hc : f τ h = .ok true h1) (hb : b τ h1 = .ok (.rt t) h2) : sWhile f b (n + 1) τ h = .ok (.rt t) h2 := by
  show liftE (f τ h) τ _ = _
  rw [hc]
  show (b τ h1).bind _ = _
  rw [hb]; rfl
theorem while_bk (hc : f τ h = .ok true h1) (hb : b τ h1 = .ok (.bk τ') h2) : sWhile f b (n + 1) τ h = .ok (.nx τ') h2 := by
  show liftE (f τ h) τ _ = _
  rw [hc]
  show (b τ h1).bind _ = _
  rw [hb]; rfl
theorem while_end (hc : f τ h = .ok false h1) : sWhile f b (n + 1) τ h = .ok (.nx τ) h1 := by
  show liftE (f τ h) τ _ = _
  rw [hc]; rfl
variable {a : FG} {x : T} {xs : List T} {τ1 : LS}
theorem for_nil : sForL a b [] τ h = .ok (.nx τ) h := rfl
theorem for_cons (ha : a x τ = some τ1) : sForL a b (x :: xs) τ h = (b τ1 h).bind fun fl h1 => match fl with
      | .nx τ2 => sForL a b xs τ2 h1
      | .ct τ2 => sForL a b xs τ2 h1
      | .bk τ2 => .ok (.nx τ2) h1
      | fl => .ok fl h1 := by
  show (match a x τ with | some τ' => _ | none => _) = _
  rw [ha] <;> rfl
theorem for_nx (ha : a x τ = some τ1) (hb : b τ1 h = .ok (.nx τ') h1) : sForL a b (x :: xs) τ h = sForL a b xs τ' h1 := by
  rw [for_cons ha, hb]; rfl
theorem for_ct (ha : a x τ = some τ1) (hb : b τ1 h = .ok (.ct τ') h1) : sForL a b (x :: xs) τ h = sForL a b xs τ' h1 := by
  rw [for_cons ha, hb]; rfl
theorem for_rt (ha : a x τ = some τ1) (hb : b τ1 h = .ok (.rt t) h1) : sForL a b (x :: xs) τ h = .ok (.rt t) h1 := by
  rw [for_cons ha, hb]; rfl
theorem for_bk (ha : a x τ = some τ1) (hb : b τ1 h = .ok (.bk τ') h1) : sForL a b (x :: xs) τ h = .ok (.nx τ') h1 := by
  rw [for_cons ha, hb]; rfl
/-- a for whose turns keep Pv -/
theorem for_all {l : List T} (Pv : List T → LS → AH → Prop) (h0 : Pv l τ h) (hs : ∀ x xs τ h, Pv (x :: xs) τ h → ∃ τ1 τ' h', a x τ = some τ1 ∧ (b τ1 h = .ok (.nx τ') h' ∨ b τ1 h = .ok (.ct τ') h') ∧ Pv xs τ' h') : ∃ τ' h', sForL a b l τ h = .ok (.nx τ') h' ∧ Pv [] τ' h' := by
  induction l generalizing τ h with
  | nil => exact ⟨τ, h, rfl, h0⟩
  | cons x xs ih =>
    obtain ⟨τ1, τ', h', ha, hb, hP⟩ := hs x xs τ h h0
    obtain ⟨τ2, h2, e, q⟩ := ih hP
    refine ⟨τ2, h2, ?_, q⟩
    rw [← e]
    rcases hb with hb | hb
    · exact for_nx ha hb
    · exact for_ct ha hb
end
end M
/-! ### what is never reached, stars, reversed, dict displays -/
namespace M
open PySem PySem.Spec PyProof.Rows L2
variable {G : Env} {E : L2.St → XK} {S : Sta} {W : WX}
/-! what the mirror never reaches -/
theorem ps_nev {X : Cx} {st : Stmt} : PS X st (fun _ _ _ => False) := ⟨fun _ _ _ _ _ _ h => h.elim⟩
theorem pe_nev {X : Cx} {e : Expr} : PE X e (fun _ _ _ => False) := ⟨fun _ _ _ _ _ _ h => h.elim⟩
theorem pt_nev {X : Cx} {e : Expr} : PT X e (fun _ _ _ => False) := ⟨fun _ _ _ _ _ _ h => h.elim⟩
@[simp] def mBad : FE := fun _ _ => .bad
@[simp] def tBad : FT := fun _ _ => .bad
@[simp] def sBad : FS := fun _ _ => .bad
theorem sim_bad {te : TE} : SimE G E te mBad := fun _ _ _ _ _ _ _ p => p.elim
theorem sim_badT {te : TT} : SimT G E te tBad := fun _ _ _ _ _ _ _ p => p.elim
theorem sim_badS {te : TS} : SimS G W te sBad := fun _ _ _ _ _ _ _ p => p.elim
/-! [*xs, ..] -/
@[simp] def mStar (fe : FE) (fr : FA) : FA := fun τ h => (fe τ h).bind fun x h1 => (pur (seqOf x h1) h1).bind fun l h1 => (fr τ h1).bind fun ys h2 => .ok (l ++ ys) h2
theorem x_star {X : Cx} {K : PySem.W.Frag} (h : X.K = K) {e : Expr} {es : List Expr} {te : TE} {t : TA} {p : Pos} (he : PE X e te) (hr : PA X es t) (hs : starEach (.Starred e p :: es) X.env = (true, eval e X.env) :: starEach es X.env := by rfl) : PA X (.Starred e p :: es) (StX.tStar K te t) := h ▸ StX.pa_star he hr hs
theorem sim_star {te : TE} {fe : FE} {tr : TA} {fr : FA} (ha : SimE G E te fe) (hb : SimA G E tr fr) : SimA G E (StX.tStar G.K te tr) (mStar fe fr) := fun S σ τ Q e k rs p => by
  refine ha S σ τ _ e k rs (PostG.imp (fun x S1 q u ru => ?_) (PostG.bind p))
  obtain ⟨k1, s1, q⟩ := q
  unfold pur at q
  split at q
  · rename_i l hl
    obtain ⟨a, vs, rfl, hs, rl⟩ := seqOf_ok k1 hl ru
    rw [s1.G.trans e] at hs
    refine ⟨a, vs, rfl, hs.symm, ?_⟩
    refine hb S1 σ τ _ (s1.G.trans e) k1 (rs.mono s1) (PostG.imp (fun y S2 q v rv => ?_) (PostG.bind q))
    obtain ⟨k2, s2, q⟩ := q
    exact q S2 rfl k2 (Step.refl S2) _ ((rl.mono s2).app rv)
  · exact q.elim
/-! reversed -/
theorem rev_get {l : List T} {i : Nat} {x : T} (h : l.reverse[i]? = some x) : i < l.length ∧ l[l.length - 1 - i]? = some x := by
  have hl := (List.getElem?_eq_some_iff.mp h).1
  rw [List.length_reverse] at hl
  rw [List.getElem?_reverse hl] at h
  exact ⟨hl, h⟩
@[simp] def iRevM (fe : FE) : FA := fun τ h => (fe τ h).bind fun x h1 => match x with
  | .lst l => .ok l.reverse h1
  | x => match tupOf x with | some l => .ok l.reverse h1 | none => .bad
theorem x_rev {X : Cx} {K : PySem.W.Frag} (h : X.K = K) {tg e : Expr} {te : TE} {p pos : Pos} (hg : Gl X "reversed") (hm : X.mg "reversed" = none) (he : PE X e te) (hs : starEach [e] X.env = (false, eval e X.env) :: starEach [] X.env := by rfl) : PI X tg (.Call (.Name "reversed" p) [e] [] pos) (RT.iRevA K te) := h ▸ RT.pi_revA hg hm he hs
theorem sim_rev {te : TE} {fe : FE} (he : SimE G E te fe) : SimI G E (RT.iRevA G.K te) (iRevM fe) := fun S σ τ R e k rs p => by
  refine he S σ τ _ e k rs (PostG.imp (fun x S1 q u ru => ?_) (PostG.bind p))
  obtain ⟨k1, s1, q⟩ := q
  have e1 := s1.G.trans e
  split at q
  · rename_i l
    simp only [Rv] at ru
    obtain ⟨p, vs, rfl, f, rl⟩ := ru
    refine ⟨p, vs, rfl, .inl ⟨by rw [← e1]; exact sql_of f, q S1 rfl k1 (Step.refl S1) _ fun S2 st k i => ?_⟩⟩
    have hs : SqL G.K S2.H p vs := by rw [← e1, ← st.G]; exact sql_of (st.fz _ _ f)
    refine ⟨fun t ht => ?_, fun h => by rw [List.length_reverse] at h; show vs.length ≤ i; rw [rl.len]; exact h⟩
    obtain ⟨hi, ht⟩ := rev_get ht
    obtain ⟨v, hv, rv⟩ := (rl.tr st).get ht
    rw [← rl.len] at hv hi
    refine ⟨⟨hi, vs, v, hs, hv⟩, fun w H' hy => ?_⟩
    obtain ⟨rfl, hy⟩ := hy
    have := hy vs hs
    rw [hv] at this; cases this
    exact ⟨S2, rfl, rfl, k, Step.refl S2, rv⟩
  · split at q
    · rename_i l hl
      obtain ⟨p, vs, rfl, hs, rl⟩ := tup_stay e1 hl ru
      refine ⟨p, vs, rfl, .inr ⟨hs S1 (Tr.refl S1), q S1 rfl k1 (Step.refl S1) _ fun S2 st k i => ?_⟩⟩
      have hs := hs S2 st
      refine ⟨fun t ht => ?_, fun h => by rw [List.length_reverse] at h; show vs.length ≤ i; rw [rl.len]; exact h⟩
      obtain ⟨hi, ht⟩ := rev_get ht
      obtain ⟨v, hv, rv⟩ := (rl.tr st).get ht
      rw [← rl.len] at hv hi
      refine ⟨⟨hi, vs, v, hs, hv⟩, fun w H' hy => ?_⟩
      obtain ⟨rfl, hy⟩ := hy
      have := hy vs hs
      rw [hv] at this; cases this
      exact ⟨S2, rfl, rfl, k, Step.refl S2, rv⟩
    · exact q.elim
/-! {k: v, ..} -/
def mPairs : List (FE × FE) → LS → AH → Res (List (Key × T))
  | [], _, h => .ok [] h
  | (fk, fv) :: r, τ, h => (fk τ h).bind fun x h1 => (fv τ h1).bind fun y h2 => match keyOf x with
    | some k => (mPairs r τ h2).bind fun ps h3 => .ok ((k, y) :: ps) h3
    | none => .bad
def mergeT (m more : List (Key × T)) : List (Key × T) := more.foldl (fun acc kv => putT acc kv.1 kv.2) m
theorem RvK.merge : ∀ {more : List (Key × T)} {ws : List (Key × V)} {m : List (Key × T)} {vs : List (Key × V)}, RvK S more ws → RvK S m vs → RvK S (mergeT m more) (mergeK vs ws)
  | [], ws, m, vs, r, q => by rw [show ws = [] from r]; exact q
  | (k, t) :: more, ws, m, vs, r, q => by
    obtain ⟨v, m', rfl, h1, h2⟩ := r
    exact RvK.merge (more := more) (ws := m') (m := putT m k t) h2 (q.put k h1)
inductive SimP (G : Env) (E : L2.St → XK) : List (TE × TE) → List (FE × FE) → Prop
  | nil : SimP G E [] []
  | cons {tk tv : TE} {fk fv : FE} {tr : List (TE × TE)} {fr : List (FE × FE)} : SimE G E tk fk → SimE G E tv fv → SimP G E tr fr → SimP G E ((tk, tv) :: tr) ((fk, fv) :: fr)
theorem pairs_ok {tr : List (TE × TE)} {fr : List (FE × FE)} (hp : SimP G E tr fr) : ∀ (S : Sta) (σ : L2.St) (τ : LS) (Q : List (V × V) → Hp → Prop), S.G = G → Ok S → RS S τ σ →
    PostG S (XP (E σ)) (fun m S' => ∀ ws, RvK S' m ws → Q (ws.map fun kv => (kV kv.1, kv.2)) S'.H) (mPairs fr τ S.h) → tPairs tr σ S.H Q := by
  induction hp with
  | nil => exact fun S σ τ Q e k rs p => p S rfl k (Step.refl S) [] rfl
  | cons hk hv hr ih =>
    intro S σ τ Q e k rs p
    refine hk S σ τ _ e k rs (PostG.imp (fun x S1 q u ru => ?_) (PostG.bind p))
    obtain ⟨k1, s1, q⟩ := q
    refine hv S1 σ τ _ (s1.G.trans e) k1 (rs.mono s1) (PostG.imp (fun y S2 q v rv => ?_) (PostG.bind q))
    obtain ⟨k2, s2, q⟩ := q
    split at q
    · rename_i ky hky
      refine ih S2 σ τ _ (s2.G.trans (s1.G.trans e)) k2 (rs.mono (s1.trans s2)) (PostG.imp (fun ps S3 q ws rw' => ?_) (PostG.bind q))
      obtain ⟨k3, s3, q⟩ := q
      have := q S3 rfl k3 (Step.refl S3) ((ky, v) :: ws) ⟨v, ws, rfl, rv.mono s3, rw'⟩
      rw [keyOf_ok ru hky]
      exact this
    · exact q.elim
/-- {k: v, ..}: a tree, or a dict that will change -/
@[simp] def mDisp (fr : List (FE × FE)) : FE := fun τ h => (mPairs fr τ h).bind fun ps h1 => if ps.length ≤ 15 then .ok (.dct ((mergeT [] ps).map (·.1)) ((mergeT [] ps).map (·.2))) h1 else .bad
@[simp] def mDispO (fr : List (FE × FE)) : FE := fun τ h => (mPairs fr τ h).bind fun ps h1 => if ps.length ≤ 15 then .ok (.obj h1.length) (h1 ++ [some (.dct (mergeT [] ps))]) else .bad
theorem rv_dct {p : Addr} {m : List (Key × T)} {vs : List (Key × V)} (f : Fz S p (.dK vs)) (r : RvK S m vs) : Rv S (.dct (m.map (·.1)) (m.map (·.2))) (.ref p) := by
  obtain ⟨ws, rfl, rl⟩ := r.unzip
  simp only [Rv]
  exact ⟨p, ws, rfl, f, by rw [List.length_map, List.length_map], rl⟩
theorem disp_all {tr : List (TE × TE)} {fr : List (FE × FE)} (hp : SimP G ET tr fr) (S : Sta) (σ : L2.St) (τ : LS) (Q : VK) (e : S.G = G) (k : Ok S) (rs : RS S τ σ) (fin : List (Key × T) → AH → Res T)
    (p : PostG S (fun _ _ => True) (fun t S' => ∀ v, Rv S' t v → Q v S'.H) ((mPairs fr τ S.h).bind fun ps h1 => if ps.length ≤ 15 then fin (mergeT [] ps) h1 else .bad))
    (hfin : ∀ (S0 S : Sta) (m : List (Key × T)) (ws : List (Key × V)) (D : Addr), S0.G = G → Ok S0 → Ok S → Priv S0 S D → S.H D = some (.dK ws) → RvK S m ws → PostG S0 (fun _ _ => True) (fun t S' => ∀ v, Rv S' t v → Q v S'.H) (fin m S.h) → Q (.ref D) S.H) : tDisp tr σ S.H Q := by
  intro D hD
  have k1 := ok_hide (u := .dK []) k hD
  have x1 := Priv.start (u := .dK []) k hD
  refine pairs_ok hp (S.hide D (upd S.H D (.dK []))) σ τ _ e k1 (RS.tr x1.tr rs) (PostG.exc (fun _ _ _ _ _ _ => trivial) (PostG.imp (fun ps S2 q ws rw' => ?_) (Pnd.post (S := S.hide D (upd S.H D (.dK []))) (PostG.pnd (S := S) p))))
  obtain ⟨k2, s2, q⟩ := q
  have x2 := x1.step k k1 k2 s2
  have hD2 : S2.H D = some (.dK []) := (s2.pk D List.mem_cons_self).trans upd_same
  split at q
  · rename_i h15
    refine ⟨hD2, ws, rfl, by rw [rw'.len]; exact h15, ?_⟩
    have hm : D ∈ S2.pv := by rw [x2.pv]; exact List.mem_cons_self
    have k3 := ok_fill (u := .dK (mergeK [] ws)) k2 hm
    have x3 := x2.fill (u := .dK (mergeK [] ws)) k
    exact hfin S (S2.fill (upd S2.H D (.dK (mergeK [] ws)))) (mergeT [] ps) _ D e k k3 x3 upd_same ((RvK.merge (m := []) (vs := []) rw' rfl).tr (tr_fill hm)) q
  · exact q.elim
theorem sim_disp {tr : List (TE × TE)} {fr : List (FE × FE)} (hp : SimP G ET tr fr) : SimE G E (tDisp tr) (mDisp fr) := fun S σ τ Q e k rs p => by
  refine disp_all hp S σ τ Q e k rs (fun m h1 => .ok (.dct (m.map (·.1)) (m.map (·.2))) h1) (PostG.exc (fun _ _ _ => trivial) p) fun S0 S m ws D _ k0 k x hD r q => ?_
  have e := x.pv
  exact q (S.show S0.pv) rfl (ok_show k e) x.st _ (rv_dct ⟨hD, x.nown k0 k⟩ (r.tr (tr_show e)))
theorem sim_dispO {tr : List (TE × TE)} {fr : List (FE × FE)} (hp : SimP G ET tr fr) : SimE G E (tDisp tr) (mDispO fr) := fun S σ τ Q e k rs p => by
  refine disp_all hp S σ τ Q e k rs (fun m h1 => .ok (.obj h1.length) (h1 ++ [some (.dct m)])) (PostG.exc (fun _ _ _ => trivial) p) fun S0 S m ws D _ k0 k x hD r q => ?_
  obtain ⟨k', st⟩ := x.adopt (o := .dct m) k0 k hD ⟨_, rfl, r⟩
  exact q (S.adopt S0.pv D _) rfl k' st _ (by simp only [Rv]; exact ⟨D, by simp [Sta.adopt, k.len], rfl⟩)
end M
/-! ### bits put into a word -/
namespace M
open PySem PySem.Spec PyProof.Rows L2 PySem.W
theorem band_zero : ∀ y : Int, Builtin.bitAnd 0 y = 0 := fun y => by
  rw [bitAnd_comm]
  have := kbt_mask y 0
  simpa using this
theorem kb0 (x y : Int) : ((if x % 2 = 1 ∧ y % 2 = 1 then 1 else 0 : Int) = 0 ∧ ¬ (x % 2 = 1 ∧ y % 2 = 1)) ∨ ((if x % 2 = 1 ∧ y % 2 = 1 then 1 else 0 : Int) = 1 ∧ x % 2 = 1 ∧ y % 2 = 1) := by
  split
  · rename_i h; exact .inr ⟨rfl, h⟩
  · rename_i h; exact .inl ⟨rfl, h⟩
theorem p2s (k : Nat) : (2 : Int) ^ (k + 1) = 2 * 2 ^ k := Int.pow_succ' _ _
theorem band_not_n (y : Int) : ∀ (n : Nat) (w y : Int), 0 ≤ w → w < n → Builtin.bitAnd w (-y - 1) + Builtin.bitAnd w y = w := by
  intro n
  induction n with
  | zero => intro w y h1 h2; omega
  | succ n ih =>
    intro w y h1 h2
    by_cases z : w = 0
    · subst z; rw [band_zero, band_zero]; rfl
    · have a := kbt_halves w (-y - 1)
      have b := kbt_halves w y
      have c := ih (w / 2) (y / 2) (by omega) (by omega)
      have e : (-y - 1) / 2 = -(y / 2) - 1 := by omega
      rw [e] at a
      rcases kb0 w (-y - 1) with ⟨q, q'⟩ | ⟨q, q'⟩ <;> rcases kb0 w y with ⟨r, r'⟩ | ⟨r, r'⟩ <;> rw [q] at a <;> rw [r] at b <;> omega
theorem band_not {w y : Int} (h : 0 ≤ w) : Builtin.bitAnd w (Builtin.bitNot y) = w - Builtin.bitAnd w y := by
  have := band_not_n y (w.toNat + 1) w y h (by omega)
  rw [kbt_not]; omega
theorem band_sh : ∀ (k : Nat) (x y : Int), Builtin.bitAnd x (y * 2 ^ k) = Builtin.bitAnd (x / 2 ^ k) y * 2 ^ k
  | 0, x, y => by simp
  | k + 1, x, y => by
    have a := kbt_halves x (y * 2 ^ (k + 1))
    have e1 : y * 2 ^ (k + 1) = 2 * (y * 2 ^ k) := by rw [p2s, Int.mul_left_comm]
    have e2 : y * 2 ^ (k + 1) / 2 = y * 2 ^ k := by rw [e1]; omega
    have e3 : y * 2 ^ (k + 1) % 2 = 0 := by rw [e1]; omega
    have e4 : x / 2 ^ (k + 1) = x / 2 / 2 ^ k := by rw [p2s, Int.ediv_ediv_of_nonneg (by decide)]
    have e5 : Builtin.bitAnd (x / 2 / 2 ^ k) y * 2 ^ (k + 1) = 2 * (Builtin.bitAnd (x / 2 / 2 ^ k) y * 2 ^ k) := by rw [p2s, Int.mul_left_comm]
    rw [e2, e3, band_sh k (x / 2) y] at a
    rw [a, e4, e5]
    have : ¬ (x % 2 = 1 ∧ (0 : Int) = 1) := by omega
    rw [if_neg this]; omega
theorem band_lo : ∀ (k : Nat) (x y : Int), x % 2 ^ k = 0 → 0 ≤ y → y < 2 ^ k → Builtin.bitAnd x y = 0
  | 0, x, y, _, h1, h2 => by
    have : y = 0 := by simp at h2; omega
    subst this; rw [bitAnd_comm, band_zero]
  | k + 1, x, y, h0, h1, h2 => by
    have a := kbt_halves x y
    have hp := kbt_pos k
    rw [p2s] at h0 h2
    have hx : x % 2 = 0 := by
      have := Int.emod_emod_of_dvd x (Int.dvd_mul_right 2 (2 ^ k)); rw [h0] at this; omega
    have hx2 : x / 2 % 2 ^ k = 0 := by
      have d : 2 * 2 ^ k ∣ x := Int.dvd_of_emod_eq_zero h0
      obtain ⟨c, rfl⟩ := d
      rw [Int.mul_assoc, Int.mul_ediv_cancel_left _ (by decide)]
      exact Int.mul_emod_right _ _
    rw [band_lo k (x / 2) (y / 2) hx2 (by omega) (by omega)] at a
    have : ¬ (x % 2 = 1 ∧ y % 2 = 1) := by omega
    rw [if_neg this] at a; omega
/-- a field that is empty takes a number's bits -/
theorem setf {w x : Int} {many pos : Nat} (h : 0 ≤ w) (hz : w / 2 ^ pos % 2 ^ many = 0) : Builtin.bitOr (Builtin.bitAnd w (Builtin.bitNot ((2 ^ many - 1) * 2 ^ pos))) (Builtin.bitAnd x (2 ^ many - 1) * 2 ^ pos) = w + x % 2 ^ many * 2 ^ pos := by
  have hm := kbt_pos many
  rw [band_not h, band_sh, kbt_mask, kbt_mask, hz, Int.zero_mul, Int.sub_zero, bitOr_and, band_sh, band_lo many _ _ hz (Int.emod_nonneg _ (by omega)) (Int.emod_lt_of_pos _ hm)]
  omega
/-- bits put beside -/
theorem bor_add {w x : Int} {pos : Nat} (h : 0 ≤ w) (hw : w < 2 ^ pos) : Builtin.bitOr w (x * 2 ^ pos) = w + x * 2 ^ pos := by
  have e : w / 2 ^ pos = 0 := Int.ediv_eq_zero_of_lt h hw
  rw [bitOr_and, band_sh, e, band_zero]; omega
/-! letting go of plain lists -/
@[simp] def isObj : T → Bool | .obj _ => true | _ => false
theorem frz_no {n : Nat} {h : AH} {t : T} (ht : isObj t = false) : frz n h t = (t, h) := by
  cases n with
  | zero => rfl
  | succ n => cases t <;> first | rfl | cases ht
theorem frzL_no {n : Nat} {h : AH} : ∀ {l : List T}, (∀ t ∈ l, isObj t = false) → frzL (frz n) h l = (l, h)
  | [], _ => rfl
  | t :: ts, hl => by
    have e := frz_no (n := n) (h := h) (hl t List.mem_cons_self)
    have r := frzL_no (n := n) (h := h) (l := ts) fun t ht => hl t (List.mem_cons_of_mem _ ht)
    unfold frzL
    rw [e]
    dsimp only
    rw [r]
theorem frz_lst {h : AH} {i : Nat} {l : List T} (hi : h[i]? = some (some (.lst l))) (hl : ∀ t ∈ l, isObj t = false) : frz 8 h (.obj i) = (.lst l, h.set i none) := by
  show frz (7 + 1) h (.obj i) = _
  unfold frz
  dsimp only
  rw [hi]
  dsimp only
  rw [frzL_no hl]
/-- a for that appends -/
theorem for_app {α : Type} {b : FS} {a : FG} {g enc : α → T} {τ0 : Option T → LS} {p : Nat} (hb : ∀ (x : α) (l : List T) (h : AH), h[p]? = some (some (.lst l)) → l.length < sizeLine → b (τ0 (some (enc x))) h = .ok (.nx (τ0 (some (enc x)))) (h.set p (some (.lst (l ++ [g x])))))
    (ha : ∀ x v, a x (τ0 v) = some (τ0 (some x))) : ∀ (xs : List α) (v : Option T) (l : List T) (h : AH), h[p]? = some (some (.lst l)) → l.length + xs.length ≤ sizeLine → ∃ v', sForL a b (xs.map enc) (τ0 v) h = .ok (.nx (τ0 v')) (h.set p (some (.lst (l ++ xs.map g))))
  | [], v, l, h, hp, _ => ⟨v, by
    have : h.set p (some (.lst l)) = h := by
      apply List.ext_getElem?
      intro j
      by_cases z : p = j
      · subst z; rw [List.getElem?_set_self (List.getElem?_eq_some_iff.mp hp).1, hp]
      · rw [List.getElem?_set_ne z]
    rw [List.map_nil, List.map_nil, List.append_nil, this]; rfl⟩
  | x :: xs, v, l, h, hp, hn => by
    rw [List.length_cons] at hn
    obtain ⟨v', e⟩ := for_app hb ha xs (some (enc x)) (l ++ [g x]) (h.set p (some (.lst (l ++ [g x])))) (List.getElem?_set_self (List.getElem?_eq_some_iff.mp hp).1) (by rw [List.length_append, List.length_singleton]; omega)
    refine ⟨v', ?_⟩
    rw [List.map_cons, for_nx (ha _ _) (hb x l h hp (by omega)), e, List.set_set, List.append_assoc]
    rfl
theorem get_new {h : AH} {o : Option O} : (h ++ [o])[h.length]? = some o := by simp
theorem set_new {h : AH} {o o' : Option O} : (h ++ [o]).set h.length o' = h ++ [o'] := by simp
/-! texts of the program are compared as texts of Lean -/
theorem map_inj {α β : Type} {f : α → β} (hf : ∀ a b, f a = f b → a = b) : ∀ {l m : List α}, l.map f = m.map f → l = m
  | [], [], _ => rfl
  | [], _ :: _, h => by cases h
  | _ :: _, [], h => by cases h
  | a :: l, b :: m, h => by
    simp only [List.map_cons, List.cons.injEq] at h
    rw [hf a b h.1, map_inj hf h.2]
@[simp] theorem str_inj {a b : String} : Str.ofString a = Str.ofString b ↔ a = b := ⟨fun h => by
  rw [Str.ofString_eq_toList, Str.ofString_eq_toList] at h
  have h : (a.toList.map Char.toNat).toArray = (b.toList.map Char.toNat).toArray := congrArg Str.cps h
  have h := congrArg Array.toList h
  simp only [List.toList_toArray] at h
  have := map_inj (fun x y e => Char.ext (UInt32.toNat_inj.mp e)) h
  rw [← String.ofList_toList (s := a), this, String.ofList_toList], fun h => by rw [h]⟩
end M
/-! ### for k, v in D.items(), D a dict of the module -/
namespace M
open PySem PySem.Spec PyProof.Rows L2 PySem.W
/-- the items of a dict of the module, in their order -/
def ItiK (kvs : List (V × V)) : It :=
  ⟨fun i _ => i < kvs.length, fun i H x H' => ∃ (T : Addr) (k v : V), kvs[i]? = some (k, v) ∧ x = .ref T ∧ H T = none ∧ H' = upd H T (.tup [k, v]), fun i _ => kvs.length ≤ i⟩
def EsRel (es : Array DictEntry) (kvs : List (V × V)) : Prop := es.size = kvs.length ∧ ∀ (i : Nat) (hi : i < es.size) (k v : V), kvs[i]? = some (k, v) → RelV k es[i].key ∧ RelV v es[i].val
def KItems (K : PySem.W.Frag) (d : Addr) (kvs : List (V × V)) : Prop := ∃ es n, K.lookup d = some ⟨.type "dict", none, .dict es n, #[]⟩ ∧ (d == sysModules) = false ∧ EsRel es kvs
def iItemsK (K : PySem.W.Frag) (td : TE) : TI := fun σ H R => td σ H fun x H1 => ∃ d kvs, x = .ref d ∧ KItems K d kvs ∧ R (ItiK kvs) H1
theorem turn_itemsK {P : Program} {w : World} {K : PySem.W.Frag} {d : Addr} {es : Array DictEntry} {n : Nat} {elts : List Expr} {kk : Nat} {tpos : Pos} (hl : K.lookup d = some ⟨.type "dict", none, .dict es n, #[]⟩) {kvs : List (V × V)} (hv : EsRel es kvs) (it : Addr) :
    Turn P w K (.Tuple elts kk tpos) (ItiK kvs) [it] it (fun i h => ∃ ok ov, IsItemIter h it d i es.size n ok ov) where
  mem := by simp
  obj := fun i h st b hb => by
    have e : b = it := by simpa using hb
    subst e
    obtain ⟨ok, ov, e⟩ := st
    exact ⟨_, e, fun v z => nomatch z⟩
  keep := fun i h h' st k => let ⟨ok, ov, e⟩ := st; ⟨ok, ov, k it (by simp) _ e⟩
  item := by
    intro X hP hw hK hc i pins s σ H E I hf st hg
    subst hP hw hK
    have hi' : i < kvs.length := hg
    have hi : i < es.size := by rw [hv.1]; exact hi'
    obtain ⟨⟨k, v⟩, hkv⟩ : ∃ p, kvs[i]? = some p := ⟨kvs[i], List.getElem?_eq_getElem hi'⟩
    obtain ⟨rk, rv⟩ := hv.2 i hi k v hkv
    obtain ⟨ok, ov, he⟩ := st
    have hlt : it < s.heap.objs.size := Heap.lt_size he
    have hm : s.heap.DictRaw d es n := ⟨_, I.kIn _ _ hl, ⟨rfl, rfl, rfl⟩, rfl⟩
    refine wpAny_pyNext_items_item_raw he hm hi fun h' ho hT hz hk => ?_
    refine ⟨_, rfl, wpAny_letOwnedTupleGo_items (s := { s with heap := h' }) ho fun h'' he' sb => ?_⟩
    have hT2 : h''.get? s.heap.objs.size = some { cls := .type "tuple", data := .seq #[es[i].key, es[i].val] } := (sb.2 _ (Nat.ne_of_gt hlt)).trans hT
    have new : ObjOk X.prog X.w (upd H s.heap.objs.size (.tup [k, v])) h'' s.heap.objs.size (.tup [k, v]) :=
      ⟨by show 2 ≤ sizeLine; decide, [es[i].key, es[i].val], .cons rk (.cons rv .nil), ⟨_, hT2, rfl, _, rfl⟩⟩
    have I1 : Inv X pins σ (upd H s.heap.objs.size (.tup [k, v])) { s with heap := h'' } :=
      I.turnedNew (t' := s.toks) (ch := [it]) (fun b ob hb e => (sb.2 b (by simpa using hb)).trans (hk b ob (by simpa using hb) e)) hf (Nat.le_refl _) new
    refine ⟨.ref s.heap.objs.size, _, I1, rfl, ⟨_, k, v, hkv, rfl, I.hok.fresh (Nat.le_refl _), rfl⟩, ⟨es[i].key, es[i].val, he'⟩, fun b hb => ?_⟩
    have e : b = it := by simpa using hb
    rw [e, upd_ne (Nat.ne_of_lt hlt)]
    exact (hf it (by simp)).1
  done := by
    intro X hP hw hK hc i pins s σ H E I hf st hg
    subst hP hw hK
    obtain ⟨f0, f1, f2, f3, f4, f5⟩ := hf it (by simp)
    obtain ⟨ok, ov, he⟩ := st
    have hm : s.heap.DictRaw d es n := ⟨_, I.kIn _ _ hl, ⟨rfl, rfl, rfl⟩, rfl⟩
    exact wpAny_pyNext_items_end_raw (I.ok.hd hc) he hm (by rw [hv.1]; exact hg) fun h' eb => ⟨rfl, I.turned (t' := s.toks) (fun b ob hb e => eb b ob hb e) f0 f1 f3 f4 f5⟩
  self := fun A i s Q E st h => let ⟨_, _, e⟩ := st; PySem.W.kcp_self e h
theorem pi_itemsK {X : Cx} {e : Expr} {td : TE} {apos cpos : Pos} {elts : List Expr} {kk : Nat} {tpos : Pos} (he : PE X e td) (hbase : attributeBase e "items" X.env (eval e X.env) = eval e X.env := by rfl) (hline : (apos.endLine == cpos.line) = true := by rfl) :
    PI X (.Tuple elts kk tpos) (.Call (.Attribute e "items" apos) [] [] cpos) (iItemsK X.K td) := by
  refine ⟨fun pins s σ H R I h => ?_⟩
  refine wpAny_Call_method (T := "dict") (id := "dict.items") hbase rfl hline F.plainAttrs_dict F.slot_dict_items F.type_dict_items (thn (he.run pins s σ H _ I h) fun u s1 ⟨x, H1, I1, rx, d, kvs, ex, ⟨es, n, hl, hs, hv⟩, q⟩ => ?_)
  subst ex
  obtain rfl : u = Value.ref d := rx
  have hm : s1.heap.DictRaw d es n := ⟨_, I1.kIn _ _ hl, ⟨rfl, rfl, rfl⟩, rfl⟩
  have hT : s1.TypeIs (.ref d) "dict" := ⟨_, I1.kIn _ _ hl, rfl⟩
  refine ⟨hT, fun a ea => by cases ea; exact ⟨_, I1.kIn _ _ hl, rfl⟩, ?_⟩
  have I2 : Inv X pins σ H1 { s1 with heap := s1.heap.push { cls := .type "dict_items", data := .fields #[.ref d] } } := I1.kept (t' := s1.toks) fun b ob q => Heap.get?_push_of_some _ q
  have hm2 : ({ s1 with heap := s1.heap.push { cls := .type "dict_items", data := .fields #[.ref d] } } : Shared).heap.DictRaw d es n := ⟨_, I2.kIn _ _ hl, ⟨rfl, rfl, rfl⟩, rfl⟩
  have fin : wpAny (model X.prog X.w) X.A (pyIter (.ref s1.heap.objs.size)) (PIE X pins σ (.Tuple elts kk tpos) R) X.xe { s1 with heap := s1.heap.push { cls := .type "dict_items", data := .fields #[.ref d] } } := by
    refine wpAny_pyIter_items_raw (d := d) ⟨_, Heap.get?_push_size _ rfl, rfl, rfl⟩ hm2 (pi_one (tk := s1.toks) I2 _ (turn_itemsK hl hv _) ⟨.none, .none, ?_⟩ q)
    exact Heap.get?_push_size _ rfl
  show wpAny _ _ (callWith cpos (.builtin "dict.items") [.ref d] [] []) _ X.xe s1
  exact method_meetsIn F.slot_dict_items F.entry_dict_items rfl (PySem.evalArgs_none ⟨rfl, hT, F.args_dict_items_1 _, _, meets_dict_items_raw d hs, ⟨es, n, hm⟩, fin⟩)
variable {G : Env} {E : L2.St → XK} {S : Sta}
/-- all rows of a dict of the module, in their order -/
def KAll (G : Env) (d : Addr) (rows : List (Str × T)) : Prop := ∃ kvs, KItems G.K d kvs ∧ kvs.length = rows.length ∧ ∀ (i : Nat) (r : Str × T), rows[i]? = some r → ∃ v, kvs[i]? = some (.str r.1, v) ∧ ∀ S, S.G = G → Rv S r.2 v
@[simp] def iItmM (n : Str) (rows : List (Str × T)) (fe : FE) : FA := fun τ h => (fe τ h).bind fun x h1 => match x with | .ref m => if m = n then .ok (rows.map fun r => .tup [.str r.1, r.2]) h1 else .bad | _ => .bad
theorem sim_itemsK {n : Str} {d : Addr} {rows : List (Str × T)} {te : TE} {fe : FE} (hd : G.fa n = .ref d) (hk : KAll G d rows) (he : SimE G E te fe) : SimI G E (iItemsK G.K te) (iItmM n rows fe) := fun S σ τ R e k rs p => by
  refine he S σ τ _ e k rs (PostG.imp (fun x S1 q u ru => ?_) (PostG.bind p))
  obtain ⟨k1, s1, q⟩ := q
  have e1 := s1.G.trans e
  split at q
  · split at q
    · rename_i hm
      subst hm
      simp only [Rv] at ru
      rw [e1, hd] at ru
      subst ru
      obtain ⟨kvs, hki, hlen, hr⟩ := hk
      refine ⟨d, kvs, rfl, hki, q S1 rfl k1 (Step.refl S1) _ fun S2 st k i => ?_⟩
      have e2 : S2.G = G := st.G.trans e1
      refine ⟨fun t ht => ?_, fun h => by rw [List.length_map] at h; show kvs.length ≤ i; rw [hlen]; exact h⟩
      rw [List.getElem?_map] at ht
      obtain ⟨r, hri, rfl⟩ := Option.map_eq_some_iff.mp ht
      obtain ⟨v, hv, rv⟩ := hr i r hri
      refine ⟨(List.getElem?_eq_some_iff.mp hv).1, fun z H' hy => ?_⟩
      obtain ⟨T0, k', v', hkv, rfl, hn, rfl⟩ := hy
      rw [hv] at hkv; cases hkv
      exact new_pair k hn (by simp only [Rv]) (rv S2 e2)
    · exact q.elim
  · exact q.elim
def EsR : List DictEntry → List (V × V) → Prop
  | [], [] => True
  | e :: es, kv :: kvs => (RelV kv.1 e.key ∧ RelV kv.2 e.val) ∧ EsR es kvs
  | _, _ => False
def RwR (G : Env) : List (Str × T) → List (V × V) → Prop
  | [], [] => True
  | r :: rs, kv :: kvs => (kv.1 = .str r.1 ∧ ∀ S, S.G = G → Rv S r.2 kv.2) ∧ RwR G rs kvs
  | _, _ => False
theorem esR_get : ∀ {es : List DictEntry} {kvs : List (V × V)}, EsR es kvs → es.length = kvs.length ∧ ∀ (i : Nat) (e : DictEntry) (kv : V × V), es[i]? = some e → kvs[i]? = some kv → RelV kv.1 e.key ∧ RelV kv.2 e.val
  | [], [], _ => ⟨rfl, fun i e kv h _ => by cases h⟩
  | e :: es, kv :: kvs, h => by
    obtain ⟨h1, h2⟩ := h
    obtain ⟨l, r⟩ := esR_get h2
    refine ⟨by rw [List.length_cons, List.length_cons, l], fun i e' kv' he hk => ?_⟩
    cases i with
    | zero => cases he; cases hk; exact h1
    | succ i => exact r i e' kv' he hk
  | [], _ :: _, h => h.elim
  | _ :: _, [], h => h.elim
theorem rwR_get {G : Env} : ∀ {rs : List (Str × T)} {kvs : List (V × V)}, RwR G rs kvs → kvs.length = rs.length ∧ ∀ (i : Nat) (r : Str × T), rs[i]? = some r → ∃ v, kvs[i]? = some (.str r.1, v) ∧ ∀ S, S.G = G → Rv S r.2 v
  | [], [], _ => ⟨rfl, fun i r h => by cases h⟩
  | r :: rs, (k, v) :: kvs, h => by
    obtain ⟨⟨h0, h1⟩, h2⟩ := h
    obtain ⟨l, q⟩ := rwR_get h2
    refine ⟨by rw [List.length_cons, List.length_cons, l], fun i r' hr => ?_⟩
    cases i with
    | zero => cases hr; exact ⟨v, by dsimp only at h0; rw [h0]; rfl, h1⟩
    | succ i => exact q i r' hr
  | [], _ :: _, h => h.elim
  | _ :: _, [], h => h.elim
theorem kall_of {d : Addr} {es : Array DictEntry} {n : Nat} {kvs : List (V × V)} {rows : List (Str × T)} (hl : G.K.lookup d = some ⟨.type "dict", none, .dict es n, #[]⟩) (hs : (d == sysModules) = false) (he : EsR es.toList kvs) (hr : RwR G rows kvs) : KAll G d rows := by
  obtain ⟨l, q⟩ := esR_get he
  refine ⟨kvs, ⟨es, n, hl, hs, by rw [← l, Array.length_toList], fun i hi k v hk => ?_⟩, (rwR_get hr).1, (rwR_get hr).2⟩
  exact q i es[i] (k, v) (by rw [Array.getElem?_toList]; exact Array.getElem?_eq_getElem hi) hk
theorem x_itemsK {X : Cx} {K : PySem.W.Frag} (h : X.K = K) {e : Expr} {td : TE} {apos cpos : Pos} {elts : List Expr} {kk : Nat} {tpos : Pos} (he : PE X e td) (hbase : attributeBase e "items" X.env (eval e X.env) = eval e X.env := by rfl) (hline : (apos.endLine == cpos.line) = true := by rfl) :
    PI X (.Tuple elts kk tpos) (.Call (.Attribute e "items" apos) [] [] cpos) (iItemsK K td) := h ▸ pi_itemsK he hbase hline
end M
/-! ### bits taken out of a word -/
namespace M
open PySem PySem.Spec PyProof.Rows L2 PySem.W
/-- an empty field takes bits -/
theorem bor_fld {w x : Int} {many pos : Nat} (h : 0 ≤ w) (x0 : 0 ≤ x) (x1 : x < 2 ^ many) (hz : w / 2 ^ pos % 2 ^ many = 0) : Builtin.bitOr w (x * 2 ^ pos) = w + x * 2 ^ pos := by
  have := setf (x := x) h hz
  rw [band_not h, band_sh, kbt_mask, kbt_mask, hz, Int.zero_mul, Int.sub_zero, Int.emod_eq_of_lt x0 x1] at this
  exact this
theorem emod_2 (x : Int) {m : Int} (hm : 0 < m) : x % (2 * m) = 2 * (x / 2 % m) + x % 2 := by
  have e := Int.mul_ediv_add_emod (x / 2) m
  have h0 := Int.emod_nonneg (x / 2) (by omega : m ≠ 0)
  have h1 := Int.emod_lt_of_pos (x / 2) hm
  refine (kbt_unique (b := 2 * m) (q := x / 2 / m) (by omega) ?_ (by omega) (by omega)).2
  rw [Int.mul_assoc]; omega
theorem band_cat : ∀ (k : Nat) (w a b : Int), 0 ≤ a → a < 2 ^ k → Builtin.bitAnd w (a + b * 2 ^ k) = Builtin.bitAnd w a + Builtin.bitAnd (w / 2 ^ k) b * 2 ^ k
  | 0, w, a, b, h0, h1 => by
    have : a = 0 := by simp at h1; omega
    subst this
    have := bitAnd_comm w 0
    simp [this, band_zero]
  | k + 1, w, a, b, h0, h1 => by
    rw [p2s] at h1
    have x := kbt_halves w (a + b * 2 ^ (k + 1))
    have y := kbt_halves w a
    have e1 : b * 2 ^ (k + 1) = 2 * (b * 2 ^ k) := by rw [p2s, Int.mul_left_comm]
    have e2 : (a + b * 2 ^ (k + 1)) / 2 = a / 2 + b * 2 ^ k := by rw [e1]; omega
    have e3 : (a + b * 2 ^ (k + 1)) % 2 = a % 2 := by rw [e1]; omega
    have e4 : w / 2 ^ (k + 1) = w / 2 / 2 ^ k := by rw [p2s, Int.ediv_ediv_of_nonneg (by decide)]
    have e5 : Builtin.bitAnd (w / 2 / 2 ^ k) b * 2 ^ (k + 1) = 2 * (Builtin.bitAnd (w / 2 / 2 ^ k) b * 2 ^ k) := by rw [p2s, Int.mul_left_comm]
    rw [e2, e3, band_cat k (w / 2) (a / 2) b (by omega) (by omega)] at x
    rw [e4, e5]
    omega
theorem bxor_half (x y : Int) : Builtin.bitXor x y = 2 * Builtin.bitXor (x / 2) (y / 2) + (if x % 2 = y % 2 then 0 else 1) := by
  have a := kbt_halves x y
  have e : ∀ x y, Builtin.bitXor x y = Builtin.bitOr x y - Builtin.bitAnd x y := fun _ _ => rfl
  rw [e, e, bitOr_and, bitOr_and]
  by_cases z : x % 2 = y % 2
  · rw [if_pos z]
    by_cases q : x % 2 = 1 ∧ y % 2 = 1
    · rw [if_pos q] at a; omega
    · rw [if_neg q] at a; omega
  · rw [if_neg z]
    rw [if_neg (by omega)] at a; omega
theorem bxor_low : ∀ (k : Nat) (x y : Int), Builtin.bitXor x y % 2 ^ k = 0 ↔ x % 2 ^ k = y % 2 ^ k
  | 0, x, y => by simp
  | k + 1, x, y => by
    have hp := kbt_pos k
    have a := bxor_half x y
    have ih := bxor_low k (x / 2) (y / 2)
    rw [p2s, emod_2 _ hp, emod_2 x hp, emod_2 y hp]
    have q0 := Int.emod_nonneg (Builtin.bitXor x y / 2) (by omega : (2 : Int) ^ k ≠ 0)
    have q1 := Int.emod_nonneg (x / 2) (by omega : (2 : Int) ^ k ≠ 0)
    have q2 := Int.emod_nonneg (y / 2) (by omega : (2 : Int) ^ k ≠ 0)
    by_cases z : x % 2 = y % 2
    · rw [if_pos z] at a
      have e : Builtin.bitXor x y / 2 = Builtin.bitXor (x / 2) (y / 2) := by omega
      rw [e] at q0 ⊢
      constructor
      · intro h
        have := ih.mp (by omega); omega
      · intro h
        have := ih.mpr (by omega); omega
    · rw [if_neg z] at a
      constructor <;> intro h <;> omega
/-- the masks of the words' fixed bits -/
theorem band_1 {w : Int} : Builtin.bitAnd w 127 = w % 128 := kbt_mask w 7
theorem band_2 {w : Int} : Builtin.bitAnd w 28799 = w % 128 + w / 4096 % 8 * 4096 := by
  have := band_cat 12 w 127 7 (by decide) (by decide)
  have q : Builtin.bitAnd (w / 4096) 7 = w / 4096 % 8 := kbt_mask _ 3
  rw [band_1] at this
  rw [← q]; exact this
theorem band_3 {w : Int} : Builtin.bitAnd w 4261441663 = w % 128 + w / 4096 % 8 * 4096 + w / 33554432 % 128 * 33554432 := by
  have := band_cat 25 w 28799 127 (by decide) (by decide)
  rw [band_2] at this
  have q : Builtin.bitAnd (w / 33554432) 127 = w / 33554432 % 128 := band_1
  rw [← q]; exact this
theorem band_4 {w : Int} (h0 : 0 ≤ w) (h1 : w < 4294967296) : Builtin.bitAnd w 4294967295 = w := (kbt_mask w 32).trans (Int.emod_eq_of_lt h0 h1)
theorem bxor_7 {w op : Int} : (Builtin.bitAnd (Builtin.bitXor w op) 127 = 0) ↔ w % 128 = op % 128 := by
  rw [band_1]; exact bxor_low 7 w op
/-- a digit, named -/
theorem dig (v : Int) (s m : Nat) : ∃ d, v / 2 ^ s % 2 ^ m = d ∧ 0 ≤ d ∧ d < 2 ^ m := by
  have p := kbt_pos m
  exact ⟨_, rfl, Int.emod_nonneg _ (by omega), Int.emod_lt_of_pos _ p⟩
/-- a number that is small enough to be multiplied -/
theorem mul_lt {x : Int} {n : Nat} (h0 : -4294967296 ≤ x) (h1 : x ≤ 4294967296) (hn : n < 18446744073709551616) : x.natAbs.log2 + n.log2 < 1000000 := by
  have a : x.natAbs.log2 < 100 := by
    by_cases z : x.natAbs = 0
    · rw [z]; decide
    · exact (Nat.log2_lt z).mpr (by omega)
  have b : n.log2 < 100 := by
    by_cases z : n = 0
    · rw [z]; decide
    · exact (Nat.log2_lt z).mpr (by omega)
  omega
theorem mul_d {d : Int} {k n : Nat} (l : 0 ≤ d) (u : d < 2 ^ k) (hk : k ≤ 32) (hn : n < 18446744073709551616) : d.natAbs.log2 + n.log2 < 1000000 := by
  have p2 : (2 : Nat) ^ k ≤ 2 ^ 32 := Nat.pow_le_pow_right (by decide) hk
  have p3 := kbt_cast k
  have : (2 : Nat) ^ 32 = 4294967296 := by decide
  exact mul_lt (by omega) (by omega) hn
/-- written divisors are small -/
theorem lgs : Nat.log2 2 < 9000 ∧ Nat.log2 3 < 9000 ∧ Nat.log2 4 < 9000 ∧ Nat.log2 5 < 9000 ∧ Nat.log2 6 < 9000 ∧ Nat.log2 7 < 9000 ∧ Nat.log2 8 < 9000 ∧ Nat.log2 9 < 9000 ∧ Nat.log2 10 < 9000 ∧ Nat.log2 11 < 9000 ∧ Nat.log2 12 < 9000 ∧ Nat.log2 13 < 9000 ∧ Nat.log2 14 < 9000 ∧ Nat.log2 15 < 9000 ∧ Nat.log2 16 < 9000 ∧ Nat.log2 17 < 9000 ∧ Nat.log2 18 < 9000 ∧ Nat.log2 19 < 9000 ∧ Nat.log2 20 < 9000 ∧ Nat.log2 21 < 9000 ∧ Nat.log2 22 < 9000 ∧ Nat.log2 23 < 9000 ∧ Nat.log2 24 < 9000 ∧ Nat.log2 25 < 9000 ∧ Nat.log2 26 < 9000 ∧ Nat.log2 27 < 9000 ∧ Nat.log2 28 < 9000 ∧ Nat.log2 29 < 9000 ∧ Nat.log2 30 < 9000 ∧ Nat.log2 31 < 9000 ∧ Nat.log2 32 < 9000 ∧ Nat.log2 33 < 9000 ∧ Nat.log2 34 < 9000 ∧ Nat.log2 35 < 9000 ∧ Nat.log2 36 < 9000 ∧ Nat.log2 37 < 9000 ∧ Nat.log2 38 < 9000 ∧ Nat.log2 39 < 9000 ∧ Nat.log2 40 < 9000 ∧ Nat.log2 41 < 9000 ∧ Nat.log2 42 < 9000 ∧ Nat.log2 43 < 9000 ∧ Nat.log2 44 < 9000 ∧ Nat.log2 45 < 9000 ∧ Nat.log2 46 < 9000 ∧ Nat.log2 47 < 9000 ∧ Nat.log2 48 < 9000 ∧ Nat.log2 49 < 9000 ∧ Nat.log2 50 < 9000 ∧ Nat.log2 51 < 9000 ∧ Nat.log2 52 < 9000 ∧ Nat.log2 53 < 9000 ∧ Nat.log2 54 < 9000 ∧ Nat.log2 55 < 9000 ∧ Nat.log2 56 < 9000 ∧ Nat.log2 57 < 9000 ∧ Nat.log2 58 < 9000 ∧ Nat.log2 59 < 9000 ∧ Nat.log2 60 < 9000 ∧ Nat.log2 61 < 9000 ∧ Nat.log2 62 < 9000 ∧ Nat.log2 63 < 9000 ∧ Nat.log2 64 < 9000 ∧ Nat.log2 100 < 9000 ∧ Nat.log2 127 < 9000 ∧ Nat.log2 128 < 9000 ∧ Nat.log2 255 < 9000 ∧ Nat.log2 256 < 9000 ∧ Nat.log2 512 < 9000 ∧ Nat.log2 1000 < 9000 ∧ Nat.log2 1001 < 9000 ∧ Nat.log2 1024 < 9000 ∧ Nat.log2 2048 < 9000 ∧ Nat.log2 4096 < 9000 ∧ Nat.log2 8192 < 9000 ∧ Nat.log2 16384 < 9000 ∧ Nat.log2 32768 < 9000 ∧ Nat.log2 65536 < 9000 ∧ Nat.log2 131072 < 9000 ∧ Nat.log2 1048576 < 9000 ∧ Nat.log2 2097152 < 9000 ∧ Nat.log2 33554432 < 9000 ∧ Nat.log2 2147483648 < 9000 ∧ Nat.log2 4294967296 < 9000 ∧ Nat.log2 4294967295 < 9000 ∧ Nat.log2 2199023255551 < 9000 := ⟨by decide, by decide, by decide, by decide, by decide, by decide, by decide, by decide, by decide, by decide, by decide, by decide, by decide, by decide, by decide, by decide, by decide, by decide, by decide, by decide, by decide, by decide, by decide, by decide, by decide, by decide, by decide, by decide, by decide, by decide, by decide, by decide, by decide, by decide, by decide, by decide, by decide, by decide, by decide, by decide, by decide, by decide, by decide, by decide, by decide, by decide, by decide, by decide, by decide, by decide, by decide, by decide, by decide, by decide, by decide, by decide, by decide, by decide, by decide, by decide, by decide, by decide, by decide, by decide, by decide, by decide, by decide, by decide, by decide, by decide, by decide, by decide, by decide, by decide, by decide, by decide, by decide, by decide, by decide, by decide, by decide, by decide, by decide, by decide, by decide, by decide⟩
/-- a signed field -/
def sg (s n : Int) : Int := if n < s / 2 then n else n - s
theorem sg_of {n n' lo hi s : Int} (e : n = n') (hl : 2 * lo = -s) (hh : n' ≤ hi ↔ n' < s / 2) : (if n ≤ hi then n else n + 2 * lo) = sg s n' := by
  subst e
  unfold sg
  by_cases z : n ≤ hi
  · rw [if_pos z, if_pos (hh.mp z)]
  · rw [if_neg z, if_neg (fun q => z (hh.mpr q)), hl]; rfl
theorem sg_no {n n' lo hi : Int} (e : n = n') (hh : n' ≤ hi) : (if n ≤ hi then n else n + 2 * lo) = n' := by
  subst e; exact if_pos hh
theorem sg_inv {s v n : Int} (hn : n = v % s) (hs : 0 < s) (h2 : s % 2 = 0) (h0 : -(s / 2) ≤ v) (h1 : v < s / 2) : sg s n = v := by
  subst hn
  unfold sg
  by_cases z : 0 ≤ v
  · have : v % s = v := Int.emod_eq_of_lt z (by omega)
    rw [this, if_pos h1]
  · have : v % s = v + s := by
      rw [← Int.add_emod_right]; exact Int.emod_eq_of_lt (by omega) (by omega)
    rw [this, if_neg (by omega)]; omega
/-! comprehensions that only read -/
theorem lc_pure {α : Type} {a : FG} {tt : FT} {fe : FE} {τ : LS} {enc g : α → T} {h : AH} : ∀ (l : List α) (n : Nat), n + l.length ≤ sizeLine → (∀ x ∈ l, ∃ τ', a (enc x) τ = some τ' ∧ tt τ' h = .ok true h ∧ fe τ' h = .ok (g x) h) → mLcL a tt fe τ n (l.map enc) h = .ok (l.map g) h
  | [], _, _, _ => rfl
  | x :: l, n, hn, ha => by
    rw [List.length_cons] at hn
    obtain ⟨τ', e1, e2, e3⟩ := ha x List.mem_cons_self
    have ih := lc_pure (a := a) (tt := tt) (fe := fe) (τ := τ) (enc := enc) (g := g) (h := h) l (n + 1) (by omega) fun x hx => ha x (List.mem_cons_of_mem _ hx)
    have hn' : n < sizeLine := by omega
    rw [List.map_cons, List.map_cons]
    unfold mLcL
    rw [e1]
    simp [e2, e3, hn', ih]
theorem lc_some {α : Type} {a : FG} {tt : FT} {fe : FE} {τ : LS} {enc g : α → T} {q : α → Bool} {h : AH} : ∀ (l : List α) (n : Nat), n + l.length ≤ sizeLine → (∀ x ∈ l, ∃ τ', a (enc x) τ = some τ' ∧ tt τ' h = .ok (q x) h ∧ (q x = true → fe τ' h = .ok (g x) h)) → mLcL a tt fe τ n (l.map enc) h = .ok ((l.filter q).map g) h
  | [], _, _, _ => rfl
  | x :: l, n, hn, ha => by
    rw [List.length_cons] at hn
    obtain ⟨τ', e1, e2, e3⟩ := ha x List.mem_cons_self
    have ih := fun m hm => lc_some (a := a) (tt := tt) (fe := fe) (τ := τ) (enc := enc) (g := g) (q := q) (h := h) l m hm fun x hx => ha x (List.mem_cons_of_mem _ hx)
    have hn' : n < sizeLine := by omega
    rw [List.map_cons]
    unfold mLcL
    rw [e1]
    cases z : q x with
    | true => rw [List.filter_cons_of_pos (by rw [z])]; simp [e2, z, e3 z, hn', ih (n + 1) (by omega)]
    | false => rw [List.filter_cons_of_neg (by rw [z]; simp)]; simp [e2, z, ih n (by omega)]
end M
/-! isinstance of built-in types: decided once -/
namespace M
open PySem PySem.Spec PyProof.Rows L2
@[simp] theorem kit_int_int : kitB "int" "int" = some true := by decide +kernel
@[simp] theorem kit_int_bool : kitB "int" "bool" = some false := by decide +kernel
@[simp] theorem kit_int_str : kitB "int" "str" = some false := by decide +kernel
@[simp] theorem kit_int_tuple : kitB "int" "tuple" = some false := by decide +kernel
@[simp] theorem kit_int_list : kitB "int" "list" = some false := by decide +kernel
@[simp] theorem kit_int_dict : kitB "int" "dict" = some false := by decide +kernel
@[simp] theorem kit_bool_int : kitB "bool" "int" = some true := by decide +kernel
@[simp] theorem kit_bool_bool : kitB "bool" "bool" = some true := by decide +kernel
@[simp] theorem kit_bool_str : kitB "bool" "str" = some false := by decide +kernel
@[simp] theorem kit_bool_tuple : kitB "bool" "tuple" = some false := by decide +kernel
@[simp] theorem kit_bool_list : kitB "bool" "list" = some false := by decide +kernel
@[simp] theorem kit_bool_dict : kitB "bool" "dict" = some false := by decide +kernel
@[simp] theorem kit_str_int : kitB "str" "int" = some false := by decide +kernel
@[simp] theorem kit_str_bool : kitB "str" "bool" = some false := by decide +kernel
@[simp] theorem kit_str_str : kitB "str" "str" = some true := by decide +kernel
@[simp] theorem kit_str_tuple : kitB "str" "tuple" = some false := by decide +kernel
@[simp] theorem kit_str_list : kitB "str" "list" = some false := by decide +kernel
@[simp] theorem kit_str_dict : kitB "str" "dict" = some false := by decide +kernel
@[simp] theorem kit_tuple_int : kitB "tuple" "int" = some false := by decide +kernel
@[simp] theorem kit_tuple_bool : kitB "tuple" "bool" = some false := by decide +kernel
@[simp] theorem kit_tuple_str : kitB "tuple" "str" = some false := by decide +kernel
@[simp] theorem kit_tuple_tuple : kitB "tuple" "tuple" = some true := by decide +kernel
@[simp] theorem kit_tuple_list : kitB "tuple" "list" = some false := by decide +kernel
@[simp] theorem kit_tuple_dict : kitB "tuple" "dict" = some false := by decide +kernel
@[simp] theorem kit_list_int : kitB "list" "int" = some false := by decide +kernel
@[simp] theorem kit_list_bool : kitB "list" "bool" = some false := by decide +kernel
@[simp] theorem kit_list_str : kitB "list" "str" = some false := by decide +kernel
@[simp] theorem kit_list_tuple : kitB "list" "tuple" = some false := by decide +kernel
@[simp] theorem kit_list_list : kitB "list" "list" = some true := by decide +kernel
@[simp] theorem kit_list_dict : kitB "list" "dict" = some false := by decide +kernel
@[simp] theorem kit_dict_int : kitB "dict" "int" = some false := by decide +kernel
@[simp] theorem kit_dict_bool : kitB "dict" "bool" = some false := by decide +kernel
@[simp] theorem kit_dict_str : kitB "dict" "str" = some false := by decide +kernel
@[simp] theorem kit_dict_tuple : kitB "dict" "tuple" = some false := by decide +kernel
@[simp] theorem kit_dict_list : kitB "dict" "list" = some false := by decide +kernel
@[simp] theorem kit_dict_dict : kitB "dict" "dict" = some true := by decide +kernel
@[simp] theorem kit_NoneType_int : kitB "NoneType" "int" = some false := by decide +kernel
@[simp] theorem kit_NoneType_bool : kitB "NoneType" "bool" = some false := by decide +kernel
@[simp] theorem kit_NoneType_str : kitB "NoneType" "str" = some false := by decide +kernel
@[simp] theorem kit_NoneType_tuple : kitB "NoneType" "tuple" = some false := by decide +kernel
@[simp] theorem kit_NoneType_list : kitB "NoneType" "list" = some false := by decide +kernel
@[simp] theorem kit_NoneType_dict : kitB "NoneType" "dict" = some false := by decide +kernel
end M
/-! ### recursion's start; what is raised and caught -/
namespace M
open PySem PySem.Spec PyProof.Rows L2
variable {G : Env} {W : WX} {S : Sta} {E : L2.St → XK}
/-- without fuel: no promise -/
theorem fn_bad {P : Program} {w : World} {K : PySem.W.Frag} {mg : Str → Option Value} {base : Heap} {CX : CXT} {lv : Nat} {f : Addr} {fd : FuncData} {ps : List Str} {n : Nat} (hp : ps.length = n) : FnOk P w K mg base CX lv f fd ps (spM G n fun _ _ => .bad) :=
  ⟨sp_len hp, fun _ _ _ _ _ _ _ _ _ _ _ _ _ ⟨_, _, _, _, _, _, _, p⟩ => p.elim⟩
/-- an own exception class -/
structure TxE (K : PySem.W.Frag) (C : Addr) (fs : List Str) : Prop where
  ox : OexC K C
  xf : XfC K C
  ie : ExcC K C
  no : ∀ f ∈ fs, PySem.W.findIn K (.ref C) f = some none
/-- its own __init__ -/
structure MkX (K : PySem.W.Frag) (C fI : Addr) : Prop where
  iC : PySem.W.findIn K (.ref C) "__init__" = some (some (.ref fI))
  tI : PySem.W.typeIn K (.ref fI) = some (.type "function")
/-! who is of which class -/
theorem exm_own {K : PySem.W.Frag} {A B : Addr} {b : Bool} (i : PySem.W.isClsIn K B = true) (t : PySem.W.typeIn K (.ref B) = some (.type "type")) (s0 : PySem.W.subIn K (.ref B) (.type "BaseException") = some true) (s : PySem.W.subIn K (.ref A) (.ref B) = some b) : PySem.W.exmOne K (.ref A) (.ref B) = some b := by
  have i : (PySem.W.clsIn K B).isSome = true := i
  unfold PySem.W.exmOne
  rw [s0]
  unfold PySem.W.kitCls
  dsimp only
  rw [i, t]
  simp [s]
theorem kit_self {K : PySem.W.Frag} {A : Addr} : PySem.W.kitOne K (.ref A) (.ref A) = some true := by
  unfold PySem.W.kitOne
  simp
theorem kit_own {K : PySem.W.Frag} {A B : Addr} {b : Bool} (i : PySem.W.isClsIn K B = true) (t : PySem.W.typeIn K (.ref B) = some (.type "type")) (s : PySem.W.subIn K (.ref A) (.ref B) = some b) (n : (A == B) = false) : PySem.W.kitOne K (.ref A) (.ref B) = some b := by
  have i : (PySem.W.clsIn K B).isSome = true := i
  have n : ¬ A = B := by simpa using n
  unfold PySem.W.kitOne PySem.W.kitCls
  dsimp only
  rw [i, t]
  simp [s, n]
theorem kit_type {K : PySem.W.Frag} {A : Addr} {T : String} {b : Bool} (m : PySem.W.kitMeta T = true) (s : PySem.W.subIn K (.ref A) (.type T) = some b) : PySem.W.kitOne K (.ref A) (.type T) = some b := by
  unfold PySem.W.kitOne PySem.W.kitCls
  dsimp only
  rw [m]
  simp [s]
/-! __init__ of an own exception: it stores its arguments -/
def spX1 (K : PySem.W.Frag) (f : Str) : Sp := fun vs H Q _ => ∃ (a C : Addr) (x : V), vs = [.ref a, x] ∧ H a = some (exo a C none) ∧ OexC K C ∧ PySem.W.findIn K (.ref C) f = some none ∧
  ∀ d, H d = none → d ≠ a → Q .non (upd (upd H d (exd d [(f, x)])) a (exo a C (some d)))
def spX2 (K : PySem.W.Frag) (f g : Str) : Sp := fun vs H Q _ => ∃ (a C : Addr) (x y : V), vs = [.ref a, x, y] ∧ H a = some (exo a C none) ∧ OexC K C ∧ (PySem.W.findIn K (.ref C) f = some none ∧ PySem.W.findIn K (.ref C) g = some none) ∧
  ∀ d, H d = none → d ≠ a → Q .non (upd (upd (upd H d (exd d [(f, x)])) a (exo a C (some d))) d (exd d [(g, y), (f, x)]))
theorem spX1_len {K : PySem.W.Frag} {f : Str} {ps : List Str} (hp : ps.length = 2) : ∀ vs H Q E, spX1 K f vs H Q E → vs.length = ps.length := fun vs H Q E ⟨_, _, _, e, _⟩ => by subst e; exact hp.symm
theorem spX2_len {K : PySem.W.Frag} {f g : Str} {ps : List Str} (hp : ps.length = 3) : ∀ vs H Q E, spX2 K f g vs H Q E → vs.length = ps.length := fun vs H Q E ⟨_, _, _, _, e, _⟩ => by subst e; exact hp.symm
theorem x1_run {K : PySem.W.Frag} {f : Str} {vs : List V} {H : Hp} {Q : VK} {E : XK} {a b : Str} (h : spX1 K f vs H Q E) : tOst K f (tVar 0) (tVar 1) { nx := fun _ H' => Q .non H', rt := Q } (start [a, b] vs) H := by
  obtain ⟨a, C, x, rfl, ha, T, n1, q⟩ := h
  exact ⟨_, rfl, _, rfl, _, _, rfl, T, n1, .inl ⟨ha, fun dx hdx ne => q dx hdx ne⟩⟩
theorem x2_run {K : PySem.W.Frag} {f g : Str} {vs : List V} {H : Hp} {Q : VK} {E : XK} {a b c : Str} (h : spX2 K f g vs H Q E) : tSeq (tOst K f (tVar 0) (tVar 1)) (tOst K g (tVar 0) (tVar 2)) { nx := fun _ H' => Q .non H', rt := Q } (start [a, b, c] vs) H := by
  obtain ⟨a, C, x, y, rfl, ha, T, ⟨n1, n2⟩, q⟩ := h
  refine ⟨_, rfl, _, rfl, _, _, rfl, T, n1, .inl ⟨ha, fun dx hdx ne => ?_⟩⟩
  exact ⟨_, rfl, _, rfl, _, _, rfl, T, n2, .inr ⟨dx, _, upd_same, by rw [upd_ne ne]; exact upd_same, by show (1 : Nat) ≤ 900; decide, q dx hdx ne⟩⟩
/-! raise C(..) -/
@[simp] def sRaise (c : Str) (ns : List Str) (fa : FA) : FS := fun τ h => liftE (fa τ h) τ fun xs h1 => if xs.length = ns.length then .ok (.xc ⟨c, ns.reverse, xs.reverse⟩ τ) h1 else .bad
theorem raise_end {σ : L2.St} {τ : LS} {D : Ends} {c : Str} {C d : Addr} {ns : List Str} {xs : List T} {vs : List V} (hc : S.G.ca c = C) (k : Ok S) (rs : RS S τ σ) (hd : S.H d = none) (hn : ns.length = xs.length) (r : RvL S xs vs)
    (q : PG S W D (.ok (.xc ⟨c, ns, xs⟩ τ) S.h)) : W (.ref C) (some d) σ (upd S.H d (.xd (ns.zip vs))) := by
  have g := Grow.upd (u := HO.xd (ns.zip vs)) hd
  have st := step_at k g
  have q := q (S.at (upd S.H d (.xd (ns.zip vs)))) rfl (ok_at k g) st σ (rs.mono st) (.ref C) (some d)
  exact q ⟨by rw [← hc]; rfl, .inr ⟨d, vs, rfl, fz_new k hd upd_same, hn, r.mono st⟩⟩
theorem sim_raise1 {C : Addr} {c f : Str} {ta : TA} {fa : FA} (hc : G.ca c = C) (T : TxE G.K C [f]) (ha : SimA G (WE W) ta fa) : SimS G W (fun _ σ H => tMkO C (spX1 G.K f) [] ta σ H fun cls d H' => W cls d σ H') (sRaise c [f] fa) := fun S σ τ D e k rs p => by
  refine ha S σ τ _ e k rs (PostG.imp (fun xs S1 q vs rv => ?_) (PG.lift rs p))
  obtain ⟨k1, s1, q⟩ := q
  split at q
  · rename_i hl
    obtain ⟨x, rfl⟩ : ∃ x, xs = [x] := List.length_eq_one_iff.mp hl
    simp only [RvL] at rv
    obtain ⟨v, _, rfl, r1, rfl⟩ := rv
    refine ⟨by show (1 : Nat) ≤ 1000; decide, fun a hna => ⟨a, C, v, rfl, upd_same, T.ox, T.no _ List.mem_cons_self, fun d hd ne => ?_⟩⟩
    rw [upd_ne ne] at hd
    refine ⟨rfl, d, _, upd_same, by rw [upd_ne ne]; exact upd_same, hd, ?_⟩
    have eH : upd (del (upd (upd (upd S1.H a (exo a C none)) d (exd d [(f, v)])) a (exo a C (some d))) a) d (HO.xd [(f, v)]) = upd S1.H d (.xd (([f] : List Str).zip [v])) := by
      funext b
      by_cases hb : b = d
      · subst hb; rw [upd_same, upd_same]; rfl
      · rw [upd_ne hb, upd_ne hb]
        by_cases ha : b = a
        · subst ha; rw [del_same, hna]
        · rw [del_ne ha, upd_ne ha, upd_ne hb, upd_ne ha]
    rw [eH]
    exact raise_end (by rw [s1.G, e]; exact hc) k1 (rs.mono s1) hd rfl (RvL.cons r1 RvL.nil) q
  · exact q.elim
theorem sim_raise2 {C : Addr} {c f g : Str} {ta : TA} {fa : FA} (hc : G.ca c = C) (T : TxE G.K C [f, g]) (ha : SimA G (WE W) ta fa) : SimS G W (fun _ σ H => tMkO C (spX2 G.K f g) [] ta σ H fun cls d H' => W cls d σ H') (sRaise c [f, g] fa) := fun S σ τ D e k rs p => by
  refine ha S σ τ _ e k rs (PostG.imp (fun xs S1 q vs rv => ?_) (PG.lift rs p))
  obtain ⟨k1, s1, q⟩ := q
  split at q
  · rename_i hl
    obtain ⟨x, y, rfl⟩ : ∃ x y, xs = [x, y] := by
      match xs, hl with
      | [x, y], _ => exact ⟨x, y, rfl⟩
    simp only [RvL] at rv
    obtain ⟨v, _, rfl, r1, w, _, rfl, r2, rfl⟩ := rv
    refine ⟨by show (2 : Nat) ≤ 1000; decide, fun a hna => ⟨a, C, v, w, rfl, upd_same, T.ox, ⟨T.no _ List.mem_cons_self, T.no _ (List.mem_cons_of_mem _ List.mem_cons_self)⟩, fun d hd ne => ?_⟩⟩
    rw [upd_ne ne] at hd
    refine ⟨rfl, d, _, by rw [upd_ne (Ne.symm ne)]; exact upd_same, upd_same, hd, ?_⟩
    have eH : upd (del (upd (upd (upd (upd S1.H a (exo a C none)) d (exd d [(f, v)])) a (exo a C (some d))) d (exd d [(g, w), (f, v)])) a) d (HO.xd [(g, w), (f, v)]) = upd S1.H d (.xd (([g, f] : List Str).zip [w, v])) := by
      funext b
      by_cases hb : b = d
      · subst hb; rw [upd_same, upd_same]; rfl
      · rw [upd_ne hb, upd_ne hb]
        by_cases ha : b = a
        · subst ha; rw [del_same, hna]
        · rw [del_ne ha, upd_ne hb, upd_ne ha, upd_ne hb, upd_ne ha]
    rw [eH]
    exact raise_end (by rw [s1.G, e]; exact hc) k1 (rs.mono s1) hd rfl (RvL.cons r2 (RvL.cons r1 RvL.nil)) q
  · exact q.elim
/-! the same state, seen with something caught (or without) -/
def Sta.c (S : Sta) (x : Option Ex) : Sta := ⟨⟨S.G.K, S.G.ca, S.G.fa, x⟩, S.al, S.h, S.H, S.pv⟩
variable {x : Option Ex}
mutual
theorem Rv.c : ∀ {t : T} {v : V}, Rv S t v → Rv (S.c x) t v
  | .non, v, h => by simp only [Rv] at h ⊢; exact h
  | .bl b, v, h => by simp only [Rv] at h ⊢; exact h
  | .int i, v, h => by simp only [Rv] at h ⊢; exact h
  | .str z, v, h => by simp only [Rv] at h ⊢; exact h
  | .ref a, v, h => by simp only [Rv] at h ⊢; exact h
  | .tup l, v, h => by
    simp only [Rv] at h ⊢
    obtain ⟨p, vs, e, f, r⟩ := h
    exact ⟨p, vs, e, f, RvL.c r⟩
  | .ktp l, v, h => by
    simp only [Rv] at h ⊢
    obtain ⟨p, vs, e, f, r⟩ := h
    exact ⟨p, vs, e, f, RvL.c r⟩
  | .lst l, v, h => by
    simp only [Rv] at h ⊢
    obtain ⟨p, vs, e, f, r⟩ := h
    exact ⟨p, vs, e, f, RvL.c r⟩
  | .rdl l, v, h => by
    simp only [Rv] at h ⊢
    obtain ⟨p, vs, e, f, r⟩ := h
    exact ⟨p, vs, e, f, RvL.c r⟩
  | .inst c ns l, v, h => by
    simp only [Rv] at h ⊢
    obtain ⟨p, dx, vs, e, f, n, r⟩ := h
    exact ⟨p, dx, vs, e, f, n, RvL.c r⟩
  | .dct ks l, v, h => by
    simp only [Rv] at h ⊢
    obtain ⟨p, vs, e, f, n, r⟩ := h
    exact ⟨p, vs, e, f, n, RvL.c r⟩
  | .dctT ks l, v, h => by
    simp only [Rv] at h ⊢
    obtain ⟨p, vs, e, f, n, r⟩ := h
    exact ⟨p, vs, e, f, n, RvL.c r⟩
  | .obj i, v, h => by simp only [Rv] at h ⊢; exact h
theorem RvL.c : ∀ {l : List T} {vs : List V}, RvL S l vs → RvL (S.c x) l vs
  | [], _, h => by simp only [RvL] at h ⊢; exact h
  | t :: ts, vs, h => by
    simp only [RvL] at h ⊢
    obtain ⟨v, r, e, h1, h2⟩ := h
    exact ⟨v, r, e, Rv.c h1, RvL.c h2⟩
end
theorem RvK.c {κ : Type} : ∀ {m : List (κ × T)} {vs : List (κ × V)}, RvK S m vs → RvK (S.c x) m vs
  | [], _, h => h
  | (_, _) :: _, _, ⟨v, m', e, h1, h2⟩ => ⟨v, m', e, h1.c, RvK.c h2⟩
theorem RO.c : ∀ {o : O} {u : HO}, RO S o u → RO (S.c x) o u
  | .lst _, _, ⟨vs, e, r⟩ => ⟨vs, e, r.c⟩
  | .dct _, _, ⟨vs, e, r⟩ => ⟨vs, e, r.c⟩
  | .dctT _, _, ⟨vs, e, r⟩ => ⟨vs, e, r.c⟩
  | .ins _ _, _, ⟨dx, vs, e, r⟩ => ⟨dx, vs, e, r.c⟩
theorem Ok.c (k : Ok S) : Ok (S.c x) := ⟨k.len, fun i o p h1 h2 => let ⟨u, hu, r⟩ := k.rel i o p h1 h2; ⟨u, hu, r.c⟩, k.inj, k.priv⟩
theorem RS0.c : ∀ {τ : LS} {σ : L2.St}, RS0 S τ σ → RS0 (S.c x) τ σ
  | [], _, h => h
  | _ :: _, _, ⟨v, r, e, h, q⟩ => ⟨v, r, e, fun t ht => let ⟨w, h1, h2⟩ := h t ht; ⟨w, h1, h2.c⟩, RS0.c q⟩
theorem RS0.len : ∀ {τ : LS} {σ : L2.St}, RS0 S τ σ → σ.length = τ.length
  | [], σ, h => by
    have h : σ = [] := h
    subst h; rfl
  | _ :: _, _, ⟨v, r, e, _, q⟩ => by subst e; simp [RS0.len q]
theorem RX.c {e : Exc} {cls : Value} {d : Option Addr} (h : RX S e cls d) : RX (S.c x) e cls d := by
  obtain ⟨h1, h2⟩ := h
  refine ⟨h1, h2.imp id ?_⟩
  rintro ⟨a, vs, e1, f, n, r⟩
  exact ⟨a, vs, e1, f, n, r.c⟩
/-! try .. except C as n -/
/-- behind a suite the name is gone -/
def unname (i : Nat) : Fl → Fl
  | .nx τ => .nx (τ.set i none)
  | .bk τ => .bk (τ.set i none)
  | .ct τ => .ct (τ.set i none)
  | .rt t => .rt t
  | .xc e τ => .xc e τ
def noXc : Fl → Bool
  | .xc _ _ => false
  | _ => true
def sTry (xm : List (Str × Bool)) (i : Nat) (b : FS) (su : Exc → FS) : FS := fun τ h => (b τ h).bind fun fl h1 => match fl with
  | .xc e τ1 => match xm.lookup e.c with
    | some true => if i < τ1.length then (su e (τ1.set i none) h1).bind fun fl2 h2 => if noXc fl2 = true then .ok (unname i fl2) h2 else .bad else .bad
    | some false => .ok (.xc e τ1) h1
    | none => .bad
  | fl => .ok fl h1
section
variable {K : PySem.W.Frag} {ca : Str → Addr} {fa : Str → V} {c : Value} {i : Nat} {tb : WX → TS} {ts : Addr → Value → Option Addr → TS} {xm : List (Str × Bool)} {b : FS} {su : Exc → FS} {W0 : WX}
theorem suite_go {D D' : Ends} {σ : L2.St} {τ : LS} {e : Exc} {a : Addr} {cls : Value} {d : Option Addr} {ts : TS} {g : FS} (eG : S.G = ⟨K, ca, fa, none⟩) (k : Ok S) (rs : RS S τ σ) (hi : i < τ.length) (rx : RX S e cls d)
    (hs : SimS ⟨K, ca, fa, some ⟨a, cls, d, i, e⟩⟩ W0 ts g)
    (hn : ∀ σ' H, D.nx (σ'.set i none) H → D'.nx σ' H) (hb : ∀ σ' H, D.bk (σ'.set i none) H → D'.bk σ' H) (hc : ∀ σ' H, D.ct (σ'.set i none) H → D'.ct σ' H) (hr : ∀ v H, D.rt v H → D'.rt v H)
    (p : PG S W D ((g (τ.set i none) S.h).bind fun fl2 h2 => if noXc fl2 = true then .ok (unname i fl2) h2 else .bad)) : ts D' (σ.set i (some (.ref a))) S.H := by
  have eG2 : (S.c (some ⟨a, cls, d, i, e⟩)).G = ⟨K, ca, fa, some ⟨a, cls, d, i, e⟩⟩ := by unfold Sta.c; rw [eG]
  refine hs (S.c (some ⟨a, cls, d, i, e⟩)) _ (τ.set i none) D' eG2 k.c ⟨RS0.unset i rs.r.c, fun y hy => ?_⟩ ?_
  · have hy : some _ = some y := hy
    cases hy
    exact ⟨by rw [List.getElem?_set_self (by rw [rs.r.len]; exact hi)], rx.c⟩
  · show PG (S.c (some ⟨a, cls, d, i, e⟩)) W0 D' (g (τ.set i none) S.h)
    cases hg : g (τ.set i none) S.h with
    | bad => rw [hg] at p; exact p.elim
    | exc e2 h2 =>
      rw [hg] at p
      intro S2 e2 k2 st
      have eS2 : (S2.c none).G = S.G := by
        have : S2.G = _ := st.G
        unfold Sta.c
        rw [this, eG2, eG]
      exact p (S2.c none) e2 k2.c ⟨eS2, st.al, st.keep, st.own, st.pv, st.pk⟩
    | ok fl2 h2 =>
      rw [hg, bind_ok] at p
      intro S2 e2 k2 st
      have k2' : Ok (S2.c none) := k2.c
      have eS2 : (S2.c none).G = S.G := by
        have : S2.G = _ := st.G
        unfold Sta.c
        rw [this, eG2, eG]
      have st' : Step S (S2.c none) := ⟨eS2, st.al, st.keep, st.own, st.pv, st.pk⟩
      have xi : ∀ σ', XI (S2.c none) σ' := fun σ' y hy => by cases hy
      split at p
      · rename_i hx
        have p := p (S2.c none) e2 k2' st'
        match fl2, hx, p with
        | .nx τ2, _, p => exact fun σ2 rs2 => hn _ _ (p _ ⟨RS0.unset i rs2.r.c, xi _⟩)
        | .bk τ2, _, p => exact fun σ2 rs2 => hb _ _ (p _ ⟨RS0.unset i rs2.r.c, xi _⟩)
        | .ct τ2, _, p => exact fun σ2 rs2 => hc _ _ (p _ ⟨RS0.unset i rs2.r.c, xi _⟩)
        | .rt t, _, p => exact fun v rv => hr _ _ (p v rv.c)
      · exact p.elim
/-- the reading of a try, as one thing -/
def tTryAs (K : PySem.W.Frag) (c : Value) (i : Nat) (ts : Addr → Value → Option Addr → TS) (Wout : WX) (tb : WX → TS) : TS := fun D σ H => tb (wAs K c i ts Wout D) D σ H
theorem ps_tryT {X : Cx} {x n : Str} {c : Value} {body suite : List Stmt} {b₀ : Stmt} {np pos pos' : Pos} {tb : WX → TS} {ts : Addr → Value → Option Addr → TS} {Wout : WX} {i : Nat} {K : PySem.W.Frag} (hK : X.K = K) (hs : X.stack = X.env :: X.outer) (hf : X.env.frame = some X.env.locals) (hN : X.N.Nodup) (hi : X.N[i]? = some n) (hln : X.env.kindOf n = some .local) (hc : Names X x c) (tk : Takes X Wout)
    (hb : ∀ (W : WX) (pn : List (Addr × Obj)) (xe : Value → Shared → Prop), Takes (X.tr pn xe) W → PassesOwn (model X.prog X.w) X.A X.env xe → PSs (X.tr pn xe) body (tb W))
    (hsu : ∀ (a : Addr) (oe : Obj) (cls : Value) (d : Option Addr) (pn : List (Addr × Obj)), Zc cls d oe → (∃ vs, oe.data = .fields vs) → PSs (X.suite a ((a, oe) :: pn)) (b₀ :: suite) (ts a cls d)) :
    PS X (.Try body [.ExceptHandler (some (.Name x np)) (some n) (b₀ :: suite) pos'] [] [] pos) (tTryAs K c i ts Wout tb) := hK ▸ ps_try_as hs hf hN hi hln hc tk hb hsu
theorem sim_try (hk : ∀ n b, xm.lookup n = some b → PySem.W.exmOne K (.ref (ca n)) c = some b) (hb : ∀ W', SimS ⟨K, ca, fa, none⟩ W' (tb W') b)
    (hs : ∀ (a : Addr) (cls : Value) (d : Option Addr) (e : Exc), SimS ⟨K, ca, fa, some ⟨a, cls, d, i, e⟩⟩ W0 (ts a cls d) (su e)) :
    SimS ⟨K, ca, fa, none⟩ W (tTryAs K c i ts W tb) (sTry xm i b su) := fun S σ τ D e k rs p => by
  refine hb (wAs K c i ts W D) S σ τ D e k rs ?_
  unfold sTry at p
  cases hg : b τ S.h with
  | bad => rw [hg] at p; exact p.elim
  | exc e2 h2 => rw [hg] at p; exact p
  | ok fl h1 =>
    rw [hg, bind_ok] at p
    match fl, p with
    | .nx τ1, p => exact p
    | .bk τ1, p => exact p
    | .ct τ1, p => exact p
    | .rt t, p => exact p
    | .xc ex τ1, p =>
      intro S1 e1 k1 st1 σ1 rs1 cls d rx
      subst e1
      have eG := st1.G.trans e
      dsimp only at p
      have ec : cls = .ref (ca ex.c) := by rw [rx.1, eG]
      split at p
      · rename_i hl
        refine ⟨true, by rw [ec]; exact hk _ _ hl, fun _ a ha => ?_, fun z => Bool.noConfusion z⟩
        split at p
        · rename_i hi
          exact suite_go (D := D) eG k1 rs1 hi rx (hs a cls d ex) (fun _ _ z => z) (fun _ _ z => z) (fun _ _ z => z) (fun _ _ z => z) (PostG.mono st1 p)
        · exact p.elim
      · rename_i hl
        refine ⟨false, by rw [ec]; exact hk _ _ hl, fun z => Bool.noConfusion z, fun _ => ?_⟩
        exact p S1 rfl k1 st1 σ1 rs1 cls d rx
      · exact p.elim
/-- a try in a def that raises nothing itself -/
def sTry0 (xm : List (Str × Bool)) (i : Nat) (b : FS) (su : Exc → FS) : FS := fun τ h => (b τ h).bind fun fl h1 => match fl with
  | .xc e τ1 => match xm.lookup e.c with
    | some true => if i < τ1.length then (su e (τ1.set i none) h1).bind fun fl2 h2 => if noXc fl2 = true then .ok (unname i fl2) h2 else .bad else .bad
    | _ => .bad
  | fl => .ok fl h1
theorem sim_try0 (hk : ∀ n b, xm.lookup n = some b → PySem.W.exmOne K (.ref (ca n)) c = some b) (hb : ∀ W', SimS ⟨K, ca, fa, none⟩ W' (tb W') b)
    (hs : ∀ (a : Addr) (cls : Value) (d : Option Addr) (e : Exc), SimS ⟨K, ca, fa, some ⟨a, cls, d, i, e⟩⟩ W0 (ts a cls d) (su e)) :
    SimS ⟨K, ca, fa, none⟩ W (tTryAs K c i ts (fun _ _ _ _ => False) tb) (sTry0 xm i b su) := fun S σ τ D e k rs p => by
  refine hb (wAs K c i ts (fun _ _ _ _ => False) D) S σ τ D e k rs ?_
  unfold sTry0 at p
  cases hg : b τ S.h with
  | bad => rw [hg] at p; exact p.elim
  | exc e2 h2 => rw [hg] at p; exact p
  | ok fl h1 =>
    rw [hg, bind_ok] at p
    match fl, p with
    | .nx τ1, p => exact p
    | .bk τ1, p => exact p
    | .ct τ1, p => exact p
    | .rt t, p => exact p
    | .xc ex τ1, p =>
      intro S1 e1 k1 st1 σ1 rs1 cls d rx
      subst e1
      have eG := st1.G.trans e
      dsimp only at p
      have ec : cls = .ref (ca ex.c) := by rw [rx.1, eG]
      split at p
      · rename_i hl
        refine ⟨true, by rw [ec]; exact hk _ _ hl, fun _ a ha => ?_, fun z => Bool.noConfusion z⟩
        split at p
        · rename_i hi
          exact suite_go (D := D) eG k1 rs1 hi rx (hs a cls d ex) (fun _ _ z => z) (fun _ _ z => z) (fun _ _ z => z) (fun _ _ z => z) (PostG.mono st1 p)
        · exact p.elim
      · exact p.elim
end
/-! what a suite asks of what is caught -/
section
variable {K : PySem.W.Frag} {ca : Str → Addr} {fa : Str → V} {y : Ex}
/-- n.f -/
@[simp] def mXf (e : Exc) (c f : Str) : FE := fun _ h => if e.c = c then (match (e.ns.zip e.l).lookup f with | some t => .ok t h | none => .bad) else .bad
theorem sim_xf {C : Addr} {c f : Str} (hc : ca c = C) : SimE ⟨K, ca, fa, some y⟩ E (tXf y.a y.cls y.d C f (tVar y.i)) (mXf y.e c f) := fun S σ τ Q e k rs p => by
  unfold mXf at p
  obtain ⟨h1, h2, h3⟩ := rs.x y (by rw [e])
  split at p
  · rename_i he
    split at p
    · rename_i t ht
      refine ⟨_, h1, rfl, by rw [h2, e, ← hc, ← he], ?_⟩
      rcases h3 with ⟨n1, n2, _⟩ | ⟨dd, vs, e1, f1, n1, rl⟩
      · rw [n1] at ht; cases ht
      · have := (RvK.zip n1 rl).look (f := f)
        rw [ht] at this
        cases hv : (y.e.ns.zip vs).lookup f with
        | none => rw [hv] at this; exact this.elim
        | some w => rw [hv] at this; exact ⟨dd, _, w, e1, f1.1, hv, p S rfl k (Step.refl S) w this⟩
    · exact p.elim
  · exact p.elim
/-- one of two readings -/
theorem pe_alt {X : Cx} {e : Expr} {t1 t2 : TE} (h1 : PE X e t1) (h2 : PE X e t2) : PE X e (fun σ H Q => t1 σ H Q ∨ t2 σ H Q) := ⟨fun pins s σ H Q I h => h.elim (h1.run pins s σ H Q I) (h2.run pins s σ H Q I)⟩
@[simp] def mAlt (f g : FE) : FE := fun τ h => match f τ h with | .bad => g τ h | r => r
theorem mAlt_bad {f g : FE} {τ : LS} {h : AH} (e : f τ h = .bad) : mAlt f g τ h = g τ h := by unfold mAlt; rw [e]
theorem sim_alt {t1 t2 : TE} {f g : FE} (h1 : SimE G E t1 f) (h2 : SimE G E t2 g) : SimE G E (fun σ H Q => t1 σ H Q ∨ t2 σ H Q) (mAlt f g) := fun S σ τ Q e k rs p => by
  unfold mAlt at p
  split at p
  · exact .inr (h2 S σ τ Q e k rs p)
  · exact .inl (h1 S σ τ Q e k rs p)
/-- isinstance(n, c), isinstance(n, (c, ..)), n of the class c0 -/
def rIsX (K : PySem.W.Frag) (D a : Addr) (cls : Value) (d : Option Addr) : List V → Hp → VK → Prop := fun xs H Q => cls = .ref D ∧ (∃ dd fs, d = some dd ∧ H dd = some (.xd fs)) ∧
  ((∃ (c : V) (u : Value) (b : Bool), xs = [.ref a, c] ∧ ClsV c u ∧ PySem.W.kitOne K (.ref D) u = some b ∧ Q (.bl b) H) ∨
    ∃ (tp : Addr) (cs : List V) (us : List Value) (b : Bool), xs = [.ref a, .ref tp] ∧ H tp = some (.tup cs) ∧ Paired ClsV cs us ∧ PySem.W.kitAny K (.ref D) us = some b ∧ Q (.bl b) H)
theorem call_isX {X : Cx} {a D : Addr} {oe : Obj} {pn : List (Addr × Obj)} {cls : Value} {d : Option Addr} (C : ExcC X.K D) (hz : Zc cls d oe) (hf : ∃ vs, oe.data = .fields vs) : CallR (X.suite a ((a, oe) :: pn)) (.builtin "isinstance") (rIsX X.K D a cls d) := by
  intro pins s σ H xs us Q I r h
  obtain ⟨rfl, ⟨dd, fs, rfl, ed⟩, h⟩ := h
  obtain ⟨ha, _⟩ := I.pin (a, oe) (List.mem_append_left _ List.mem_cons_self)
  obtain ⟨vs, hd⟩ := hf
  have hx : ObjOk X.prog X.w H s.heap dd (.xd fs) := I.hok dd _ ed
  obtain ⟨mA, hns, hr⟩ := hx
  obtain ⟨od, ho, hl⟩ := lookIn_ns hns
  have J : PySem.W.InstAt s.heap a oe D (some od) := ⟨ha, hz.1, by unfold PySem.W.notCls; rw [hd] <;> rfl, by rw [hz.2]; exact ho⟩
  have hcl : (PySem.W.clsIn X.K D).isSome = true := by
    obtain ⟨cd, hc, _⟩ := PySem.W.any_some C.hd
    rw [hc]; rfl
  have Z := PySem.W.kitx_exc (x := a) (ox := oe) (od := some od) hcl C.hg C.hk C.hs C.ha C.hn C.ht C.hm
  rcases h with ⟨c, u, b, rfl, k, e, q⟩ | ⟨tp, cs, us', b, rfl, hT, k, e, q⟩
  · obtain ⟨u1, u2, rfl, r1, r2⟩ := vals2 r
    have e2 := k.eq r2
    subst e2
    cases r1
    exact PySem.W.kia_one Z I.kIn J e (fun z => nomatch z) fun tk => ⟨.bl b, H, I.tok tk, rfl, q⟩
  · obtain ⟨u1, u2, rfl, r1, r2⟩ := vals2 r
    cases (show u2 = Value.ref tp from r2)
    cases r1
    obtain ⟨_, its, rv, o, h1, h2, n, h3⟩ := (show ObjOk X.prog X.w H s.heap tp (.tup cs) from I.hok tp _ hT)
    have e3 := ClsV.all k rv
    subst e3
    obtain ⟨oc, od', dt, sl⟩ := o
    simp only at h2 h3
    subst h2 h3
    exact PySem.W.kia_tup Z I.kIn J h1 e (fun z => nomatch z) fun tk => ⟨.bl b, H, I.tok tk, rfl, q⟩
@[simp] def mIsX (e : Exc) (c : Str) (b : Bool) : FE := fun _ h => if e.c = c then (match e.ns with | [] => .bad | _ => .ok (.bl b) h) else .bad
theorem isX_at {σ : L2.St} {τ : LS} (e : S.G = ⟨K, ca, fa, some y⟩) (rs : RS S τ σ) {c : Str} {C : Addr} (hc : ca c = C) (he : y.e.c = c) (hn : y.e.ns ≠ []) : σ[y.i]? = some (some (.ref y.a)) ∧ y.cls = .ref C ∧ ∃ dd fs, y.d = some dd ∧ S.H dd = some (.xd fs) ∧ Fz S dd (.xd fs) := by
  obtain ⟨h1, h2, h3⟩ := rs.x y (by rw [e])
  refine ⟨h1, by rw [h2, e, ← hc, ← he], ?_⟩
  rcases h3 with ⟨n1, _⟩ | ⟨dd, vs, e1, f1, n1, rl⟩
  · exact (hn n1).elim
  · exact ⟨dd, _, e1, f1.1, f1⟩
theorem sim_isX1 {C : Addr} {c : Str} {v : V} {u : Value} {b : Bool} (hc : ca c = C) (hv : ClsV v u) (hk : PySem.W.kitOne K (.ref C) u = some b) : SimE ⟨K, ca, fa, some y⟩ E (tCB (rIsX K C y.a y.cls y.d) (tCons (tVar y.i) (tCons (tC v) tNil))) (mIsX y.e c b) := fun S σ τ Q e k rs p => by
  unfold mIsX at p
  split at p
  · rename_i he
    split at p
    · exact p.elim
    · rename_i hn
      obtain ⟨h1, h2, dd, fs, h3, h4, _⟩ := isX_at e rs hc he (fun z => hn z)
      exact ⟨_, h1, h2, ⟨dd, fs, h3, h4⟩, .inl ⟨v, u, b, rfl, hv, hk, p S rfl k (Step.refl S) _ (by simp only [Rv])⟩⟩
  · exact p.elim
/-- a tuple of classes -/
inductive CTs : TA → List V → Prop
  | nil : CTs tNil []
  | cons {v : V} {t : TA} {vs : List V} : CTs t vs → CTs (tCons (tC v) t) (v :: vs)
theorem CTs.go {t : TA} {vs : List V} (h : CTs t vs) {σ : L2.St} {H : Hp} {Q : List V → Hp → Prop} (q : Q vs H) : t σ H Q := by
  induction h generalizing Q with
  | nil => exact q
  | cons _ ih => exact ih q
theorem sim_isXt {C : Addr} {c : Str} {t : TA} {vs : List V} {us : List Value} {b : Bool} (hc : ca c = C) (ht : CTs t vs) (hl : vs.length ≤ 100) (hv : Paired ClsV vs us) (hk : PySem.W.kitAny K (.ref C) us = some b) : SimE ⟨K, ca, fa, some y⟩ E (tCB (rIsX K C y.a y.cls y.d) (tCons (tVar y.i) (tCons (tTup t) tNil))) (mIsX y.e c b) := fun S σ τ Q e k rs p => by
  unfold mIsX at p
  split at p
  · rename_i he
    split at p
    · exact p.elim
    · rename_i hn
      obtain ⟨h1, h2, dd, fs, h3, h4, f1⟩ := isX_at e rs hc he (fun z => hn z)
      refine ⟨_, h1, ht.go ⟨Nat.le_trans hl (by decide), fun q hq => ?_⟩⟩
      have g := Grow.upd (u := HO.tup vs) hq
      have st := step_at k g
      exact ⟨h2, ⟨dd, fs, h3, g dd _ h4⟩, .inr ⟨q, vs, us, b, rfl, upd_same, hv, hk, p (S.at (upd S.H q (.tup vs))) rfl (ok_at k g) st _ (by simp only [Rv])⟩⟩
  · exact p.elim
end
end M
/-! ### methods of texts; is of bools; insert, index, list * int; o.f op= e, d[k] op= e; isinstance with a tuple of built-in types; a module's dict asked with any text -/
namespace M
open PySem PySem.Spec PyProof.Rows L2
variable {G : Env} {W : WX} {S : Sta} {E : L2.St → XK}
/-! methods of texts -/
@[simp] def mM0 (g : Str → AH → Res T) (fo : FE) : FE := fun τ h => (fo τ h).bind fun x h1 => match x with | .str a => g a h1 | _ => .bad
@[simp] def mM1 (g : Str → T → AH → Res T) (fo fe : FE) : FE := fun τ h => (fo τ h).bind fun x h1 => match x with | .str a => (fe τ h1).bind fun y h2 => g a y h2 | _ => .bad
def SimM0 (G : Env) (r : V → List V → Hp → VK → Prop) (g : Str → AH → Res T) : Prop := ∀ (S : Sta) (a : Str) (X : Exc → Sta → Prop) (Q : VK), S.G = G → Ok S → PostG S X (fun t S' => ∀ v, Rv S' t v → Q v S'.H) (g a S.h) → r (.str a) [] S.H Q
def SimM1 (G : Env) (r : V → List V → Hp → VK → Prop) (g : Str → T → AH → Res T) : Prop := ∀ (S : Sta) (a : Str) (y : T) (v : V) (X : Exc → Sta → Prop) (Q : VK), S.G = G → Ok S → Rv S y v → PostG S X (fun t S' => ∀ v, Rv S' t v → Q v S'.H) (g a y S.h) → r (.str a) [v] S.H Q
theorem sim_M0 {r : V → List V → Hp → VK → Prop} {g : Str → AH → Res T} {to : TE} {fo : FE} (hr : SimM0 G r g) (ho : SimE G E to fo) : SimE G E (tM0 r to) (mM0 g fo) := fun S σ τ Q e k rs p => by
  refine ho S σ τ _ e k rs (PostG.imp (fun x S1 q u ru => ?_) (PostG.bind p))
  obtain ⟨k1, s1, q⟩ := q
  split at q
  · rename_i a
    simp only [Rv] at ru; subst ru
    exact ⟨⟨a, rfl⟩, hr S1 a _ Q (s1.G.trans e) k1 q⟩
  · exact q.elim
theorem sim_M1 {r : V → List V → Hp → VK → Prop} {g : Str → T → AH → Res T} {to te : TE} {fo fe : FE} (hr : SimM1 G r g) (ho : SimE G E to fo) (he : SimE G E te fe) : SimE G E (tM1 r to te) (mM1 g fo fe) := fun S σ τ Q e k rs p => by
  refine ho S σ τ _ e k rs (PostG.imp (fun x S1 q u ru => ?_) (PostG.bind p))
  obtain ⟨k1, s1, q⟩ := q
  split at q
  · rename_i a
    simp only [Rv] at ru; subst ru
    refine ⟨⟨a, rfl⟩, he S1 σ τ _ (s1.G.trans e) k1 (rs.mono s1) (PostG.imp (fun y S2 q v rv => ?_) (PostG.bind q))⟩
    obtain ⟨k2, s2, q⟩ := q
    exact hr S2 a y v _ Q (s2.G.trans (s1.G.trans e)) k2 rv q
  · exact q.elim
@[simp] def gUpper (a : Str) (h : AH) : Res T := if a.length ≤ 5592405 then .ok (.str (Txt.upper a)) h else .bad
theorem sr_upper : SimM0 G (fun x xs H Q => ∃ a, x = .str a ∧ xs = [] ∧ a.length ≤ 5592405 ∧ Q (.str (Txt.upper a)) H) gUpper := fun S a X Q e k p => by
  unfold gUpper at p
  split at p
  · rename_i hl; exact ⟨a, rfl, rfl, hl, p S rfl k (Step.refl S) _ (by simp only [Rv])⟩
  · exact p.elim
@[simp] def gStarts (a : Str) (y : T) (h : AH) : Res T := match y with | .str b => .ok (.bl (Txt.startswith a b)) h | _ => .bad
theorem sr_starts : SimM1 G (fun x xs H Q => ∃ a b, x = .str a ∧ xs = [.str b] ∧ Q (.bl (Txt.startswith a b)) H) gStarts := fun S a y v X Q e k r p => by
  unfold gStarts at p
  split at p
  · simp only [Rv] at r; subst r; exact ⟨a, _, rfl, rfl, p S rfl k (Step.refl S) _ (by simp only [Rv])⟩
  · exact p.elim
@[simp] def gFind (a : Str) (y : T) (h : AH) : Res T := match y with | .str b => .ok (.int (Txt.find a b)) h | _ => .bad
theorem sr_find : SimM1 G (fun x xs H Q => ∃ a b, x = .str a ∧ xs = [.str b] ∧ Q (.int (Txt.find a b)) H) gFind := fun S a y v X Q e k r p => by
  unfold gFind at p
  split at p
  · simp only [Rv] at r; subst r; exact ⟨a, _, rfl, rfl, p S rfl k (Step.refl S) _ (by simp only [Rv])⟩
  · exact p.elim
@[simp] def gPart (a : Str) (y : T) (h : AH) : Res T := match y with
  | .str b => if (b.length == 0) = false ∧ a.length ≤ sizeLine then .ok (.tup [.str (Txt.partition a b).1, .str (Txt.partition a b).2.1, .str (Txt.partition a b).2.2]) h else .bad
  | _ => .bad
theorem sr_part : SimM1 G (fun x xs H Q => ∃ a b, x = .str a ∧ xs = [.str b] ∧ (b.length == 0) = false ∧ a.length ≤ sizeLine ∧ ∀ p, H p = none → Q (.ref p) (upd H p (.tup [.str (Txt.partition a b).1, .str (Txt.partition a b).2.1, .str (Txt.partition a b).2.2]))) gPart := fun S a y v X Q e k r p => by
  unfold gPart at p
  split at p
  · split at p
    · rename_i b hl
      simp only [Rv] at r; subst r
      exact ⟨a, b, rfl, rfl, hl.1, hl.2, new_fz k p fun q hq f => rv_tup f (RvL.cons (by simp only [Rv]) (RvL.cons (by simp only [Rv]) (RvL.cons (by simp only [Rv]) RvL.nil)))⟩
    · exact p.elim
  · exact p.elim
theorem rvL_strs : ∀ ys : List Str, RvL S (ys.map T.str) (ys.map V.str)
  | [] => RvL.nil
  | y :: ys => RvL.cons (by simp only [Rv]) (rvL_strs ys)
@[simp] def gSplit (a : Str) (y : T) (h : AH) : Res T := match y with
  | .str b => if (b.length == 0) = false ∧ a.length + 2 ≤ sizeLine then .ok (.lst ((Txt.split a b).map .str)) h else .bad
  | _ => .bad
theorem sr_split : SimM1 G (fun x xs H Q => ∃ a b, x = .str a ∧ xs = [.str b] ∧ (b.length == 0) = false ∧ a.length + 2 ≤ sizeLine ∧ rNewStrs (Txt.split a b) H Q) gSplit := fun S a y v X Q e k r p => by
  unfold gSplit at p
  split at p
  · split at p
    · rename_i b hl
      simp only [Rv] at r; subst r
      exact ⟨a, b, rfl, rfl, hl.1, hl.2, new_fz k p fun q hq f => rv_lst f (rvL_strs _)⟩
    · exact p.elim
  · exact p.elim
/-- all texts, or not -/
def strsOf : List T → Option (List Str)
  | [] => some []
  | .str x :: r => (strsOf r).map (x :: ·)
  | _ :: _ => none
theorem strsOf_ok : ∀ {l : List T} {vs : List V} {xs : List Str}, RvL S l vs → strsOf l = some xs → vs = xs.map V.str
  | [], _, _, r, h => by
    simp only [RvL] at r
    unfold strsOf at h; cases h; exact r
  | t :: l, vs, xs, r, h => by
    simp only [RvL] at r
    obtain ⟨v, m, rfl, r1, r2⟩ := r
    unfold strsOf at h
    split at h
    · rename_i e; cases e
    · rename_i x r' e
      cases e
      obtain ⟨ys, h1, rfl⟩ := Option.map_eq_some_iff.mp h
      simp only [Rv] at r1; subst r1
      rw [strsOf_ok r2 h1]; rfl
    · cases h
@[simp] theorem strsOf_map : ∀ xs : List Str, strsOf (xs.map T.str) = some xs
  | [] => rfl
  | x :: xs => by show (strsOf (xs.map T.str)).map (x :: ·) = _; rw [strsOf_map xs]; rfl
@[simp] def gJoin (a : Str) (y : T) (h : AH) : Res T := match (seqOf y h).bind strsOf with
  | some ys => if (ys.map (·.length)).sum + ys.length * a.length ≤ 16777216 then .ok (.str (Txt.join a ys)) h else .bad
  | none => .bad
theorem sr_join : SimM1 G (fun x xs H Q => ∃ a p, ∃ ys : List Str, x = .str a ∧ xs = [.ref p] ∧ (SqL G.K H p (ys.map V.str) ∨ SqT G.K H p (ys.map V.str)) ∧ (ys.map (·.length)).sum + ys.length * a.length ≤ 16777216 ∧ Q (.str (Txt.join a ys)) H) gJoin := fun S a y v X Q e k r p => by
  unfold gJoin at p
  split at p
  · rename_i ys hy
    split at p
    · rename_i hl
      obtain ⟨l, h1, h2⟩ := Option.bind_eq_some_iff.mp hy
      obtain ⟨q, vs, rfl, hs, rl⟩ := seqOf_ok k h1 r
      have := strsOf_ok rl h2
      subst this
      rw [e] at hs
      exact ⟨a, q, ys, rfl, rfl, hs, hl, p S rfl k (Step.refl S) _ (by simp only [Rv])⟩
    · exact p.elim
  · exact p.elim
theorem x_join {X : Cx} {K : PySem.W.Frag} (h : X.K = K) {o e : Expr} {to te : TE} {apos pos : Pos} (ho : PE X o to) (he : PE X e te) (hs : starEach [e] X.env = [(false, eval e X.env)] := by rfl) (hbase : attributeBase o "join" X.env (eval o X.env) = eval o X.env := by rfl) (hline : (apos.endLine == pos.line) = true := by rfl) :
    PE X (.Call (.Attribute o "join" apos) [e] [] pos) (tM1 (fun x xs H Q => ∃ a p, ∃ ys : List Str, x = .str a ∧ xs = [.ref p] ∧ (SqL K H p (ys.map V.str) ∨ SqT K H p (ys.map V.str)) ∧ (ys.map (·.length)).sum + ys.length * a.length ≤ 16777216 ∧ Q (.str (Txt.join a ys)) H) to te) := h ▸ pe_join ho he hs hbase hline
/-! order of texts -/
@[simp] abbrev oLeS := P2 (fun x y => match x, y with | .str i, .str j => some (.bl (!decide (j.cps.toList < i.cps.toList))) | _, _ => none)
@[simp] abbrev oGtS := P2 (fun x y => match x, y with | .str i, .str j => some (.bl (decide (j.cps.toList < i.cps.toList))) | _, _ => none)
@[simp] abbrev oGeS := P2 (fun x y => match x, y with | .str i, .str j => some (.bl (!decide (i.cps.toList < j.cps.toList))) | _, _ => none)
theorem so_leS : SimR2 G (fun x y H Q => ∃ i j, x = .str i ∧ y = .str j ∧ Q (.bl (!decide (j.cps.toList < i.cps.toList))) H) oLeS := simP2 fun S x y t u v Q e k ru rv hg q => by
  split at hg
  · cases hg; simp only [Rv] at ru rv; subst ru; subst rv; exact ⟨_, _, rfl, rfl, q _ (by simp only [Rv])⟩
  · cases hg
theorem so_gtS : SimR2 G (fun x y H Q => ∃ i j, x = .str i ∧ y = .str j ∧ Q (.bl (decide (j.cps.toList < i.cps.toList))) H) oGtS := simP2 fun S x y t u v Q e k ru rv hg q => by
  split at hg
  · cases hg; simp only [Rv] at ru rv; subst ru; subst rv; exact ⟨_, _, rfl, rfl, q _ (by simp only [Rv])⟩
  · cases hg
theorem so_geS : SimR2 G (fun x y H Q => ∃ i j, x = .str i ∧ y = .str j ∧ Q (.bl (!decide (i.cps.toList < j.cps.toList))) H) oGeS := simP2 fun S x y t u v Q e k ru rv hg q => by
  split at hg
  · cases hg; simp only [Rv] at ru rv; subst ru; subst rv; exact ⟨_, _, rfl, rfl, q _ (by simp only [Rv])⟩
  · cases hg
/-! is of bools -/
@[simp] abbrev oIsB := P2 (fun x y => match x, y with | .bl a, .bl b => some (.bl (decide (a = b))) | _, _ => none)
@[simp] abbrev oNotB := P2 (fun x y => match x, y with | .bl a, .bl b => some (.bl (!decide (a = b))) | _, _ => none)
theorem so_isB : SimR2 G rIsB oIsB := simP2 fun S x y t u v Q e k ru rv hg q => by
  split at hg
  · cases hg; simp only [Rv] at ru rv; subst ru; subst rv; exact ⟨_, _, rfl, rfl, q _ (by simp only [Rv])⟩
  · cases hg
theorem so_notB : SimR2 G rNotB oNotB := simP2 fun S x y t u v Q e k ru rv hg q => by
  split at hg
  · cases hg; simp only [Rv] at ru rv; subst ru; subst rv; exact ⟨_, _, rfl, rfl, q _ (by simp only [Rv])⟩
  · cases hg
/-! list * int: a list that is wholly known -/
@[simp] def gRep (x y : T) (h : AH) : Option (List T) := match y with
  | .int k => (lstIn x h).bind fun l => if -(2 ^ 60) ≤ k ∧ k.natAbs.log2 < 60 ∧ l.length * k.toNat ≤ sizeLine then some (List.replicate k.toNat l).flatten else none
  | _ => none
theorem RvL.rep {l : List T} {vs : List V} (r : RvL S l vs) : ∀ n, RvL S (List.replicate n l).flatten (List.replicate n vs).flatten
  | 0 => RvL.nil
  | n + 1 => by
    rw [List.replicate_succ, List.replicate_succ, List.flatten_cons, List.flatten_cons]
    exact r.app (RvL.rep r n)
@[simp] def oRep : T → T → AH → Res T := fun x y h => (pur (gRep x y h) h).bind fun l h1 => .ok (.lst l) h1
@[simp] def oRepO : T → T → AH → Res T := fun x y h => (pur (gRep x y h) h).bind fun l h1 => .ok (.obj h1.length) (h1 ++ [some (.lst l)])
theorem rep_ok {x y : T} {u v : V} {l : List T} (k : Ok S) (ru : Rv S x u) (rv : Rv S y v) (h : gRep x y S.h = some l) : ∃ p i xs, u = .ref p ∧ v = .int i ∧ S.H p = some (.lst xs) ∧ -(2 ^ 63) ≤ i ∧ i < 2 ^ 63 ∧ xs.length * i.toNat ≤ sizeLine ∧ RvL S l (List.replicate i.toNat xs).flatten := by
  unfold gRep at h
  split at h
  · rename_i i
    obtain ⟨m, hm, h⟩ := Option.bind_eq_some_iff.mp h
    split at h
    · rename_i hz
      cases h
      obtain ⟨p, vs, rfl, hp, r⟩ := lstIn_ok k hm ru
      simp only [Rv] at rv
      have hb : i.natAbs < 2 ^ 60 := by
        by_cases z : i.natAbs = 0
        · omega
        · exact (Nat.log2_lt z).mp hz.2.1
      have : (2 : Nat) ^ 60 = 1152921504606846976 := by decide
      exact ⟨p, i, vs, rfl, rv, hp, by omega, by omega, by rw [r.len]; exact hz.2.2, r.rep _⟩
    · cases h
  · cases h
theorem so_rep : SimR2 G rRep oRep := fun S x y u v X Q e k ru rv p => by
  unfold oRep at p
  cases hg : gRep x y S.h with
  | none => rw [hg] at p; exact p.elim
  | some l =>
    rw [hg] at p
    obtain ⟨q, i, xs, rfl, rfl, hq, b1, b2, hl, r⟩ := rep_ok k ru rv hg
    refine ⟨q, i, xs, rfl, rfl, hq, b1, b2, hl, ?_⟩
    exact new_fz k p fun a ha f => rv_lst f (r.mono (step_at k (Grow.upd ha)))
theorem so_repO : SimR2 G rRep oRepO := fun S x y u v X Q e k ru rv p => by
  unfold oRepO at p
  cases hg : gRep x y S.h with
  | none => rw [hg] at p; exact p.elim
  | some l =>
    rw [hg] at p
    obtain ⟨q, i, xs, rfl, rfl, hq, b1, b2, hl, r⟩ := rep_ok k ru rv hg
    refine ⟨q, i, xs, rfl, rfl, hq, b1, b2, hl, ?_⟩
    exact new_obj k p fun S' st => ⟨_, rfl, r.mono st⟩
/-! insert, index -/
@[simp] def gIns : T → List T → AH → Res T
  | .obj i, [.int j, y], h => match h[i]? with
    | some (some (.lst l)) => if l.length < sizeLine ∧ 0 ≤ j ∧ j.natAbs.log2 < 60 then .ok .non (h.set i (some (.lst (l.take j.toNat ++ [y] ++ l.drop j.toNat)))) else .bad
    | _ => .bad
  | _, _, _ => .bad
theorem sm_insert : SimM G "list" (fun x vs H Q => ∃ (l : Addr) (xs : List V) (i : Int) (y : V), x = .ref l ∧ vs = [.int i, y] ∧ H l = some (.lst xs) ∧ xs.length < sizeLine ∧ 0 ≤ i ∧ i < 2 ^ 63 ∧ Q .non (upd H l (.lst (xs.take i.toNat ++ [y] ++ xs.drop i.toNat)))) gIns := fun S x xs u us X Q e k ru rus p => by
  unfold gIns at p
  split at p
  · rename_i i j y
    split at p
    · rename_i l hl
      split at p
      · rename_i hz
        obtain ⟨a, vs, rfl, hp, ha, rl⟩ := obj_lst k hl ru
        simp only [RvL] at rus
        obtain ⟨v, _, rfl, r1, w, _, rfl, r2, rfl⟩ := rus
        simp only [Rv] at r1
        subst r1
        have hb : j.natAbs < 2 ^ 60 := by
          by_cases z : j.natAbs = 0
          · omega
          · exact (Nat.log2_lt z).mp hz.2.2
        have : (2 : Nat) ^ 60 = 1152921504606846976 := by decide
        refine ⟨a, vs, j, w, rfl, rfl, ha, by rw [rl.len]; exact hz.1, hz.2.1, by omega, ?_⟩
        exact put_done k hl hp (RO.mk_lst (((rl.take _).app (RvL.cons r2 RvL.nil)).app (rl.drop _))) (by simp only [Rv]) p
      · exact p.elim
    · exact p.elim
  · exact p.elim
theorem x_index {X : Cx} {K : PySem.W.Frag} (h : X.K = K) : MtR X "list.index" (rIndex K) := h ▸ mt_index
/-- the place of the first like thing -/
def idxT (y : T) : List T → Option Nat
  | [] => none
  | x :: r => if eqF x y = true then some 0 else (idxT y r).map (· + 1)
@[simp] def gIdx : T → List T → AH → Res T := fun x xs h => match xs with
  | [y] => match lstOf x h with
    | some l => if flatT y = true ∧ l.all flatT = true then (match idxT y l with | some j => .ok (.int (j : Nat)) h | none => .bad) else .bad
    | none => .bad
  | _ => .bad
theorem idxT_ok {y : T} {w : V} (ry : Rv S y w) (fy : flatT y = true) : ∀ {l : List T} {vs : List V} {j : Nat}, RvL S l vs → l.all flatT = true → idxT y l = some j → ∃ z, vs[j]? = some z ∧ eqV z w = true ∧ ∀ (m : Nat) (z' : V), m < j → vs[m]? = some z' → eqV z' w = false
  | [], _, _, _, _, h => by cases h
  | x :: l, vs, j, r, fl, h => by
    simp only [RvL] at r
    obtain ⟨v, m, rfl, r1, r2⟩ := r
    rw [List.all_cons, Bool.and_eq_true] at fl
    have eq := eqF_ok ry r1 fy fl.1
    unfold idxT at h
    split at h
    · rename_i hx
      cases h
      exact ⟨v, rfl, by rw [eq]; exact hx, fun m z' hm => by omega⟩
    · rename_i hx
      obtain ⟨i, hi, rfl⟩ := Option.map_eq_some_iff.mp h
      obtain ⟨z, h1, h2, h3⟩ := idxT_ok ry fy r2 fl.2 hi
      refine ⟨z, by simpa using h1, h2, fun q z' hq hz => ?_⟩
      match q with
      | 0 =>
        simp at hz; subst hz
        rw [eq]; exact Bool.eq_false_iff.mpr hx
      | q + 1 => exact h3 q z' (by omega) (by simpa using hz)
theorem sm_index : SimM G "list" (rIndex G.K) gIdx := fun S x xs u us X Q e k ru rus p => by
  unfold gIdx at p
  split at p
  · split at p
    · rename_i y l hl
      split at p
      · rename_i hf
        split at p
        · rename_i j hj
          obtain ⟨a, vs, rfl, hs, rl⟩ := lstOf_ok k hl ru
          simp only [RvL] at rus
          obtain ⟨w, _, rfl, r1, rfl⟩ := rus
          obtain ⟨z, h1, h2, h3⟩ := idxT_ok r1 hf.1 rl hf.2 hj
          rw [e] at hs
          exact ⟨a, vs, w, j, z, rfl, rfl, hs, flat_ok r1 hf.1, flats_ok rl hf.2, h1, h2, h3, p S rfl k (Step.refl S) _ (by simp only [Rv])⟩
        · exact p.elim
      · exact p.elim
    · exact p.elim
  · exact p.elim
/-! isinstance(x, (T, ..)) of built-in types -/
def kitL (a : String) : List String → Option Bool
  | [] => some false
  | b :: r => match kitB a b with | some true => some true | some false => kitL a r | none => none
@[simp] def mIsiT (ns : List String) (fe : FE) : FE := fun τ h => (fe τ h).bind fun x h1 => match (tyOf x h1).bind fun a => kitL a ns with | some b => .ok (.bl b) h1 | none => .bad
theorem kitL_ok {K : PySem.W.Frag} {a : String} : ∀ {ns : List String} {b : Bool}, kitL a ns = some b → PySem.W.kitAny K (.type a) (ns.map .type) = some b
  | [], _, h => h
  | n :: ns, b, h => by
    unfold kitL at h
    split at h
    · rename_i hb; cases h
      exact kitAny_cons (kit_ty hb) (fun z => Bool.noConfusion z) fun _ => rfl
    · rename_i hb
      exact kitAny_cons (kit_ty hb) (fun _ => kitL_ok h) fun z => Bool.noConfusion z
    · cases h
theorem paired_ty : ∀ ns : List String, Paired ClsV (ns.map V.ty) (ns.map Value.type)
  | [] => .nil
  | n :: ns => .cons (.ty n) (paired_ty ns)
theorem sim_isiT {ns : List String} {te : TE} {fe : FE} {t : TA} (hl : ns.length ≤ 100) (he : SimE G E te fe) (ht : CTs t (ns.map V.ty)) : SimE G E (tCB (rIsiT G.K) (tCons te (tCons (tTup t) tNil))) (mIsiT ns fe) := fun S σ τ Q e k rs p => by
  refine he S σ τ _ e k rs (PostG.imp (fun x S1 q u ru => ?_) (PostG.bind p))
  obtain ⟨k1, s1, q⟩ := q
  split at q
  · rename_i b hb
    obtain ⟨a, h1, h2⟩ := Option.bind_eq_some_iff.mp hb
    refine ht.go ⟨by rw [List.length_map]; exact Nat.le_trans hl (by decide), fun r hr => ?_⟩
    have g := Grow.upd (u := HO.tup (ns.map V.ty)) hr
    have st := step_at k1 g
    have ty := tyOf_ok (S := S1.at (upd S1.H r (.tup (ns.map V.ty)))) (ok_at k1 g) (ru.mono st) (n := a) h1
    have eG : (S1.at (upd S1.H r (HO.tup (ns.map V.ty)))).G = G := st.G.trans (s1.G.trans e)
    rw [eG] at ty
    exact ⟨u, r, ns.map V.ty, _, ns.map Value.type, b, rfl, upd_same, paired_ty ns, ty, kitL_ok h2, q (S1.at (upd S1.H r (.tup (ns.map V.ty)))) rfl (ok_at k1 g) st (.bl b) (by simp only [Rv])⟩
  · exact q.elim
theorem x_isiT {X : Cx} {K : PySem.W.Frag} (h : X.K = K) : CallR X (.builtin "isinstance") (rIsiT K) := h ▸ call_isiT
/-! o.f op= e -/
@[simp] def sFldAugM (c f : Str) (g : T → T → AH → Res T) (fo fv : FE) : FS := fun τ h => liftE (fo τ h) τ fun x h1 => match x with
  | .obj i => match h1[i]? with
    | some (some (.ins c' m)) => if c' = c ∧ m.length < 1000 then (match m.lookup f with
      | some a => liftE (fv τ h1) τ fun y h2 => liftE (g a y h2) τ fun z h3 => match h3[i]? with
        | some (some (.ins c2 m2)) => if c2 = c ∧ m2.length < 1000 then .ok (.nx τ) (h3.set i (some (.ins c2 (putFT f z m2)))) else .bad
        | _ => .bad
      | none => .bad) else .bad
    | _ => .bad
  | _ => .bad
theorem sim_fldaug {c f : Str} {ta tv : TE} {fo fv : FE} {rd : V → V → Hp → VK → Prop} {g : T → T → AH → Res T} (hC : Cls G.K (G.ca c)) (hn : NoAttr G.K (G.ca c) f) (hr : SimR2 G rd g) (ha : SimE G (WE W) ta fo) (hv : SimE G (WE W) tv fv) : SimS G W (sFldAug G.K ta tv rd f) (sFldAugM c f g fo fv) := fun S σ τ D e k rs p => by
  refine ha S σ τ _ e k rs (PostG.imp (fun x S1 q u ru => ?_) (PG.lift rs p))
  obtain ⟨k1, s1, q⟩ := q
  have e1 := s1.G.trans e
  split at q
  · rename_i i
    split at q
    · rename_i c' m hm
      split at q
      · rename_i hz
        obtain ⟨rfl, hz⟩ := hz
        split at q
        · rename_i t ht
          obtain ⟨a, ho, rfl, hp, hH, dx, vs, rfl, rk⟩ := obj_at k1 hm ru
          have := rk.look (f := f)
          rw [ht] at this
          cases hv' : vs.lookup f with
          | none => rw [hv'] at this; exact this.elim
          | some w =>
            rw [hv'] at this
            refine ⟨a, G.ca c', dx, vs, w, rfl, by rw [hH, e1], hC, hn, hv', ?_⟩
            refine hv S1 σ τ _ e1 k1 (rs.mono s1) (PostG.imp (fun y S2 q2 v2 rv2 => ?_) (PG.lift (rs.mono s1) q))
            obtain ⟨k2, s2, q2⟩ := q2
            have e2 := s2.G.trans e1
            have this : Rv S1 t w := this
            refine hr S2 t y w v2 _ _ e2 k2 (this.mono s2) rv2 (PostG.imp (fun z S3 q3 v3 rv3 => ?_) (PG.lift (rs.mono (s1.trans s2)) q2))
            obtain ⟨k3, s3, q3⟩ := q3
            have e3 := s3.G.trans e2
            split at q3
            · rename_i c2 m2 hm2
              split at q3
              · rename_i hz2
                obtain ⟨rfl, hz2⟩ := hz2
                have hp3 := s3.al_lt (s2.al_lt hp)
                obtain ⟨a', ho', ea, hp', hH', dx', vs', rfl, rk'⟩ := obj_at k3 hm2 (show Rv S3 (.obj i) (.ref a) by simp only [Rv]; exact ⟨a, hp3, rfl⟩)
                cases ea
                have st := step_put (o' := .ins c2 (putFT f z m2)) (u := .ins (S3.G.ca c2) dx' (putF f v3 vs')) k3 hm2 hp'
                have q4 := q3 (S3.put _ _ _) rfl (ok_put k3 hm2 hp' ⟨dx', _, rfl, rk'.putF rv3⟩) st σ (rs.mono (((s1.trans s2).trans s3).trans st))
                refine ⟨dx', vs', by rw [hH', e3], by rw [rk'.len]; exact hz2, ?_⟩
                rw [← e3]; exact q4
              · exact q3.elim
            · exact q3.elim
        · exact q.elim
      · exact q.elim
    · exact q.elim
  · exact q.elim
/-! d[k] op= e -/
@[simp] def sDAugM (g : T → T → AH → Res T) (fd fy fv : FE) : FS := fun τ h => liftE (fd τ h) τ fun x h1 => liftE (fy τ h1) τ fun y h2 => match x, keyOf y with
  | .obj i, some kk => match h2[i]? with
    | some (some (.dct m)) => (match getT m kk with
      | some a => liftE (fv τ h2) τ fun y2 h3 => liftE (g a y2 h3) τ fun z h4 => match h4[i]? with
        | some (some (.dct m2)) => if m2.length < sizeLine then .ok (.nx τ) (h4.set i (some (.dct (putT m2 kk z)))) else .bad
        | _ => .bad
      | none => .bad)
    | _ => .bad
  | _, _ => .bad
theorem sim_daug {td ty tv : TE} {fd fy fv : FE} {rd : V → V → Hp → VK → Prop} {g : T → T → AH → Res T} (hr : SimR2 G rd g) (hd : SimE G (WE W) td fd) (hy : SimE G (WE W) ty fy) (hv : SimE G (WE W) tv fv) : SimS G W (sDAug td ty tv rd) (sDAugM g fd fy fv) := fun S σ τ D e k rs p => by
  refine hd S σ τ _ e k rs (PostG.imp (fun x S1 q u ru => ?_) (PG.lift rs p))
  obtain ⟨k1, s1, q⟩ := q
  have e1 := s1.G.trans e
  refine hy S1 σ τ _ e1 k1 (rs.mono s1) (PostG.imp (fun y S2 q v rv => ?_) (PG.lift (rs.mono s1) q))
  obtain ⟨k2, s2, q⟩ := q
  have e2 := s2.G.trans e1
  have s12 := s1.trans s2
  split at q
  · rename_i i kk hk q
    split at q
    · rename_i m hm
      split at q
      · rename_i t ht
        obtain ⟨a, ho, rfl, hp, hH, vs, rfl, rk⟩ := obj_at k2 hm (ru.mono s2)
        have hkv := keyOf_ok rv hk
        have := rk.get kk
        rw [ht] at this
        cases hv' : valV vs kk with
        | none => rw [hv'] at this; exact this.elim
        | some w =>
          rw [hv'] at this
          have this : Rv S2 t w := this
          subst hkv
          refine ⟨a, w, rfl, by rw [← hv']; exact DGet.k hH, ?_⟩
          refine hv S2 σ τ _ e2 k2 (rs.mono s12) (PostG.imp (fun y2 S3 q2 v2 rv2 => ?_) (PG.lift (rs.mono s12) q))
          obtain ⟨k3, s3, q2⟩ := q2
          have e3 := s3.G.trans e2
          refine hr S3 t y2 w v2 _ _ e3 k3 (this.mono s3) rv2 (PostG.imp (fun z S4 q3 v3 rv3 => ?_) (PG.lift (rs.mono (s12.trans s3)) q2))
          obtain ⟨k4, s4, q3⟩ := q3
          split at q3
          · rename_i m2 hm2
            split at q3
            · rename_i hz2
              obtain ⟨a', ho', ea, hp', hH', vs', rfl, rk'⟩ := obj_at k4 hm2 (show Rv S4 (.obj i) (.ref a) by simp only [Rv]; exact ⟨a, s4.al_lt (s3.al_lt hp), rfl⟩)
              cases ea
              have st := step_put (o' := .dct (putT m2 kk z)) (u := .dK (putK vs' kk v3)) k4 hm2 hp'
              have q4 := q3 (S4.put _ _ _) rfl (ok_put k4 hm2 hp' ⟨_, rfl, rk'.put kk rv3⟩) st σ (rs.mono (((s12.trans s3).trans s4).trans st))
              exact ⟨_, DPut.k hH' (by rw [rk'.len]; exact hz2), q4⟩
            · exact q3.elim
          · exact q3.elim
      · exact q.elim
    · exact q.elim
  · exact q.elim
/-! a module's dict asked with any text -/
def KFull (G : Env) (d : Addr) (rows : List (Str × T)) : Prop := ∀ z : Str, match rows.lookup z with
  | some t => ∃ u v, PySem.W.nsIn G.K d z = some (some u) ∧ RelV v u ∧ ∀ S, S.G = G → Rv S t v
  | none => PySem.W.nsIn G.K d z = some none
theorem kfull_go {z : Str} {G : Env} : ∀ {es : List DictEntry} {kvs : List (V × V)} {rows : List (Str × T)}, EsR es kvs → RwR G rows kvs →
    match rows.lookup z with
    | some t => ∃ e v, es.find? (·.key.isStr z) = some e ∧ RelV v e.val ∧ ∀ S, S.G = G → Rv S t v
    | none => es.find? (·.key.isStr z) = none ∧ es.any (·.refKey) = false
  | [], [], [], _, _ => ⟨rfl, rfl⟩
  | e :: es, (k, v) :: kvs, (s, t) :: rows, h1, h2 => by
    obtain ⟨⟨r1, r2⟩, h1⟩ := h1
    obtain ⟨⟨ek, rv⟩, h2⟩ := h2
    dsimp only at r1 r2 ek
    subst ek
    obtain ⟨tk, hk⟩ := (show ∃ t, e.key = Value.str s t from r1)
    have ih := kfull_go (z := z) h1 h2
    rw [List.lookup_cons, List.find?_cons, List.any_cons]
    by_cases q : z = s
    · subst q
      have e1 : e.key.isStr z = true := by rw [hk]; simp [Value.isStr]
      rw [e1, beq_self_eq_true]
      exact ⟨e, v, rfl, r2, rv⟩
    · have e1 : e.key.isStr z = false := by rw [hk]; simp [Value.isStr]; exact fun y => q y.symm
      have e2 : (z == s) = false := by simpa using q
      have e3 : e.refKey = false := by unfold DictEntry.refKey; rw [hk]
      rw [e1, e2]
      dsimp only
      split at ih
      · rename_i t' hl; rw [hl]; exact ih
      · rename_i hl; rw [hl, e3]; exact ih
theorem kfull_of {d : Addr} {es : Array DictEntry} {n : Nat} {kvs : List (V × V)} {rows : List (Str × T)} (hl : G.K.lookup d = some ⟨.type "dict", none, .dict es n, #[]⟩) (he : EsR es.toList kvs) (hr : RwR G rows kvs) : KFull G d rows := fun z => by
  have := kfull_go (z := z) he hr
  unfold PySem.W.nsIn
  rw [hl]
  dsimp only
  split at this
  · rename_i t ht
    obtain ⟨e, v, h1, h2, h3⟩ := this
    rw [h1]
    exact ⟨e.val, v, rfl, h2, h3⟩
  · rename_i ht
    rw [this.1, this.2]
    rfl
@[simp] abbrev oKinA (neg : Bool) (n : Str) (rows : List (Str × T)) := P2 (fun x y => match x, y with | .str z, .ref m => if m = n then some (.bl (if neg then !(rows.lookup z).isSome else (rows.lookup z).isSome)) else none | _, _ => none)
@[simp] abbrev oKdA (n : Str) (rows : List (Str × T)) := P2 (fun x y => match x, y with | .ref m, .str z => if m = n then rows.lookup z else none | _, _ => none)
theorem kfull_some {d : Addr} {rows : List (Str × T)} (h : KFull G d rows) (z : Str) : ∃ r, PySem.W.nsIn G.K d z = some r ∧ r.isSome = (rows.lookup z).isSome := by
  have := h z
  split at this
  · rename_i t ht
    obtain ⟨u, v, h1, _⟩ := this
    exact ⟨_, h1, by rw [ht]; rfl⟩
  · rename_i ht; exact ⟨_, this, by rw [ht]; rfl⟩
theorem so_kinA {n : Str} {d : Addr} {rows : List (Str × T)} (hd : G.fa n = .ref d) (hr : KFull G d rows) : SimR2 G (fun x y H Q => ∃ (z : Str) (r : Option Value), x = .str z ∧ y = .ref d ∧ PySem.W.nsIn G.K d z = some r ∧ Q (.bl r.isSome) H) (oKinA false n rows) := simP2 fun S x y t u v Q e k ru rv hg q => by
  split at hg
  · rename_i z m
    split at hg
    · rename_i hm
      subst hm; cases hg
      simp only [Rv] at ru rv
      obtain ⟨r, h1, h2⟩ := kfull_some hr z
      exact ⟨z, r, ru, by rw [rv, e, hd], h1, q _ (by simp only [Rv]; rw [h2]; rfl)⟩
    · cases hg
  · cases hg
theorem so_kninA {n : Str} {d : Addr} {rows : List (Str × T)} (hd : G.fa n = .ref d) (hr : KFull G d rows) : SimR2 G (fun x y H Q => ∃ (z : Str) (r : Option Value), x = .str z ∧ y = .ref d ∧ PySem.W.nsIn G.K d z = some r ∧ Q (.bl (!r.isSome)) H) (oKinA true n rows) := simP2 fun S x y t u v Q e k ru rv hg q => by
  split at hg
  · rename_i z m
    split at hg
    · rename_i hm
      subst hm; cases hg
      simp only [Rv] at ru rv
      obtain ⟨r, h1, h2⟩ := kfull_some hr z
      exact ⟨z, r, ru, by rw [rv, e, hd], h1, q _ (by simp only [Rv]; rw [h2]; rfl)⟩
    · cases hg
  · cases hg
theorem so_kdA {n : Str} {d : Addr} {rows : List (Str × T)} (hd : G.fa n = .ref d) (hr : KFull G d rows) : SimR2 G (fun x y H Q => ∃ (z : Str) (u0 : Value) (v0 : V), x = .ref d ∧ y = .str z ∧ PySem.W.nsIn G.K d z = some (some u0) ∧ RelV v0 u0 ∧ Q v0 H) (oKdA n rows) := simP2 fun S x y t u v Q e k ru rv hg q => by
  split at hg
  · rename_i m z
    split at hg
    · rename_i hm
      subst hm
      simp only [Rv] at ru rv
      have := hr z
      rw [hg] at this
      obtain ⟨u0, v0, h1, h2, h3⟩ := this
      exact ⟨z, u0, v0, by rw [ru, e, hd], rv, h1, h2, q _ (h3 S e)⟩
    · cases hg
  · cases hg
/-! tuple + tuple, any of them empty -/
@[simp] def gCatA : T → T → Option T
  | .tup l, .tup m => if l.length + m.length ≤ sizeLine then some (.tup (l ++ m)) else none
  | _, _ => none
@[simp] abbrev oCatA : T → T → AH → Res T := P2 gCatA
theorem x_catA {X : Cx} {K : PySem.W.Frag} (h : X.K = K) : OpR X (binaryOp .Add) (rCatA K) := h ▸ op_catA
theorem so_catA : SimR2 G (rCatA G.K) oCatA := fun S x y u v X Q e k ru rv p => by
  rw [← e]
  unfold oCatA P2 pur at p
  split at p
  · rename_i t ht
    unfold gCatA at ht
    split at ht
    · rename_i l m
      split at ht
      · rename_i hz
        cases ht
        obtain ⟨a, xs, ru', hs, rl⟩ := tupOf_ok (l := l) rfl ru
        obtain ⟨b, ys, rv', hs2, rm⟩ := tupOf_ok (l := m) rfl rv
        have nx : xs = [] → l = [] := by
          rintro rfl
          have := rl.len
          exact List.length_eq_zero_iff.mp (by simpa using this.symm)
        have ny : ys = [] → m = [] := by
          rintro rfl
          have := rm.len
          exact List.length_eq_zero_iff.mp (by simpa using this.symm)
        subst ru'; subst rv'
        refine ⟨a, b, xs, ys, rfl, rfl, hs, hs2, by rw [rl.len, rm.len]; exact hz, fun z => ?_, fun _ z => ?_, fun _ _ => new_fz k p fun p n f => rv_tup f ((rl.app rm).mono (step_at (by assumption) (Grow.upd n)))⟩
        · have z := nx z; subst z
          exact p S rfl k (Step.refl S) _ rv
        · have z := ny z; subst z
          rw [List.append_nil] at p
          exact p S rfl k (Step.refl S) _ ru
      · cases ht
    · cases ht
  · exact p.elim
/-! n.bit_length() -/
@[simp] def mBits (fo : FE) : FE := fun τ h => (fo τ h).bind fun x h1 => match x with | .int i => .ok (.int (Builtin.Int.intBits i : Nat)) h1 | _ => .bad
theorem sim_bits {to : TE} {fo : FE} (ho : SimE G E to fo) : SimE G E (tBits to) (mBits fo) := fun S σ τ Q e k rs p => by
  refine ho S σ τ _ e k rs (PostG.imp (fun x S1 q u ru => ?_) (PostG.bind p))
  obtain ⟨k1, s1, q⟩ := q
  split at q
  · simp only [Rv] at ru; exact ⟨_, ru, q S1 rfl k1 (Step.refl S1) _ (by simp only [Rv])⟩
  · exact q.elim
end M
namespace Lk08
open PySem PySem.Spec PyProof.Rows L2 M
def rows_ROWS : List (Str × Option T) := [(("add" : Str), some (T.ktp [(T.str ("three" : Str)), (T.int (51)), (T.int (0)), (T.int (0))])), (("sub" : Str), some (T.ktp [(T.str ("three" : Str)), (T.int (51)), (T.int (0)), (T.int (32))])), (("sll" : Str), some (T.ktp [(T.str ("three" : Str)), (T.int (51)), (T.int (1)), (T.int (0))])), (("slt" : Str), some (T.ktp [(T.str ("three" : Str)), (T.int (51)), (T.int (2)), (T.int (0))])), (("sltu" : Str), some (T.ktp [(T.str ("three" : Str)), (T.int (51)), (T.int (3)), (T.int (0))])), (("xor" : Str), some (T.ktp [(T.str ("three" : Str)), (T.int (51)), (T.int (4)), (T.int (0))])), (("srl" : Str), some (T.ktp [(T.str ("three" : Str)), (T.int (51)), (T.int (5)), (T.int (0))])), (("sra" : Str), some (T.ktp [(T.str ("three" : Str)), (T.int (51)), (T.int (5)), (T.int (32))])), (("or" : Str), some (T.ktp [(T.str ("three" : Str)), (T.int (51)), (T.int (6)), (T.int (0))])), (("and" : Str), some (T.ktp [(T.str ("three" : Str)), (T.int (51)), (T.int (7)), (T.int (0))])), (("mul" : Str), some (T.ktp [(T.str ("three" : Str)), (T.int (51)), (T.int (0)), (T.int (1))])), (("mulh" : Str), some (T.ktp [(T.str ("three" : Str)), (T.int (51)), (T.int (1)), (T.int (1))])), (("mulhsu" : Str), some (T.ktp [(T.str ("three" : Str)), (T.int (51)), (T.int (2)), (T.int (1))])), (("mulhu" : Str), some (T.ktp [(T.str ("three" : Str)), (T.int (51)), (T.int (3)), (T.int (1))])), (("div" : Str), some (T.ktp [(T.str ("three" : Str)), (T.int (51)), (T.int (4)), (T.int (1))])), (("divu" : Str), some (T.ktp [(T.str ("three" : Str)), (T.int (51)), (T.int (5)), (T.int (1))])), (("rem" : Str), some (T.ktp [(T.str ("three" : Str)), (T.int (51)), (T.int (6)), (T.int (1))])), (("remu" : Str), some (T.ktp [(T.str ("three" : Str)), (T.int (51)), (T.int (7)), (T.int (1))])), (("addi" : Str), some (T.ktp [(T.str ("near" : Str)), (T.int (19)), (T.int (0)), (T.int (0))])), (("slti" : Str), some (T.ktp [(T.str ("near" : Str)), (T.int (19)), (T.int (2)), (T.int (0))])), (("sltiu" : Str), some (T.ktp [(T.str ("near" : Str)), (T.int (19)), (T.int (3)), (T.int (0))])), (("xori" : Str), some (T.ktp [(T.str ("near" : Str)), (T.int (19)), (T.int (4)), (T.int (0))])), (("ori" : Str), some (T.ktp [(T.str ("near" : Str)), (T.int (19)), (T.int (6)), (T.int (0))])), (("andi" : Str), some (T.ktp [(T.str ("near" : Str)), (T.int (19)), (T.int (7)), (T.int (0))])), (("slli" : Str), some (T.ktp [(T.str ("shift" : Str)), (T.int (19)), (T.int (1)), (T.int (0))])), (("srli" : Str), some (T.ktp [(T.str ("shift" : Str)), (T.int (19)), (T.int (5)), (T.int (0))])), (("srai" : Str), some (T.ktp [(T.str ("shift" : Str)), (T.int (19)), (T.int (5)), (T.int (32))])), (("jalr" : Str), some (T.ktp [(T.str ("near" : Str)), (T.int (103)), (T.int (0)), (T.int (0))])), (("lw" : Str), some (T.ktp [(T.str ("near" : Str)), (T.int (3)), (T.int (2)), (T.int (0))])), (("sw" : Str), some (T.ktp [(T.str ("store" : Str)), (T.int (35)), (T.int (2)), (T.int (0))])), (("beq" : Str), some (T.ktp [(T.str ("branch" : Str)), (T.int (99)), (T.int (0)), (T.int (0))])), (("bne" : Str), some (T.ktp [(T.str ("branch" : Str)), (T.int (99)), (T.int (1)), (T.int (0))])), (("blt" : Str), some (T.ktp [(T.str ("branch" : Str)), (T.int (99)), (T.int (4)), (T.int (0))])), (("bge" : Str), some (T.ktp [(T.str ("branch" : Str)), (T.int (99)), (T.int (5)), (T.int (0))])), (("bltu" : Str), some (T.ktp [(T.str ("branch" : Str)), (T.int (99)), (T.int (6)), (T.int (0))])), (("bgeu" : Str), some (T.ktp [(T.str ("branch" : Str)), (T.int (99)), (T.int (7)), (T.int (0))])), (("lui" : Str), some (T.ktp [(T.str ("upper" : Str)), (T.int (55)), (T.int (0)), (T.int (0))])), (("auipc" : Str), some (T.ktp [(T.str ("upper" : Str)), (T.int (23)), (T.int (0)), (T.int (0))])), (("jal" : Str), some (T.ktp [(T.str ("jump" : Str)), (T.int (111)), (T.int (0)), (T.int (0))])), (("ecall" : Str), some (T.ktp [(T.str ("alone" : Str)), (T.int (115)), (T.int (0)), (T.int (0))])), (("ebreak" : Str), some (T.ktp [(T.str ("alone" : Str)), (T.int (1048691)), (T.int (0)), (T.int (0))]))]
def all_ROWS : List (Str × T) := [(("add" : Str), (T.ktp [(T.str ("three" : Str)), (T.int (51)), (T.int (0)), (T.int (0))])), (("sub" : Str), (T.ktp [(T.str ("three" : Str)), (T.int (51)), (T.int (0)), (T.int (32))])), (("sll" : Str), (T.ktp [(T.str ("three" : Str)), (T.int (51)), (T.int (1)), (T.int (0))])), (("slt" : Str), (T.ktp [(T.str ("three" : Str)), (T.int (51)), (T.int (2)), (T.int (0))])), (("sltu" : Str), (T.ktp [(T.str ("three" : Str)), (T.int (51)), (T.int (3)), (T.int (0))])), (("xor" : Str), (T.ktp [(T.str ("three" : Str)), (T.int (51)), (T.int (4)), (T.int (0))])), (("srl" : Str), (T.ktp [(T.str ("three" : Str)), (T.int (51)), (T.int (5)), (T.int (0))])), (("sra" : Str), (T.ktp [(T.str ("three" : Str)), (T.int (51)), (T.int (5)), (T.int (32))])), (("or" : Str), (T.ktp [(T.str ("three" : Str)), (T.int (51)), (T.int (6)), (T.int (0))])), (("and" : Str), (T.ktp [(T.str ("three" : Str)), (T.int (51)), (T.int (7)), (T.int (0))])), (("mul" : Str), (T.ktp [(T.str ("three" : Str)), (T.int (51)), (T.int (0)), (T.int (1))])), (("mulh" : Str), (T.ktp [(T.str ("three" : Str)), (T.int (51)), (T.int (1)), (T.int (1))])), (("mulhsu" : Str), (T.ktp [(T.str ("three" : Str)), (T.int (51)), (T.int (2)), (T.int (1))])), (("mulhu" : Str), (T.ktp [(T.str ("three" : Str)), (T.int (51)), (T.int (3)), (T.int (1))])), (("div" : Str), (T.ktp [(T.str ("three" : Str)), (T.int (51)), (T.int (4)), (T.int (1))])), (("divu" : Str), (T.ktp [(T.str ("three" : Str)), (T.int (51)), (T.int (5)), (T.int (1))])), (("rem" : Str), (T.ktp [(T.str ("three" : Str)), (T.int (51)), (T.int (6)), (T.int (1))])), (("remu" : Str), (T.ktp [(T.str ("three" : Str)), (T.int (51)), (T.int (7)), (T.int (1))])), (("addi" : Str), (T.ktp [(T.str ("near" : Str)), (T.int (19)), (T.int (0)), (T.int (0))])), (("slti" : Str), (T.ktp [(T.str ("near" : Str)), (T.int (19)), (T.int (2)), (T.int (0))])), (("sltiu" : Str), (T.ktp [(T.str ("near" : Str)), (T.int (19)), (T.int (3)), (T.int (0))])), (("xori" : Str), (T.ktp [(T.str ("near" : Str)), (T.int (19)), (T.int (4)), (T.int (0))])), (("ori" : Str), (T.ktp [(T.str ("near" : Str)), (T.int (19)), (T.int (6)), (T.int (0))])), (("andi" : Str), (T.ktp [(T.str ("near" : Str)), (T.int (19)), (T.int (7)), (T.int (0))])), (("slli" : Str), (T.ktp [(T.str ("shift" : Str)), (T.int (19)), (T.int (1)), (T.int (0))])), (("srli" : Str), (T.ktp [(T.str ("shift" : Str)), (T.int (19)), (T.int (5)), (T.int (0))])), (("srai" : Str), (T.ktp [(T.str ("shift" : Str)), (T.int (19)), (T.int (5)), (T.int (32))])), (("jalr" : Str), (T.ktp [(T.str ("near" : Str)), (T.int (103)), (T.int (0)), (T.int (0))])), (("lw" : Str), (T.ktp [(T.str ("near" : Str)), (T.int (3)), (T.int (2)), (T.int (0))])), (("sw" : Str), (T.ktp [(T.str ("store" : Str)), (T.int (35)), (T.int (2)), (T.int (0))])), (("beq" : Str), (T.ktp [(T.str ("branch" : Str)), (T.int (99)), (T.int (0)), (T.int (0))])), (("bne" : Str), (T.ktp [(T.str ("branch" : Str)), (T.int (99)), (T.int (1)), (T.int (0))])), (("blt" : Str), (T.ktp [(T.str ("branch" : Str)), (T.int (99)), (T.int (4)), (T.int (0))])), (("bge" : Str), (T.ktp [(T.str ("branch" : Str)), (T.int (99)), (T.int (5)), (T.int (0))])), (("bltu" : Str), (T.ktp [(T.str ("branch" : Str)), (T.int (99)), (T.int (6)), (T.int (0))])), (("bgeu" : Str), (T.ktp [(T.str ("branch" : Str)), (T.int (99)), (T.int (7)), (T.int (0))])), (("lui" : Str), (T.ktp [(T.str ("upper" : Str)), (T.int (55)), (T.int (0)), (T.int (0))])), (("auipc" : Str), (T.ktp [(T.str ("upper" : Str)), (T.int (23)), (T.int (0)), (T.int (0))])), (("jal" : Str), (T.ktp [(T.str ("jump" : Str)), (T.int (111)), (T.int (0)), (T.int (0))])), (("ecall" : Str), (T.ktp [(T.str ("alone" : Str)), (T.int (115)), (T.int (0)), (T.int (0))])), (("ebreak" : Str), (T.ktp [(T.str ("alone" : Str)), (T.int (1048691)), (T.int (0)), (T.int (0))]))]
def rows_BOUNDS : List (Str × Option T) := [(("rd" : Str), some (T.ktp [(T.int (0)), (T.int (31)), (T.int (1))])), (("rs1" : Str), some (T.ktp [(T.int (0)), (T.int (31)), (T.int (1))])), (("rs2" : Str), some (T.ktp [(T.int (0)), (T.int (31)), (T.int (1))])), (("amount" : Str), some (T.ktp [(T.int (0)), (T.int (31)), (T.int (1))])), (("imm" : Str), some (T.ktp [(T.int (-2048)), (T.int (2047)), (T.int (1))])), (("parted" : Str), some (T.ktp [(T.int (-2048)), (T.int (2047)), (T.int (1))])), (("value" : Str), some (T.ktp [(T.int (0)), (T.int (1048575)), (T.int (1))])), (("way" : Str), some (T.ktp [(T.int (-4096)), (T.int (4094)), (T.int (2))])), (("far" : Str), some (T.ktp [(T.int (-1048576)), (T.int (1048574)), (T.int (2))]))]
def rows_FORMS : List (Str × Option T) := [(("three" : Str), some (T.ktp [(T.str ("rd" : Str)), (T.str ("rs1" : Str)), (T.str ("rs2" : Str))])), (("near" : Str), some (T.ktp [(T.str ("rd" : Str)), (T.str ("rs1" : Str)), (T.str ("imm" : Str))])), (("shift" : Str), some (T.ktp [(T.str ("rd" : Str)), (T.str ("rs1" : Str)), (T.str ("amount" : Str))])), (("store" : Str), some (T.ktp [(T.str ("rs2" : Str)), (T.str ("rs1" : Str)), (T.str ("parted" : Str))])), (("branch" : Str), some (T.ktp [(T.str ("rs1" : Str)), (T.str ("rs2" : Str)), (T.str ("way" : Str))])), (("upper" : Str), some (T.ktp [(T.str ("rd" : Str)), (T.str ("value" : Str))])), (("jump" : Str), some (T.ktp [(T.str ("rd" : Str)), (T.str ("far" : Str))])), (("alone" : Str), some (T.ktp []))]
def rows_BITS : List (Str × Option T) := [(("rd" : Str), some (T.ktp [(T.ktp [(T.int (0)), (T.int (5)), (T.int (7))])])), (("rs1" : Str), some (T.ktp [(T.ktp [(T.int (0)), (T.int (5)), (T.int (15))])])), (("rs2" : Str), some (T.ktp [(T.ktp [(T.int (0)), (T.int (5)), (T.int (20))])])), (("amount" : Str), some (T.ktp [(T.ktp [(T.int (0)), (T.int (5)), (T.int (20))])])), (("imm" : Str), some (T.ktp [(T.ktp [(T.int (0)), (T.int (12)), (T.int (20))])])), (("parted" : Str), some (T.ktp [(T.ktp [(T.int (0)), (T.int (5)), (T.int (7))]), (T.ktp [(T.int (5)), (T.int (7)), (T.int (25))])])), (("value" : Str), some (T.ktp [(T.ktp [(T.int (0)), (T.int (20)), (T.int (12))])])), (("way" : Str), some (T.ktp [(T.ktp [(T.int (11)), (T.int (1)), (T.int (7))]), (T.ktp [(T.int (1)), (T.int (4)), (T.int (8))]), (T.ktp [(T.int (5)), (T.int (6)), (T.int (25))]), (T.ktp [(T.int (12)), (T.int (1)), (T.int (31))])])), (("far" : Str), some (T.ktp [(T.ktp [(T.int (12)), (T.int (8)), (T.int (12))]), (T.ktp [(T.int (11)), (T.int (1)), (T.int (20))]), (T.ktp [(T.int (1)), (T.int (10)), (T.int (21))]), (T.ktp [(T.int (20)), (T.int (1)), (T.int (31))])]))]

def b__law_pool : FS := (sRet (mLstO (mCons (mCB bList (mCons (mSl oSlL (mVar 0) mNoPart (mPart (mC (.int 63)))) mNil)) (mCons (mC (.int 0)) (mCons (mC (.int 0)) (mCons (mC (.int 11)) mNil))))))
def m__law_pool : List T → AH → Res T := mDef 1 b__law_pool
def c1__law_draw : FT := (mAnd (mB (mOp oEq (mOp oIx (mVar 0) (mC (.int 2))) (mC (.int 0)))) (mB (mOp oLt (mOp oIx (mVar 0) (mC (.int 1))) (mCB bLen (mCons (mOp oIx (mVar 0) (mC (.int 0))) mNil)))))
def l1__law_draw : FS := (sSeq (sSetIx (mCB bAbs (mCons (mOp oIx (mOp oIx (mVar 0) (mC (.int 0))) (mOp oIx (mVar 0) (mC (.int 1)))) mNil)) (mVar 0) (mC (.int 2)))
    (sSetIx (mOp oAdd (mOp oIx (mVar 0) (mC (.int 1))) (mC (.int 1))) (mVar 0) (mC (.int 1))))
def b__law_draw : FS := (sSeq (sWhile c1__law_draw l1__law_draw FUEL)
    (sSeq (sIf (mB (mOp oEq (mOp oIx (mVar 0) (mC (.int 2))) (mC (.int 0)))) (sSeq (sSetIx (mOp oAdd (mOp oIx (mVar 0) (mC (.int 3))) (mC (.int 7))) (mVar 0) (mC (.int 3)))
    (sRet (mOp oMod (mCB bInt (mCons (mOp oDiv (mOp oIx (mVar 0) (mC (.int 3))) (mC (.int 3))) mNil)) (mVar 1)))) sSkip)
    (sSeq (sSet 2 (mOp oMod (mCB bInt (mCons (mOp oIx (mVar 0) (mC (.int 2))) mNil)) (mVar 1)))
    (sSeq (sSetIx (mOp oDiv (mCB bInt (mCons (mOp oIx (mVar 0) (mC (.int 2))) mNil)) (mVar 1)) (mVar 0) (mC (.int 2)))
    (sRet (mVar 2))))))
def m__law_draw : List T → AH → Res T := mDef 3 b__law_draw
def b__law_pick : FS := (sFrz 1 (sRet (mAlt (mOp oIx (mVar 1) (mCall 2 m__law_draw (mCons (mVar 0) (mCons (mAlt (mCB bLen (mCons (mVar 1) mNil)) (mCB bLenS (mCons (mVar 1) mNil))) mNil)))) (mOp oIxS (mVar 1) (mCall 2 m__law_draw (mCons (mVar 0) (mCons (mAlt (mCB bLen (mCons (mVar 1) mNil)) (mCB bLenS (mCons (mVar 1) mNil))) mNil)))))))
def m__law_pick : List T → AH → Res T := mDef 2 b__law_pick
def l1__law_table : FS := (sDrop (mLM gApp (mVar 1) (mCons (mTup (mCons (mOp oIx (mVar 2) (mC (.int 0))) (mCons (mC (.str "three")) (mCons (mC (.int 51)) (mCons (mOp oIx (mVar 2) (mC (.int 1))) (mCons (mOp oIx (mVar 2) (mC (.int 2))) mNil)))))) mNil)))
def l2__law_table : FS := (sDrop (mLM gApp (mVar 1) (mCons (mTup (mCons (mOp oIx (mVar 2) (mC (.int 0))) (mCons (mC (.str "imm")) (mCons (mC (.int 19)) (mCons (mOp oIx (mVar 2) (mC (.int 1))) (mCons (mC (.int 0)) mNil)))))) mNil)))
def l3__law_table : FS := (sDrop (mLM gApp (mVar 1) (mCons (mTup (mCons (mOp oIx (mVar 2) (mC (.int 0))) (mCons (mC (.str "amount")) (mCons (mC (.int 19)) (mCons (mOp oIx (mVar 2) (mC (.int 1))) (mCons (mOp oIx (mVar 2) (mC (.int 2))) mNil)))))) mNil)))
def l4__law_table : FS := (sDrop (mLM gApp (mVar 1) (mCons (mTup (mCons (mOp oIx (mVar 2) (mC (.int 0))) (mCons (mC (.str "branch")) (mCons (mC (.int 99)) (mCons (mOp oIx (mVar 2) (mC (.int 1))) (mCons (mC (.int 0)) mNil)))))) mNil)))
def b__law_table : FS := (sSeq (sSet 0 (mLst (mCons (mTup (mCons (mC (.str "add")) (mCons (mC (.int 0)) (mCons (mC (.int 0)) mNil)))) (mCons (mTup (mCons (mC (.str "sub")) (mCons (mC (.int 0)) (mCons (mC (.int 32)) mNil)))) (mCons (mTup (mCons (mC (.str "sll")) (mCons (mC (.int 1)) (mCons (mC (.int 0)) mNil)))) (mCons (mTup (mCons (mC (.str "slt")) (mCons (mC (.int 2)) (mCons (mC (.int 0)) mNil)))) (mCons (mTup (mCons (mC (.str "sltu")) (mCons (mC (.int 3)) (mCons (mC (.int 0)) mNil)))) (mCons (mTup (mCons (mC (.str "xor")) (mCons (mC (.int 4)) (mCons (mC (.int 0)) mNil)))) mNil))))))))
    (sSeq (sFrz 0 (sSet 0 (mOp oCat (mVar 0) (mLst (mCons (mTup (mCons (mC (.str "srl")) (mCons (mC (.int 5)) (mCons (mC (.int 0)) mNil)))) (mCons (mTup (mCons (mC (.str "sra")) (mCons (mC (.int 5)) (mCons (mC (.int 32)) mNil)))) (mCons (mTup (mCons (mC (.str "or")) (mCons (mC (.int 6)) (mCons (mC (.int 0)) mNil)))) (mCons (mTup (mCons (mC (.str "and")) (mCons (mC (.int 7)) (mCons (mC (.int 0)) mNil)))) (mCons (mTup (mCons (mC (.str "mul")) (mCons (mC (.int 0)) (mCons (mC (.int 1)) mNil)))) mNil)))))))))
    (sSeq (sFrz 0 (sSet 0 (mOp oCat (mVar 0) (mLst (mCons (mTup (mCons (mC (.str "mulh")) (mCons (mC (.int 1)) (mCons (mC (.int 1)) mNil)))) (mCons (mTup (mCons (mC (.str "mulhsu")) (mCons (mC (.int 2)) (mCons (mC (.int 1)) mNil)))) (mCons (mTup (mCons (mC (.str "mulhu")) (mCons (mC (.int 3)) (mCons (mC (.int 1)) mNil)))) (mCons (mTup (mCons (mC (.str "div")) (mCons (mC (.int 4)) (mCons (mC (.int 1)) mNil)))) (mCons (mTup (mCons (mC (.str "divu")) (mCons (mC (.int 5)) (mCons (mC (.int 1)) mNil)))) mNil)))))))))
    (sSeq (sSet 1 (mLstO mNil))
    (sSeq (sFrz 0 (sFor (iLst (mOp oCat (mVar 0) (mLst (mCons (mTup (mCons (mC (.str "rem")) (mCons (mC (.int 6)) (mCons (mC (.int 1)) mNil)))) (mCons (mTup (mCons (mC (.str "remu")) (mCons (mC (.int 7)) (mCons (mC (.int 1)) mNil)))) mNil))))) (aName 2) l1__law_table))
    (sSeq (sFor (iLst (mLst (mCons (mTup (mCons (mC (.str "addi")) (mCons (mC (.int 0)) mNil))) (mCons (mTup (mCons (mC (.str "slti")) (mCons (mC (.int 2)) mNil))) (mCons (mTup (mCons (mC (.str "sltiu")) (mCons (mC (.int 3)) mNil))) (mCons (mTup (mCons (mC (.str "xori")) (mCons (mC (.int 4)) mNil))) (mCons (mTup (mCons (mC (.str "ori")) (mCons (mC (.int 6)) mNil))) (mCons (mTup (mCons (mC (.str "andi")) (mCons (mC (.int 7)) mNil))) mNil)))))))) (aName 2) l2__law_table)
    (sSeq (sFor (iLst (mLst (mCons (mTup (mCons (mC (.str "slli")) (mCons (mC (.int 1)) (mCons (mC (.int 0)) mNil)))) (mCons (mTup (mCons (mC (.str "srli")) (mCons (mC (.int 5)) (mCons (mC (.int 0)) mNil)))) (mCons (mTup (mCons (mC (.str "srai")) (mCons (mC (.int 5)) (mCons (mC (.int 32)) mNil)))) mNil))))) (aName 2) l3__law_table)
    (sSeq (sFrz 1 (sSet 1 (mOp oCatO (mVar 1) (mLst (mCons (mTup (mCons (mC (.str "jalr")) (mCons (mC (.str "imm")) (mCons (mC (.int 103)) (mCons (mC (.int 0)) (mCons (mC (.int 0)) mNil)))))) (mCons (mTup (mCons (mC (.str "lw")) (mCons (mC (.str "imm")) (mCons (mC (.int 3)) (mCons (mC (.int 2)) (mCons (mC (.int 0)) mNil)))))) (mCons (mTup (mCons (mC (.str "sw")) (mCons (mC (.str "store")) (mCons (mC (.int 35)) (mCons (mC (.int 2)) (mCons (mC (.int 0)) mNil)))))) mNil)))))))
    (sSeq (sFor (iLst (mLst (mCons (mTup (mCons (mC (.str "beq")) (mCons (mC (.int 0)) mNil))) (mCons (mTup (mCons (mC (.str "bne")) (mCons (mC (.int 1)) mNil))) (mCons (mTup (mCons (mC (.str "blt")) (mCons (mC (.int 4)) mNil))) (mCons (mTup (mCons (mC (.str "bge")) (mCons (mC (.int 5)) mNil))) (mCons (mTup (mCons (mC (.str "bltu")) (mCons (mC (.int 6)) mNil))) (mCons (mTup (mCons (mC (.str "bgeu")) (mCons (mC (.int 7)) mNil))) mNil)))))))) (aName 2) l4__law_table)
    (sSeq (sFrz 1 (sSet 1 (mOp oCat (mVar 1) (mLst (mCons (mTup (mCons (mC (.str "lui")) (mCons (mC (.str "upper")) (mCons (mC (.int 55)) (mCons (mC (.int 0)) (mCons (mC (.int 0)) mNil)))))) (mCons (mTup (mCons (mC (.str "auipc")) (mCons (mC (.str "upper")) (mCons (mC (.int 23)) (mCons (mC (.int 0)) (mCons (mC (.int 0)) mNil)))))) mNil))))))
    (sSeq (sFrz 1 (sSet 1 (mOp oCat (mVar 1) (mLst (mCons (mTup (mCons (mC (.str "jal")) (mCons (mC (.str "jump")) (mCons (mC (.int 111)) (mCons (mC (.int 0)) (mCons (mC (.int 0)) mNil)))))) (mCons (mTup (mCons (mC (.str "ecall")) (mCons (mC (.str "alone")) (mCons (mC (.int 115)) (mCons (mC (.int 0)) (mCons (mC (.int 0)) mNil)))))) mNil))))))
    (sFrz 1 (sRet (mOp oCat (mVar 1) (mLst (mCons (mTup (mCons (mC (.str "ebreak")) (mCons (mC (.str "alone")) (mCons (mC (.int 115)) (mCons (mC (.int 0)) (mCons (mC (.int 0)) mNil)))))) mNil))))))))))))))))
def m__law_table : List T → AH → Res T := mDef 3 b__law_table
def b__law_kinds_of : FS := (sSeq (sIf (mB (mOp oEq (mOp oIx (mVar 0) (mC (.int 1))) (mC (.str "alone")))) (sRet (mLst mNil)) sSkip)
    (sSeq (sIf (mB (mOp oEq (mOp oIx (mVar 0) (mC (.int 1))) (mC (.str "upper")))) (sRet (mLst (mCons (mC (.str "register")) (mCons (mC (.str "value")) mNil)))) sSkip)
    (sSeq (sIf (mB (mOp oEq (mOp oIx (mVar 0) (mC (.int 1))) (mC (.str "jump")))) (sRet (mLst (mCons (mC (.str "register")) (mCons (mC (.str "far")) mNil)))) sSkip)
    (sSeq (sSet 1 (mDisp (((mC (.str "three")), (mC (.str "register"))) :: (((mC (.str "amount")), (mC (.str "amount"))) :: (((mC (.str "imm")), (mC (.str "imm"))) :: (((mC (.str "store")), (mC (.str "imm"))) :: []))))))
    (sFrz 1 (sRet (mLst (mCons (mC (.str "register")) (mCons (mC (.str "register")) (mCons (mDGet2 (mVar 1) (mOp oIx (mVar 0) (mC (.int 1))) (mC (.str "near"))) mNil))))))))))
def m__law_kinds_of : List T → AH → Res T := mDef 2 b__law_kinds_of
def b__law_range_of : FS := (sSeq (sIf (mB (mOp oEq (mVar 0) (mC (.str "imm")))) (sRet (mTup (mCons (mUn oNeg (mC (.int 2048))) (mCons (mC (.int 2047)) (mCons (mC (.int 1)) mNil))))) sSkip)
    (sSeq (sIf (mB (mOp oEq (mVar 0) (mC (.str "value")))) (sRet (mTup (mCons (mC (.int 0)) (mCons (mC (.int 1048575)) (mCons (mC (.int 1)) mNil))))) sSkip)
    (sSeq (sIf (mB (mOp oEq (mVar 0) (mC (.str "near")))) (sRet (mTup (mCons (mUn oNeg (mC (.int 4096))) (mCons (mC (.int 4094)) (mCons (mC (.int 2)) mNil))))) sSkip)
    (sSeq (sIf (mB (mOp oEq (mVar 0) (mC (.str "far")))) (sRet (mTup (mCons (mUn oNeg (mC (.int 1048576))) (mCons (mC (.int 1048574)) (mCons (mC (.int 2)) mNil))))) sSkip)
    (sRet (mTup (mCons (mC (.int 0)) (mCons (mC (.int 31)) (mCons (mC (.int 1)) mNil)))))))))
def m__law_range_of : List T → AH → Res T := mDef 1 b__law_range_of
def b__law_entry : FS := (sSeq (sAsg (mCall 1 m__law_range_of (mCons (mVar 1) mNil)) (aTup 3 (aCons (aName 2) (aCons (aName 3) (aCons (aName 4) aNil)))))
    (sSeq (sIf (mB (mOp oGt (mCall 2 m__law_draw (mCons (mVar 0) (mCons (mC (.int 3)) mNil))) (mC (.int 0)))) (sSeq (sSet 5 (mOp oAdd (mOp oDiv (mOp oSub (mVar 3) (mVar 2)) (mVar 4)) (mC (.int 1))))
    (sRet (mOp oAdd (mVar 2) (mOp oMul (mVar 4) (mCall 2 m__law_draw (mCons (mVar 0) (mCons (mVar 5) mNil))))))) sSkip)
    (sSeq (sSet 6 (mLst (mCons (mVar 2) (mCons (mOp oAdd (mVar 2) (mVar 4)) (mCons (mOp oSub (mVar 3) (mVar 4)) (mCons (mVar 3) mNil))))))
    (sFrz 6 (sRet (mCB bMax (mCons (mVar 2) (mCons (mCall 2 m__law_pick (mCons (mVar 0) (mCons (mOp oCat (mVar 6) (mLst (mCons (mOp oSub (mC (.int 0)) (mVar 4)) (mCons (mC (.int 0)) (mCons (mVar 4) mNil))))) mNil))) mNil))))))))
def m__law_entry : List T → AH → Res T := mDef 7 b__law_entry
def l1__law_drawn_row : FS := (sDrop (mLM gApp (mVar 2) (mCons (mCall 2 m__law_entry (mCons (mVar 0) (mCons (mVar 3) mNil))) mNil)))
def b__law_drawn_row : FS := (sSeq (sSet 2 (mLstO (mCons (mOp oIx (mVar 1) (mC (.int 0))) mNil)))
    (sSeq (sFor (iLst (mCall 1 m__law_kinds_of (mCons (mVar 1) mNil))) (aName 3) l1__law_drawn_row)
    (sFrz 2 (sRet (mCB bTuple (mCons (mVar 2) mNil))))))
def m__law_drawn_row : List T → AH → Res T := mDef 4 b__law_drawn_row
def b__law_exchanged : FS := (sRet (mOp oCatA (mOp oCatA (mSl oSlT (mVar 0) mNoPart (mPart (mVar 1))) (mTup (mCons (mVar 2) mNil))) (mSl oSlT (mVar 0) (mPart (mOp oAdd (mVar 1) (mC (.int 1)))) mNoPart)))
def m__law_exchanged : List T → AH → Res T := mDef 3 b__law_exchanged
def l1__law_spoilt : FS := (sSeq (sAsg (mCall 1 m__law_range_of (mCons (mOp oIx (mVar 3) (mVar 4)) mNil)) (aTup 3 (aCons (aName 5) (aCons (aName 6) (aCons (aName 7) aNil)))))
    (sSeq (sSet 8 (mCall 2 m__law_draw (mCons (mVar 0) (mCons (mC (.int 4)) mNil))))
    (sSeq (sSet 9 (mOp oIx (mVar 2) (mOp oAdd (mVar 4) (mC (.int 1)))))
    (sSeq (sIf (mB (mOp oEq (mVar 8) (mC (.int 1)))) (sSeq (sSet 10 (mLst (mCons (mOp oSub (mVar 5) (mVar 7)) (mCons (mOp oSub (mVar 5) (mC (.int 1))) (mCons (mOp oAdd (mVar 6) (mC (.int 1))) mNil)))))
    (sFrz 10 (sSet 9 (mCall 2 m__law_pick (mCons (mVar 0) (mCons (mOp oCat (mVar 10) (mLst (mCons (mOp oAdd (mVar 6) (mVar 7)) mNil))) mNil)))))) sSkip)
    (sSeq (sIf (mB (mOp oEq (mVar 8) (mC (.int 2)))) (sSet 9 (mOp oSub (mCall 2 m__law_draw (mCons (mVar 0) (mCons (mC (.int 2199023255551)) mNil))) (mC (.int 1099511627775)))) sSkip)
    (sSeq (sIf (mB (mOp oEq (mVar 8) (mC (.int 3)))) (sSet 9 (mOp oAdd (mOp oSub (mVar 5) (mC (.int 1))) (mCall 2 m__law_draw (mCons (mVar 0) (mCons (mOp oAdd (mOp oSub (mVar 6) (mVar 5)) (mC (.int 3))) mNil))))) sSkip)
    (sSet 2 (mCall 3 m__law_exchanged (mCons (mVar 2) (mCons (mOp oAdd (mVar 4) (mC (.int 1))) (mCons (mVar 9) mNil)))))))))))
def b__law_spoilt : FS := (sSeq (sSet 3 (mCall 1 m__law_kinds_of (mCons (mVar 1) mNil)))
    (sSeq (sFrz 3 (sFor (iRngA (mCons (mCB bLen (mCons (mVar 3) mNil)) mNil)) (aName 4) l1__law_spoilt))
    (sRet (mVar 2))))
def m__law_spoilt : List T → AH → Res T := mDef 11 b__law_spoilt
def l1__law_ends : FS := (sDrop (mLM gApp (mVar 2) (mCons (mCall 3 m__law_exchanged (mCons (mVar 1) (mCons (mOp oAdd (mVar 4) (mC (.int 1))) (mCons (mVar 9) mNil)))) mNil)))
def l2__law_ends : FS := (sSeq (sAsg (mCall 1 m__law_range_of (mCons (mOp oIx (mVar 3) (mVar 4)) mNil)) (aTup 3 (aCons (aName 5) (aCons (aName 6) (aCons (aName 7) aNil)))))
    (sSeq (sSet 8 (mLst (mCons (mOp oSub (mVar 5) (mVar 7)) (mCons (mOp oSub (mVar 5) (mC (.int 1))) (mCons (mVar 5) (mCons (mOp oAdd (mVar 5) (mC (.int 1))) mNil))))))
    (sFrz 8 (sFor (iLst (mOp oCat (mVar 8) (mLst (mCons (mVar 6) (mCons (mOp oAdd (mVar 6) (mC (.int 1))) (mCons (mOp oAdd (mVar 6) (mVar 7)) mNil)))))) (aName 9) l1__law_ends))))
def b__law_ends : FS := (sSeq (sSet 2 (mLstO mNil))
    (sSeq (sSet 3 (mCall 1 m__law_kinds_of (mCons (mVar 0) mNil)))
    (sSeq (sFrz 3 (sFor (iRngA (mCons (mCB bLen (mCons (mVar 3) mNil)) mNil)) (aName 4) l2__law_ends))
    (sFrz 2 (sRet (mVar 2))))))
def m__law_ends : List T → AH → Res T := mDef 10 b__law_ends
def l1__law_letters : FS := (sSet 1 (mOp oAddS (mVar 1) (mCall 2 m__law_pick (mCons (mVar 0) (mCons (mC (.str "abcdefghijklmnopqrstuvwxyz")) mNil)))))
def b__law_letters : FS := (sSeq (sSet 1 (mC (.str "")))
    (sSeq (sFor (iRngA (mCons (mOp oAdd (mC (.int 1)) (mCall 2 m__law_draw (mCons (mVar 0) (mCons (mC (.int 6)) mNil)))) mNil)) (aName 2) l1__law_letters)
    (sRet (mVar 1))))
def m__law_letters : List T → AH → Res T := mDef 3 b__law_letters
def b__law_heads : FS := (sSeq (sSet 2 (mLst (mCons (mC (.str "nop")) (mCons (mC (.str "li")) (mCons (mC (.str "mv")) (mCons (mC (.str "la")) (mCons (mC (.str "j")) (mCons (mC (.str "ret")) (mCons (mC (.str "not")) (mCons (mC (.str "neg")) (mCons (mC (.str "beqz")) (mCons (mC (.str "fence")) mNil))))))))))))
    (sSeq (sFrz 2 (sSet 2 (mOp oCat (mVar 2) (mLst (mCons (mC (.str "lb")) (mCons (mC (.str "lh")) (mCons (mC (.str "lbu")) (mCons (mC (.str "lhu")) (mCons (mC (.str "sb")) (mCons (mC (.str "sh")) (mCons (mC (.str "subi")) (mCons (mC (.str "addiw")) mNil))))))))))))
    (sSeq (sFrz 2 (sSet 3 (mLst (mCons (mOp oIx (mCall 2 m__law_pick (mCons (mVar 0) (mCons (mCall 0 m__law_table mNil) mNil))) (mC (.int 0))) (mCons (mCall 2 m__law_pick (mCons (mVar 0) (mCons (mVar 2) mNil))) mNil)))))
    (sSeq (sFrz 3 (sSet 3 (mOp oCat (mVar 3) (mLst (mCons (mCall 1 m__law_letters (mCons (mVar 0) mNil)) (mCons (mOp oAddS (mVar 1) (mC (.str "w"))) (mCons (mOp oAddS (mVar 1) (mC (.str " "))) mNil)))))))
    (sFrz 3 (sRet (mOp oCat (mVar 3) (mLst (mCons (mOp oAddS (mC (.str " ")) (mVar 1)) (mCons (mM0 gUpper (mVar 1)) (mCons (mSl oSlS (mVar 1) mNoPart (mPart (mUn oNeg (mC (.int 1))))) (mCons (mC (.str "")) mNil))))))))))))
def m__law_heads : List T → AH → Res T := mDef 4 b__law_heads
def l1__law_kin : FS := (sDrop (mLM gApp (mVar 3) (mCons (mCall 3 m__law_exchanged (mCons (mVar 1) (mCons (mC (.int 0)) (mCons (mVar 4) mNil)))) mNil)))
def b__law_kin : FS := (sSeq (sSet 2 (mOp oCatA (mVar 1) (mTup (mCons (mOp oSub (mCall 2 m__law_draw (mCons (mVar 0) (mCons (mC (.int 40)) mNil))) (mC (.int 4))) mNil))))
    (sSeq (sSet 3 (mLstO (mCons (mVar 2) (mCons (mOp oCatA (mVar 2) (mTup (mCons (mC (.int 0)) mNil))) (mCons (mSl oSlT (mVar 1) mNoPart (mPart (mC (.int 1)))) (mCons (mSl oSlT (mVar 1) mNoPart (mPart (mCB bMax (mCons (mC (.int 1)) (mCons (mOp oSub (mCB bLen (mCons (mVar 1) mNil)) (mC (.int 1))) mNil))))) mNil))))))
    (sSeq (sFor (iLst (mCall 2 m__law_heads (mCons (mVar 0) (mCons (mOp oIx (mVar 1) (mC (.int 0))) mNil)))) (aName 4) l1__law_kin)
    (sFrz 3 (sRet (mVar 3))))))
def m__law_kin : List T → AH → Res T := mDef 5 b__law_kin
def l1__law_form_of : FS := (sIf (mB (mOp oEq (mOp oIx (mVar 1) (mC (.int 0))) (mVar 0))) (sRet (mVar 1)) sSkip)
def b__law_form_of : FS := (sSeq (sFor (iLst (mCall 0 m__law_table mNil)) (aName 1) l1__law_form_of)
    (sRet (mC .non)))
def m__law_form_of : List T → AH → Res T := mDef 2 b__law_form_of
def l1__law_fault : FS := (sSeq (sAsg (mCall 1 m__law_range_of (mCons (mOp oIx (mVar 2) (mVar 3)) mNil)) (aTup 3 (aCons (aName 4) (aCons (aName 5) (aCons (aName 6) aNil)))))
    (sSeq (sSet 7 (mOp oIx (mVar 0) (mOp oAdd (mVar 3) (mC (.int 1)))))
    (sIf (mOr (mNot (mB (mChain oLe oLe (mVar 4) (mVar 7) (mVar 5)))) (mB (mOp oNe (mOp oMod (mCB bInt (mCons (mOp oSub (mVar 7) (mVar 4)) mNil)) (mVar 6)) (mC (.int 0))))) (sRet (mOp oAdd (mVar 3) (mC (.int 1)))) sSkip)))
def b__law_fault : FS := (sSeq (sSet 1 (mCall 1 m__law_form_of (mCons (mOp oIx (mVar 0) (mC (.int 0))) mNil)))
    (sSeq (sIf (mB (mIsN (mVar 1))) (sRet (mC (.int 0))) sSkip)
    (sSeq (sSet 2 (mCall 1 m__law_kinds_of (mCons (mVar 1) mNil)))
    (sSeq (sFrz 2 (sIf (mB (mOp oNe (mCB bLen (mCons (mVar 2) mNil)) (mOp oSub (mCB bLen (mCons (mVar 0) mNil)) (mC (.int 1))))) (sRet (mC (.int 0))) sSkip))
    (sSeq (sFor (iRngA (mCons (mCB bLen (mCons (mVar 2) mNil)) mNil)) (aName 3) l1__law_fault)
    (sRet (mC .non)))))))
def m__law_fault : List T → AH → Res T := mDef 8 b__law_fault
def b_fields_of : FS := (sRet (mOp (oKd "FORMS" rows_FORMS) (mC (.ref "FORMS")) (mOp oIx (mOp (oKdA "ROWS" all_ROWS) (mC (.ref "ROWS")) (mVar 0)) (mC (.int 0)))))
def m_fields_of : List T → AH → Res T := mDef 1 b_fields_of
def l1_wrong_entry : FS := (sSeq (sAsg (mOp (oKd "BOUNDS" rows_BOUNDS) (mC (.ref "BOUNDS")) (mVar 2)) (aTup 3 (aCons (aName 3) (aCons (aName 4) (aCons (aName 5) aNil)))))
    (sSeq (sSet 6 (mOp oIx (mVar 0) (mOp oAdd (mVar 1) (mC (.int 1)))))
    (sIf (mOr (mNot (mB (mChain oLe oLe (mVar 3) (mVar 6) (mVar 4)))) (mB (mOp oNe (mOp oMod (mVar 6) (mVar 5)) (mC (.int 0))))) (sRet (mOp oAdd (mVar 1) (mC (.int 1)))) sSkip)))
def b_wrong_entry : FS := (sSeq (sIf (mOr (mB (mOp (oKinA true "ROWS" all_ROWS) (mOp oIx (mVar 0) (mC (.int 0))) (mC (.ref "ROWS")))) (mB (mOp oNe (mCB bLen (mCons (mVar 0) mNil)) (mOp oAdd (mCB bLen (mCons (mCall 1 m_fields_of (mCons (mOp oIx (mVar 0) (mC (.int 0))) mNil)) mNil)) (mC (.int 1)))))) (sRet (mC (.int 0))) sSkip)
    (sSeq (sFor (iEnumTM (mCons (mCall 1 m_fields_of (mCons (mOp oIx (mVar 0) (mC (.int 0))) mNil)) mNil)) (aTup 2 (aCons (aName 1) (aCons (aName 2) aNil))) l1_wrong_entry)
    (sRet (mC .non))))
def m_wrong_entry : List T → AH → Res T := mDef 7 b_wrong_entry
def l1_with_number : FS := (sSeq (sSet 6 (mOp oSub (mOp oShl (mC (.int 1)) (mVar 4)) (mC (.int 1))))
    (sSet 0 (mOp oOr (mOp oAnd (mVar 0) (mUn oInv (mOp oShl (mVar 6) (mVar 5)))) (mOp oShl (mOp oAnd (mOp oShr (mVar 2) (mVar 3)) (mVar 6)) (mVar 5)))))
def b_with_number : FS := (sSeq (sFor (iTupM (mOp (oKd "BITS" rows_BITS) (mC (.ref "BITS")) (mVar 1))) (aTup 3 (aCons (aName 3) (aCons (aName 4) (aCons (aName 5) aNil)))) l1_with_number)
    (sRet (mVar 0)))
def m_with_number : List T → AH → Res T := mDef 7 b_with_number
def l1_encode : FS := (sSet 6 (mCall 3 m_with_number (mCons (mVar 6) (mCons (mVar 7) (mCons (mVar 8) mNil)))))
def b_encode : FS := (sSeq (sSet 1 (mCall 1 m_wrong_entry (mCons (mVar 0) mNil)))
    (sSeq (sIf (mB (mNotN (mVar 1))) (sRaise "BadRow" ["index"] (mCons (mVar 1) mNil)) sSkip)
    (sSeq (sAsg (mOp (oKdA "ROWS" all_ROWS) (mC (.ref "ROWS")) (mOp oIx (mVar 0) (mC (.int 0)))) (aTup 4 (aCons (aName 2) (aCons (aName 3) (aCons (aName 4) (aCons (aName 5) aNil))))))
    (sSeq (sSet 6 (mOp oOr (mOp oOr (mVar 3) (mOp oShl (mVar 4) (mC (.int 12)))) (mOp oShl (mVar 5) (mC (.int 25)))))
    (sSeq (sFor (iZipM (mCons (mCall 1 m_fields_of (mCons (mOp oIx (mVar 0) (mC (.int 0))) mNil)) (mCons (mSl oSlT (mVar 0) (mPart (mC (.int 1))) mNoPart) mNil))) (aTup 2 (aCons (aName 7) (aCons (aName 8) aNil))) l1_encode)
    (sRet (mVar 6)))))))
def m_encode : List T → AH → Res T := mDef 9 b_encode
def x1__law_asked : Exc → FS := fun e => (sSeq (sSet 2 (mIsX e "BadRow" false))
    (sSeq (sSet 2 (mOrV (mVar 2) (mIsX e "BadRow" false)))
    (sSeq (sSet 2 (mOrV (mVar 2) (mIsX e "BadRow" false)))
    (sSeq (sSet 3 (mAndV (mIsX e "BadRow" true) (mIsX e "BadRow" true)))
    (sRet (mTup (mCons (mC (.str "refused")) (mCons (mXf e "BadRow" "index") (mCons (mAndV (mVar 3) (mNotV (mVar 2))) mNil)))))))))
def b__law_asked : FS := (sTry0 [("BadRow", true)] 1 (sRet (mTup (mCons (mC (.str "word")) (mCons (mCall 1 m_encode (mCons (mVar 0) mNil)) (mCons (mC (.bl true)) mNil))))) x1__law_asked)
def m__law_asked : List T → AH → Res T := mDef 4 b__law_asked
def b__law_jump_code : FS := (sSeq (sSet 1 (mOp oMod (mCB bInt (mCons (mOp oIx (mVar 0) (mC (.int 2))) mNil)) (mC (.int 2097152))))
    (sSeq (sSet 2 (mOp oAdd (mOp oMul (mOp oDiv (mVar 1) (mC (.int 1048576))) (mC (.int 2147483648))) (mOp oMul (mOp oMod (mCB bInt (mCons (mOp oDiv (mVar 1) (mC (.int 2))) mNil)) (mC (.int 1024))) (mC (.int 2097152)))))
    (sSeq (sSet 2 (mOp oAdd (mOp oAdd (mVar 2) (mOp oMul (mOp oMod (mCB bInt (mCons (mOp oDiv (mVar 1) (mC (.int 2048))) mNil)) (mC (.int 2))) (mC (.int 1048576)))) (mOp oMul (mOp oMod (mCB bInt (mCons (mOp oDiv (mVar 1) (mC (.int 4096))) mNil)) (mC (.int 256))) (mC (.int 4096)))))
    (sRet (mOp oAdd (mOp oAdd (mVar 2) (mOp oMul (mOp oIx (mVar 0) (mC (.int 1))) (mC (.int 128)))) (mC (.int 111)))))))
def m__law_jump_code : List T → AH → Res T := mDef 3 b__law_jump_code
def b__law_branch_code : FS := (sSeq (sSet 2 (mOp oMod (mCB bInt (mCons (mOp oIx (mVar 1) (mC (.int 3))) mNil)) (mC (.int 8192))))
    (sSeq (sSet 3 (mOp oAdd (mOp oAdd (mOp oAdd (mOp oMul (mOp oIx (mVar 0) (mC (.int 3))) (mC (.int 4096))) (mC (.int 99))) (mOp oMul (mOp oIx (mVar 1) (mC (.int 1))) (mC (.int 32768)))) (mOp oMul (mOp oIx (mVar 1) (mC (.int 2))) (mC (.int 1048576)))))
    (sSeq (sSet 3 (mOp oAdd (mOp oAdd (mVar 3) (mOp oMul (mOp oDiv (mVar 2) (mC (.int 4096))) (mC (.int 2147483648)))) (mOp oMul (mOp oMod (mCB bInt (mCons (mOp oDiv (mVar 2) (mC (.int 32))) mNil)) (mC (.int 64))) (mC (.int 33554432)))))
    (sRet (mOp oAdd (mOp oAdd (mVar 3) (mOp oMul (mOp oMod (mCB bInt (mCons (mOp oDiv (mVar 2) (mC (.int 2))) mNil)) (mC (.int 16))) (mC (.int 256)))) (mOp oMul (mOp oMod (mCB bInt (mCons (mOp oDiv (mVar 2) (mC (.int 2048))) mNil)) (mC (.int 2))) (mC (.int 128))))))))
def m__law_branch_code : List T → AH → Res T := mDef 4 b__law_branch_code
def b__law_code : FS := (sSeq (sIf (mB (mOp oEq (mOp oIx (mVar 0) (mC (.int 1))) (mC (.str "alone")))) (sRet (mIfE (mB (mOp oEq (mOp oIx (mVar 1) (mC (.int 0))) (mC (.str "ecall")))) (mC (.int 115)) (mC (.int 1048691)))) sSkip)
    (sSeq (sIf (mB (mOp oEq (mOp oIx (mVar 0) (mC (.int 1))) (mC (.str "upper")))) (sRet (mOp oAdd (mOp oAdd (mOp oMul (mOp oIx (mVar 1) (mC (.int 2))) (mC (.int 4096))) (mOp oMul (mOp oIx (mVar 1) (mC (.int 1))) (mC (.int 128)))) (mOp oIx (mVar 0) (mC (.int 2))))) sSkip)
    (sSeq (sIf (mB (mOp oEq (mOp oIx (mVar 0) (mC (.int 1))) (mC (.str "jump")))) (sRet (mCall 1 m__law_jump_code (mCons (mVar 1) mNil))) sSkip)
    (sSeq (sIf (mB (mOp oEq (mOp oIx (mVar 0) (mC (.int 1))) (mC (.str "branch")))) (sRet (mCall 2 m__law_branch_code (mCons (mVar 0) (mCons (mVar 1) mNil)))) sSkip)
    (sSeq (sSet 2 (mOp oAdd (mOp oAdd (mOp oMul (mOp oIx (mVar 0) (mC (.int 3))) (mC (.int 4096))) (mOp oIx (mVar 0) (mC (.int 2)))) (mOp oMul (mOp oIx (mVar 1) (mC (.int 2))) (mC (.int 32768)))))
    (sSeq (sSet 3 (mOp oMod (mCB bInt (mCons (mOp oIx (mVar 1) (mC (.int 3))) mNil)) (mC (.int 4096))))
    (sSeq (sIf (mB (mOp oEq (mOp oIx (mVar 0) (mC (.int 1))) (mC (.str "store")))) (sRet (mOp oAdd (mOp oAdd (mOp oAdd (mVar 2) (mOp oMul (mOp oIx (mVar 1) (mC (.int 1))) (mC (.int 1048576)))) (mOp oMul (mOp oDiv (mVar 3) (mC (.int 32))) (mC (.int 33554432)))) (mOp oMul (mOp oMod (mCB bInt (mCons (mVar 3) mNil)) (mC (.int 32))) (mC (.int 128))))) sSkip)
    (sSeq (sIf (mB (mOp oEq (mOp oIx (mVar 0) (mC (.int 1))) (mC (.str "imm")))) (sRet (mOp oAdd (mOp oAdd (mVar 2) (mOp oMul (mOp oIx (mVar 1) (mC (.int 1))) (mC (.int 128)))) (mOp oMul (mVar 3) (mC (.int 1048576))))) sSkip)
    (sRet (mOp oAdd (mOp oAdd (mOp oAdd (mVar 2) (mOp oMul (mOp oIx (mVar 1) (mC (.int 1))) (mC (.int 128)))) (mOp oMul (mOp oIx (mVar 1) (mC (.int 3))) (mC (.int 1048576)))) (mOp oMul (mOp oIx (mVar 0) (mC (.int 4))) (mC (.int 33554432)))))))))))))
def m__law_code : List T → AH → Res T := mDef 4 b__law_code
def b__law_right : FS := (sSeq (sSet 1 (mCall 1 m__law_fault (mCons (mVar 0) mNil)))
    (sSeq (sSet 2 (mCall 1 m__law_asked (mCons (mVar 0) mNil)))
    (sSeq (sIf (mOr (mNot (mTru (mIsi "int" (mOp oIx (mVar 2) (mC (.int 1)))))) (mTru (mIsi "bool" (mOp oIx (mVar 2) (mC (.int 1)))))) (sRet (mC (.bl false))) sSkip)
    (sSeq (sIf (mB (mNotN (mVar 1))) (sRet (mAndV (mOp oEq (mOp oIx (mVar 2) (mC (.int 0))) (mC (.str "refused"))) (mAndV (mOp oEq (mOp oIx (mVar 2) (mC (.int 1))) (mVar 1)) (mOp oIx (mVar 2) (mC (.int 2)))))) sSkip)
    (sRet (mAndV (mOp oEq (mOp oIx (mVar 2) (mC (.int 0))) (mC (.str "word"))) (mOp oEq (mOp oIx (mVar 2) (mC (.int 1))) (mCall 2 m__law_code (mCons (mCall 1 m__law_form_of (mCons (mOp oIx (mVar 0) (mC (.int 0))) mNil)) (mCons (mVar 0) mNil))))))))))
def m__law_right : List T → AH → Res T := mDef 3 b__law_right
def x1__law_base_told : Exc → FS := fun e => (sRet (mIsX e "BadRow" true))
def b__law_base_told : FS := (sSeq (sTry0 [("BadRow", true)] 1 (sDrop (mCall 1 m_encode (mCons (mVar 0) mNil))) x1__law_base_told)
    (sRet (mC (.bl false))))
def m__law_base_told : List T → AH → Res T := mDef 2 b__law_base_told
def l1_law : FS := (sIf (mNot (mTru (mCall 1 m__law_right (mCons (mVar 7) mNil)))) (sRet (mC (.bl false))) sSkip)
def b_law : FS := (sSeq (sSet 1 (mCall 1 m__law_pool (mCons (mVar 0) mNil)))
    (sSeq (sSet 2 (mCall 2 m__law_pick (mCons (mVar 1) (mCons (mCall 0 m__law_table mNil) mNil))))
    (sSeq (sSet 3 (mCall 2 m__law_drawn_row (mCons (mVar 1) (mCons (mVar 2) mNil))))
    (sSeq (sSet 4 (mCall 3 m__law_spoilt (mCons (mVar 1) (mCons (mVar 2) (mCons (mVar 3) mNil)))))
    (sSeq (sSet 5 (mCall 3 m__law_spoilt (mCons (mVar 1) (mCons (mVar 2) (mCons (mVar 3) mNil)))))
    (sSeq (sSet 6 (mOp oCat (mLst (mCons (mVar 3) (mCons (mVar 4) (mCons (mVar 5) mNil)))) (mCall 2 m__law_ends (mCons (mVar 2) (mCons (mVar 3) mNil)))))
    (sSeq (sFrz 6 (sSet 6 (mOp oCat (mOp oCat (mVar 6) (mCall 2 m__law_kin (mCons (mVar 1) (mCons (mVar 3) mNil)))) (mCall 2 m__law_kin (mCons (mVar 1) (mCons (mVar 4) mNil))))))
    (sSeq (sFrz 6 (sFor (iLst (mOp oCat (mVar 6) (mLst (mCons (mVar 3) mNil)))) (aName 7) l1_law))
    (sRet (mCall 1 m__law_base_told (mCons (mOp oCatA (mTup (mCons (mC (.str "nop")) mNil)) (mSl oSlT (mVar 3) (mPart (mC (.int 1))) mNoPart)) mNil)))))))))))
def m_law : List T → AH → Res T := mDef 8 b_law
/-- what the pool of draws holds -/
structure PS where
  ns : List Int
  i : Nat
  d : Int
  c : Int
def PS.ok (s : PS) : Prop := s.ns.length ≤ 63 ∧ 0 ≤ s.d ∧ 0 ≤ s.c
def poolO (s : PS) : Option O := some (.lst [.lst (s.ns.map .int), .int s.i, .int s.d, .int s.c])
def PoolAt (o : Option O) : Prop := ∃ s, o = poolO s ∧ s.ok
theorem pool_ok {ns : List Int} {h : AH} (hl : ns.length ≤ 63) : ∃ o, PoolAt o ∧ m__law_pool [.rdl (ns.map .int)] h = .ok (.obj h.length) (h ++ [o]) := by
  refine ⟨poolO ⟨ns, 0, 0, 11⟩, ⟨_, rfl, hl, Int.le_refl _, (by decide : (0 : Int) ≤ 11)⟩, ?_⟩
  have e1 : HT.sIx ns.length 0 none = 0 := rfl
  have e2 : HT.sIx ns.length ns.length (some 63) = ns.length := by
    have := HT.sIx_nat ns.length ns.length 63
    rw [show ((63 : Nat) : Int) = 63 from rfl] at this
    rw [this]; omega
  have e3 : (4 : Nat) ≤ sizeLine := by decide
  have e4 : cutT (ns.map T.int) none (some 63) = ns.map T.int := by
    unfold cutT
    rw [List.length_map, e1, e2, List.drop_zero, Nat.sub_zero]
    exact List.take_of_length_le (by rw [List.length_map]; exact Nat.le_refl _)
  simp [m__law_pool, b__law_pool, poolO, cutT, List.length_map, e1, e2, e3]
  exact List.take_of_length_le (by rw [List.length_map]; exact Nat.le_refl _)
theorem PoolAt.lt {o : Option O} {h : AH} {p : Nat} (e : h[p]? = some o) : p < h.length := (List.getElem?_eq_some_iff.mp e).1
theorem at0 {a b c d : T} : atI [a, b, c, d] 0 = some a := rfl
theorem at1 {a b c d : T} : atI [a, b, c, d] 1 = some b := rfl
theorem at2 {a b c d : T} : atI [a, b, c, d] 2 = some c := rfl
theorem at3 {a b c d : T} : atI [a, b, c, d] 3 = some d := rfl
theorem ix0 : ixN 4 0 = some 0 := rfl
theorem ix1 : ixN 4 1 = some 1 := rfl
theorem ix2 : ixN 4 2 = some 2 := rfl
theorem ix3 : ixN 4 3 = some 3 := rfl
theorem atI_nat {α : Type} {l : List α} {i : Nat} : atI l (i : Int) = l[i]? := by
  unfold atI ixN
  rw [if_pos (by omega : (0 : Int) ≤ (i : Int))]
  by_cases h : (i : Int) < l.length
  · rw [if_pos h]; simp
  · rw [if_neg h]
    exact (List.getElem?_eq_none_iff.mpr (by omega)).symm
theorem draw_loop {p : Nat} {many : Int} : ∀ (k n : Nat) (s : PS) (h : AH), s.ok → h[p]? = some (poolO s) → k = s.ns.length - s.i → k < n → ∃ s' : PS, s'.ok ∧ sWhile c1__law_draw l1__law_draw n [some (.obj p), some (.int many), none] h = .ok (.nx [some (.obj p), some (.int many), none]) (h.set p (poolO s')) := by
  intro k
  induction k with
  | zero =>
    intro n s h ok hp hk hn
    obtain ⟨n, rfl⟩ : ∃ m, n = m + 1 := ⟨n - 1, by omega⟩
    refine ⟨s, ok, ?_⟩
    have e : h.set p (poolO s) = h := by
      apply List.ext_getElem?
      intro j
      by_cases z : p = j
      · subst z; rw [List.getElem?_set_self (PoolAt.lt hp), hp]
      · rw [List.getElem?_set_ne z]
    have nl : ¬ s.i < s.ns.length := by omega
    rw [e]
    unfold sWhile c1__law_draw
    have hp' := hp
    unfold poolO at hp'
    by_cases z : s.d = 0
    · simp [hp', at0, at1, at2, at3, z, nl]
    · simp [hp', at0, at1, at2, at3, z]
  | succ k ih =>
    intro n s h ok hp hk hn
    obtain ⟨n, rfl⟩ : ∃ m, n = m + 1 := ⟨n - 1, by omega⟩
    have nl : s.i < s.ns.length := by omega
    have hp' := hp
    unfold poolO at hp'
    have lp := PoolAt.lt hp
    have hs : ∀ o, (h.set p o)[p]? = some o := fun o => List.getElem?_set_self lp
    by_cases z : s.d = 0
    · have hx : (s.ns.map T.int)[s.i]? = some (.int s.ns[s.i]) := by rw [List.getElem?_map, List.getElem?_eq_getElem nl]; rfl
      have ok' : (PS.mk s.ns (s.i + 1) (if s.ns[s.i] < 0 then -s.ns[s.i] else s.ns[s.i]) s.c).ok := ⟨ok.1, by dsimp only; split <;> omega, ok.2.2⟩
      obtain ⟨s', o', e'⟩ := ih n _ (h.set p (poolO (PS.mk s.ns (s.i + 1) (if s.ns[s.i] < 0 then -s.ns[s.i] else s.ns[s.i]) s.c))) ok' (List.getElem?_set_self lp) (by show k = s.ns.length - (s.i + 1); omega) (by omega)
      refine ⟨s', o', ?_⟩
      rw [List.set_set] at e'
      rw [← e']
      refine while_nx (h1 := h) ?_ ?_
      · unfold c1__law_draw
        simp [hp', at0, at1, at2, z, nl]
      · unfold l1__law_draw poolO
        simp [hp', at0, at1, at2, ix1, ix2, atI_nat, hx, hs, List.set_set]
    · refine ⟨s, ok, ?_⟩
      have e : h.set p (poolO s) = h := by
        apply List.ext_getElem?
        intro j
        by_cases z : p = j
        · subst z; rw [List.getElem?_set_self lp, hp]
        · rw [List.getElem?_set_ne z]
      rw [e]
      unfold sWhile c1__law_draw
      simp [hp', at0, at1, at2, at3, z]
/-- a draw: some number below many, and the pool is still one -/
theorem draw_ok {h : AH} {p : Nat} {many : Int} {o : Option O} (hp : h[p]? = some o) (ho : PoolAt o) (m0 : 0 < many) (m1 : many.natAbs.log2 < 9000) : ∃ r o', PoolAt o' ∧ 0 ≤ r ∧ r < many ∧ m__law_draw [.obj p, .int many] h = .ok (.int r) (h.set p o') := by
  obtain ⟨s, rfl, ok⟩ := ho
  obtain ⟨s1, ok1, e1⟩ := draw_loop (many := many) _ FUEL s h ok hp rfl (by have := ok.1; show _ < 1000000; omega)
  have lp := PoolAt.lt hp
  have hs : ∀ o, (h.set p o)[p]? = some o := fun o => List.getElem?_set_self lp
  by_cases z : s1.d = 0
  · refine ⟨(s1.c + 7) / 3 % many, poolO ⟨s1.ns, s1.i, s1.d, s1.c + 7⟩, ⟨_, rfl, ok1.1, ok1.2.1, by have := ok1.2.2; dsimp only; omega⟩, Int.emod_nonneg _ (by omega), Int.emod_lt_of_pos _ m0, ?_⟩
    have c3 : Nat.log2 3 < 9000 := by decide
    simp [m__law_draw, b__law_draw, e1, poolO, hs, at0, at1, at2, at3, ix3, z, List.set_set, m0, c3]
  · refine ⟨s1.d % many, poolO ⟨s1.ns, s1.i, s1.d / many, s1.c⟩, ⟨_, rfl, ok1.1, Int.ediv_nonneg ok1.2.1 (by omega), ok1.2.2⟩, Int.emod_nonneg _ (by omega), Int.emod_lt_of_pos _ m0, ?_⟩
    simp [m__law_draw, b__law_draw, e1, poolO, hs, at0, at1, at2, at3, ix2, z, List.set_set, m0, m1]

def en3 : Str × Int × Int → T := fun x => .tup [.str x.1, .int x.2.1, .int x.2.2]
def en2 : Str × Int → T := fun x => .tup [.str x.1, .int x.2]
def row5 (z k : Str) (op a b : Int) : T := .tup [.str z, .str k, .int op, .int a, .int b]
def rowT : Str × Str × Int × Int × Int → T := fun x => row5 x.1 x.2.1 x.2.2.1 x.2.2.2.1 x.2.2.2.2
def tThree : List (Str × Int × Int) := [("add", 0, 0), ("sub", 0, 32), ("sll", 1, 0), ("slt", 2, 0), ("sltu", 3, 0), ("xor", 4, 0), ("srl", 5, 0), ("sra", 5, 32), ("or", 6, 0), ("and", 7, 0), ("mul", 0, 1), ("mulh", 1, 1), ("mulhsu", 2, 1), ("mulhu", 3, 1), ("div", 4, 1), ("divu", 5, 1), ("rem", 6, 1), ("remu", 7, 1)]
def tImm : List (Str × Int) := [("addi", 0), ("slti", 2), ("sltiu", 3), ("xori", 4), ("ori", 6), ("andi", 7)]
def tAmount : List (Str × Int × Int) := [("slli", 1, 0), ("srli", 5, 0), ("srai", 5, 32)]
def tBranch : List (Str × Int) := [("beq", 0), ("bne", 1), ("blt", 4), ("bge", 5), ("bltu", 6), ("bgeu", 7)]
def tA : List T := tThree.map (fun x => row5 x.1 "three" 51 x.2.1 x.2.2) ++ tImm.map (fun x => row5 x.1 "imm" 19 x.2 0) ++ tAmount.map (fun x => row5 x.1 "amount" 19 x.2.1 x.2.2)
def tB : List T := [row5 "jalr" "imm" 103 0 0, row5 "lw" "imm" 3 2 0, row5 "sw" "store" 35 2 0]
def tC : List T := tBranch.map (fun x => row5 x.1 "branch" 99 x.2 0)
def tD : List T := [row5 "lui" "upper" 55 0 0, row5 "auipc" "upper" 23 0 0, row5 "jal" "jump" 111 0 0, row5 "ecall" "alone" 115 0 0, row5 "ebreak" "alone" 115 0 0]
theorem at_0 {a : T} {l : List T} : atI (a :: l) 0 = some a := by
  show atI (a :: l) ((0 : Nat) : Int) = _
  rw [atI_nat]; rfl
theorem at_1 {a b : T} {l : List T} : atI (a :: b :: l) 1 = some b := by
  show atI (a :: b :: l) ((1 : Nat) : Int) = _
  rw [atI_nat]; rfl
theorem at_2 {a b c : T} {l : List T} : atI (a :: b :: c :: l) 2 = some c := by
  show atI (a :: b :: c :: l) ((2 : Nat) : Int) = _
  rw [atI_nat]; rfl
theorem at_3 {a b c d : T} {l : List T} : atI (a :: b :: c :: d :: l) 3 = some d := by
  show atI (a :: b :: c :: d :: l) ((3 : Nat) : Int) = _
  rw [atI_nat]; rfl
theorem at_4 {a b c d e : T} {l : List T} : atI (a :: b :: c :: d :: e :: l) 4 = some e := by
  show atI (a :: b :: c :: d :: e :: l) ((4 : Nat) : Int) = _
  rw [atI_nat]; rfl
theorem table_ok {h : AH} : m__law_table [] h = .ok (.lst (tA ++ tB ++ tC ++ tD)) (h ++ [none, none]) := by
  have s5 : (5 : Nat) ≤ sizeLine := by decide
  have s106 : (106 : Nat) ≤ sizeLine := by decide
  have hA : ∀ x y : Option T, ∃ v', sForL (aName 2) l1__law_table (tThree.map en3) [x, some (.obj h.length), y] (h ++ [some (.lst [])]) = .ok (.nx [x, some (.obj h.length), v']) (h ++ [some (.lst (tThree.map fun x => row5 x.1 "three" 51 x.2.1 x.2.2))]) := fun x y => by
    obtain ⟨v', e⟩ := for_app (b := l1__law_table) (a := aName 2) (enc := en3) (g := fun x => row5 x.1 "three" 51 x.2.1 x.2.2) (τ0 := fun v => [x, some (.obj h.length), v]) (p := h.length) (fun z l h' hp hl => by simp [l1__law_table, en3, row5, at_0, at_1, at_2, hp, hl, s5]) (fun x v => rfl) tThree y [] (h ++ [some (.lst [])]) get_new (by decide)
    exact ⟨v', by rw [e, set_new]; rfl⟩
  have hB : ∀ (l : List T) (x y : Option T), l.length ≤ 100 → ∃ v', sForL (aName 2) l2__law_table (tImm.map en2) [x, some (.obj h.length), y] (h ++ [some (.lst l)]) = .ok (.nx [x, some (.obj h.length), v']) (h ++ [some (.lst (l ++ tImm.map fun x => row5 x.1 "imm" 19 x.2 0))]) := fun l x y hl => by
    obtain ⟨v', e⟩ := for_app (b := l2__law_table) (a := aName 2) (enc := en2) (g := fun x => row5 x.1 "imm" 19 x.2 0) (τ0 := fun v => [x, some (.obj h.length), v]) (p := h.length) (fun z l h' hp hl => by simp [l2__law_table, en2, row5, at_0, at_1, hp, hl, s5]) (fun x v => rfl) tImm y l (h ++ [some (.lst l)]) get_new (by have q : tImm.length = 6 := rfl; rw [q]; omega)
    exact ⟨v', by rw [e, set_new]⟩
  have hC : ∀ (l : List T) (x y : Option T), l.length ≤ 100 → ∃ v', sForL (aName 2) l3__law_table (tAmount.map en3) [x, some (.obj h.length), y] (h ++ [some (.lst l)]) = .ok (.nx [x, some (.obj h.length), v']) (h ++ [some (.lst (l ++ tAmount.map fun x => row5 x.1 "amount" 19 x.2.1 x.2.2))]) := fun l x y hl => by
    obtain ⟨v', e⟩ := for_app (b := l3__law_table) (a := aName 2) (enc := en3) (g := fun x => row5 x.1 "amount" 19 x.2.1 x.2.2) (τ0 := fun v => [x, some (.obj h.length), v]) (p := h.length) (fun z l h' hp hl => by simp [l3__law_table, en3, row5, at_0, at_1, at_2, hp, hl, s5]) (fun x v => rfl) tAmount y l (h ++ [some (.lst l)]) get_new (by have q : tAmount.length = 3 := rfl; rw [q]; omega)
    exact ⟨v', by rw [e, set_new]⟩
  have hD : ∀ (k : AH) (l : List T) (x y : Option T), l.length ≤ 100 → ∃ v', sForL (aName 2) l4__law_table (tBranch.map en2) [x, some (.obj k.length), y] (k ++ [some (.lst l)]) = .ok (.nx [x, some (.obj k.length), v']) (k ++ [some (.lst (l ++ tBranch.map fun x => row5 x.1 "branch" 99 x.2 0))]) := fun k l x y hl => by
    obtain ⟨v', e⟩ := for_app (b := l4__law_table) (a := aName 2) (enc := en2) (g := fun x => row5 x.1 "branch" 99 x.2 0) (τ0 := fun v => [x, some (.obj k.length), v]) (p := k.length) (fun z l h' hp hl => by simp [l4__law_table, en2, row5, at_0, at_1, hp, hl, s5]) (fun x v => rfl) tBranch y l (k ++ [some (.lst l)]) get_new (by have q : tBranch.length = 6 := rfl; rw [q]; omega)
    exact ⟨v', by rw [e, set_new]⟩
  obtain ⟨v1, e1⟩ := hA (some (.lst (tThree.map en3).dropLast.dropLast)) none
  have l1 : (tThree.map (fun x => row5 x.1 "three" 51 x.2.1 x.2.2)).length = 18 := rfl
  have n1 : ∀ t ∈ (tThree.map (fun x => row5 x.1 "three" 51 x.2.1 x.2.2)), isObj t = false := by intro t ht; obtain ⟨x, _, rfl⟩ := List.mem_map.mp ht; rfl
  have n2 : ∀ t ∈ (tImm.map (fun x => row5 x.1 "imm" 19 x.2 0)), isObj t = false := by intro t ht; obtain ⟨x, _, rfl⟩ := List.mem_map.mp ht; rfl
  have n3 : ∀ t ∈ (tAmount.map (fun x => row5 x.1 "amount" 19 x.2.1 x.2.2)), isObj t = false := by intro t ht; obtain ⟨x, _, rfl⟩ := List.mem_map.mp ht; rfl
  have n4 : ∀ t ∈ (tBranch.map (fun x => row5 x.1 "branch" 99 x.2 0)), isObj t = false := by intro t ht; obtain ⟨x, _, rfl⟩ := List.mem_map.mp ht; rfl
  have l2 : (tImm.map (fun x => row5 x.1 "imm" 19 x.2 0)).length = 6 := rfl
  have l3 : (tAmount.map (fun x => row5 x.1 "amount" 19 x.2.1 x.2.2)).length = 3 := rfl
  have l4 : (tBranch.map (fun x => row5 x.1 "branch" 99 x.2 0)).length = 6 := rfl
  unfold tA tC
  generalize (tThree.map (fun x => row5 x.1 "three" 51 x.2.1 x.2.2)) = X1 at *
  generalize (tImm.map (fun x => row5 x.1 "imm" 19 x.2 0)) = X2 at *
  generalize (tAmount.map (fun x => row5 x.1 "amount" 19 x.2.1 x.2.2)) = X3 at *
  generalize (tBranch.map (fun x => row5 x.1 "branch" 99 x.2 0)) = X4 at *
  obtain ⟨v2, e2⟩ := hB X1 (some (.lst (tThree.map en3).dropLast.dropLast)) v1 (by omega)
  obtain ⟨v3, e3⟩ := hC (X1 ++ X2) (some (.lst (tThree.map en3).dropLast.dropLast)) v2 (by rw [List.length_append]; omega)
  obtain ⟨v4, e4⟩ := hD (h ++ [none]) (X1 ++ X2 ++ X3 ++ tB) (some (.lst (tThree.map en3).dropLast.dropLast)) v3 (by have : tB.length = 3 := rfl; simp only [List.length_append]; omega)
  have f1 : frz 8 (h ++ [some (.lst (X1 ++ X2 ++ X3))]) (.obj h.length) = (.lst (X1 ++ X2 ++ X3), h ++ [none]) := by
    rw [frz_lst get_new (by
      intro t ht
      simp only [List.mem_append] at ht
      rcases ht with (ht | ht) | ht
      · exact n1 t ht
      · exact n2 t ht
      · exact n3 t ht), set_new]
  have f2 : frz 8 (h ++ [none] ++ [some (.lst (X1 ++ X2 ++ X3 ++ tB ++ X4))]) (.obj (h ++ [none]).length) = (.lst (X1 ++ X2 ++ X3 ++ tB ++ X4), h ++ [none] ++ [none]) := by
    rw [frz_lst get_new (by
      intro t ht
      simp only [List.mem_append] at ht
      rcases ht with (((ht | ht) | ht) | ht) | ht
      · exact n1 t ht
      · exact n2 t ht
      · exact n3 t ht
      · simp only [tB, List.mem_cons, List.not_mem_nil, or_false] at ht; rcases ht with rfl | rfl | rfl <;> rfl
      · exact n4 t ht), set_new]
  simp only [tThree, tImm, tAmount, tBranch, List.map_cons, List.map_nil, en3, en2, List.dropLast_cons₂, List.dropLast_singleton, tB, tD, row5] at e1 e2 e3 e4 f2 ⊢
  have sz : ∀ {n : Nat}, n ≤ 100 → n ≤ sizeLine := fun h => Nat.le_trans h (by decide)
  simp only [List.append_assoc, List.length_append, List.length_cons, List.length_nil, Nat.zero_add, List.cons_append, List.nil_append] at e1 e2 e3 e4 f1 f2
  simp [m__law_table, b__law_table, e1, e2, e3, e4, sz, f1, f2, l1, l2, l3, l4, set_new]

theorem pick_ok {h : AH} {p : Nat} {o : Option O} {l : List T} (hp : h[p]? = some o) (ho : PoolAt o) (h0 : 0 < l.length) (h1 : l.length ≤ 1000) : ∃ x o', PoolAt o' ∧ x ∈ l ∧ m__law_pick [.obj p, .lst l] h = .ok x (h.set p o') := by
  have lg : (l.length : Int).natAbs.log2 < 9000 := (Nat.log2_lt (by omega)).mpr (Nat.lt_of_lt_of_le (by omega : (l.length : Int).natAbs < 2 ^ 10) (Nat.pow_le_pow_right (by decide) (by decide)))
  obtain ⟨r, o', q, r0, r1, e⟩ := draw_ok (many := l.length) hp ho (by omega) lg
  obtain ⟨i, rfl⟩ : ∃ i : Nat, r = i := ⟨r.toNat, by omega⟩
  have hi : i < l.length := by omega
  refine ⟨l[i], o', q, List.getElem_mem hi, ?_⟩
  have hx : l[i]? = some l[i] := List.getElem?_eq_getElem hi
  simp [m__law_pick, b__law_pick, e, atI_nat, hx]
inductive Kd : Str → Int → Int → Int → Prop
  | register : Kd "register" 0 31 1
  | amount : Kd "amount" 0 31 1
  | imm : Kd "imm" (-2048) 2047 1
  | value : Kd "value" 0 1048575 1
  | near : Kd "near" (-4096) 4094 2
  | far : Kd "far" (-1048576) 1048574 2
theorem range_ok {k : Str} {lo hi st : Int} {h : AH} (hk : Kd k lo hi st) : m__law_range_of [.str k] h = .ok (.tup [.int lo, .int hi, .int st]) h := by
  have s3 : (3 : Nat) ≤ sizeLine := by decide
  cases hk <;> simp [m__law_range_of, b__law_range_of, M.eqT, s3]
theorem lg_ok {x : Int} (h0 : -4294967296 < x) (h1 : x < 4294967296) : x.natAbs.log2 < 100 := by
  by_cases z : x.natAbs = 0
  · rw [z]; decide
  · exact (Nat.log2_lt z).mpr (by omega)
theorem entry_ok {k : Str} {lo hi st : Int} {h : AH} {p : Nat} {o : Option O} (hk : Kd k lo hi st) (hp : h[p]? = some o) (ho : PoolAt o) : ∃ v o', PoolAt o' ∧ (lo ≤ v ∧ v ≤ hi ∧ v % st = 0) ∧ m__law_entry [.obj p, .str k] h = .ok (.int v) (h.set p o') := by
  have hs : ∀ o, (h.set p o)[p]? = some o := fun o => List.getElem?_set_self (PoolAt.lt hp)
  obtain ⟨w, hst⟩ : ∃ _ : True, (st = 1 ∨ st = 2) ∧ lo ≤ 0 ∧ -1048576 ≤ lo ∧ lo + st ≤ hi ∧ st ≤ hi ∧ hi ≤ 1048575 ∧ lo % st = 0 ∧ hi % st = 0 := ⟨trivial, by cases hk <;> decide⟩
  obtain ⟨b1, b2, b3, b4, b5, b6, b7, b8⟩ := hst
  obtain ⟨r1, o1, q1, lo1, hi1, e1⟩ := draw_ok (many := 3) hp ho (by decide) (by decide)
  have b0 : 0 < st := by omega
  have s4 : ∀ {n : Nat}, n ≤ 100 → n ≤ sizeLine := fun h => Nat.le_trans h (by decide)
  have g1 : st.natAbs.log2 < 9000 := Nat.lt_trans (lg_ok (by omega) (by omega)) (by decide)
  by_cases z : 0 < r1
  · have mb : 0 < (hi - lo) / st + 1 ∧ (hi - lo) / st + 1 < 4294967296 := by rcases b1 with rfl | rfl <;> omega
    obtain ⟨r2, o2, q2, lo2, hi2, e2⟩ := draw_ok (many := (hi - lo) / st + 1) (hs o1) q1 mb.1 (Nat.lt_trans (lg_ok (by omega) (by omega)) (by decide))
    have g2 : st.natAbs.log2 + r2.natAbs.log2 < 1000000 := by
      have := lg_ok (x := r2) (by omega) (by omega)
      omega
    refine ⟨lo + st * r2, o2, q2, by rcases b1 with rfl | rfl <;> omega, ?_⟩
    simp [m__law_entry, b__law_entry, range_ok hk, e1, e2, z, b0, g1, g2, List.set_set]
  · obtain ⟨x, o2, q2, hx, e2⟩ := pick_ok (l := [.int lo, .int (lo + st), .int (hi - st), .int hi, .int (0 - st), .int 0, .int st]) (hs o1) q1 (by simp) (by simp)
    obtain ⟨v, rfl, hv⟩ : ∃ v, x = .int v ∧ (v = lo ∨ v = lo + st ∨ v = hi - st ∨ v = hi ∨ v = 0 - st ∨ v = 0 ∨ v = st) := by
      simp only [List.mem_cons, List.not_mem_nil, or_false] at hx
      rcases hx with rfl | rfl | rfl | rfl | rfl | rfl | rfl <;> exact ⟨_, rfl, by simp⟩
    rw [Int.zero_sub] at e2
    refine ⟨if lo < v then v else lo, o2, q2, by split <;> rcases b1 with rfl | rfl <;> omega, ?_⟩
    simp [m__law_entry, b__law_entry, range_ok hk, e1, z, s4, e2, List.set_set]

inductive Kn : Str → List Str → Prop
  | three : Kn "three" ["register", "register", "register"]
  | amount : Kn "amount" ["register", "register", "amount"]
  | imm : Kn "imm" ["register", "register", "imm"]
  | store : Kn "store" ["register", "register", "imm"]
  | branch : Kn "branch" ["register", "register", "near"]
  | upper : Kn "upper" ["register", "value"]
  | jump : Kn "jump" ["register", "far"]
  | alone : Kn "alone" []
theorem kinds_ok {z kd : Str} {op a b : Int} {ks : List Str} {h : AH} (hk : Kn kd ks) : m__law_kinds_of [row5 z kd op a b] h = .ok (.lst (ks.map .str)) h := by
  have sz : ∀ {n : Nat}, n ≤ 100 → n ≤ sizeLine := fun h => Nat.le_trans h (by decide)
  cases hk <;> simp [m__law_kinds_of, b__law_kinds_of, row5, at_1, M.eqT, sz, mPairs, mergeT, putT, getT]
/-- an entry of a kind -/
def Ent (k : Str) (v : Int) : Prop := ∃ lo hi st, Kd k lo hi st ∧ lo ≤ v ∧ v ≤ hi ∧ v % st = 0
inductive Ents : List Str → List Int → Prop
  | nil : Ents [] []
  | cons {k : Str} {v : Int} {ks : List Str} {vs : List Int} : Ent k v → Ents ks vs → Ents (k :: ks) (v :: vs)
theorem dr_loop {p : Nat} {x1 : Option T} {q : Nat} (hpq : p ≠ q) : ∀ (ks : List Str) (l : List T) (v : Option T) (h : AH) (o : Option O), h[p]? = some o → PoolAt o → h[q]? = some (some (.lst l)) → l.length + ks.length ≤ 100 → (∀ k ∈ ks, ∃ lo hi st, Kd k lo hi st) →
    ∃ vs o' v', PoolAt o' ∧ Ents ks vs ∧ sForL (aName 3) l1__law_drawn_row (ks.map .str) [some (.obj p), x1, some (.obj q), v] h = .ok (.nx [some (.obj p), x1, some (.obj q), v']) ((h.set p o').set q (some (.lst (l ++ vs.map .int)))) := by
  intro ks
  induction ks with
  | nil =>
    intro l v h o hp ho hq _ _
    refine ⟨[], o, v, ho, .nil, ?_⟩
    have e : (h.set p o).set q (some (.lst (l ++ ([] : List Int).map .int))) = h := by
      apply List.ext_getElem?
      intro j
      rw [List.map_nil, List.append_nil]
      by_cases z : q = j
      · subst z; rw [List.getElem?_set_self (by rw [List.length_set]; exact PoolAt.lt hq), hq]
      · rw [List.getElem?_set_ne z]
        by_cases y : p = j
        · subst y; rw [List.getElem?_set_self (PoolAt.lt hp), hp]
        · rw [List.getElem?_set_ne y]
    rw [e]; rfl
  | cons k ks ih =>
    intro l v h o hp ho hq hn hk
    obtain ⟨lo, hi, st, kd⟩ := hk k List.mem_cons_self
    obtain ⟨w, o1, q1, ⟨b1, b2, b3⟩, e1⟩ := entry_ok kd hp ho
    rw [List.length_cons] at hn
    have hq1 : (h.set p o1)[q]? = some (some (.lst l)) := by rw [List.getElem?_set_ne hpq]; exact hq
    have hn1 : l.length < sizeLine := Nat.lt_of_lt_of_le (by omega : l.length < 100) (by decide)
    have lq : q < h.length := PoolAt.lt hq
    obtain ⟨vs, o', v', q', ev, e⟩ := ih (l ++ [.int w]) (some (.str k)) ((h.set p o1).set q (some (.lst (l ++ [.int w])))) o1 (by rw [List.getElem?_set_ne (Ne.symm hpq)]; exact List.getElem?_set_self (PoolAt.lt hp)) q1 (List.getElem?_set_self (by rw [List.length_set]; exact lq)) (by rw [List.length_append, List.length_singleton]; omega) (fun k hk' => hk k (List.mem_cons_of_mem _ hk'))
    refine ⟨w :: vs, o', v', q', .cons ⟨lo, hi, st, kd, b1, b2, b3⟩ ev, ?_⟩
    rw [List.map_cons, for_nx (τ1 := [some (.obj p), x1, some (.obj q), some (.str k)]) (τ' := [some (.obj p), x1, some (.obj q), some (.str k)]) (h1 := (h.set p o1).set q (some (.lst (l ++ [.int w])))) rfl ?_, e]
    · rw [List.set_comm _ _ (Ne.symm hpq), List.set_set, List.set_set, List.append_assoc]
      rfl
    · simp [l1__law_drawn_row, e1, hq, hq1, hn1]
theorem Ents.len {ks : List Str} {vs : List Int} (h : Ents ks vs) : vs.length = ks.length := by
  induction h with
  | nil => rfl
  | cons _ _ ih => simp [ih]
theorem Kn.kd {kd : Str} {ks : List Str} (h : Kn kd ks) : ks.length ≤ 3 ∧ ∀ k ∈ ks, ∃ lo hi st, Kd k lo hi st := by
  cases h <;> refine ⟨by decide, ?_⟩ <;> intro k hk <;> simp only [List.mem_cons, List.not_mem_nil, or_false] at hk
  · rcases hk with rfl | rfl | rfl <;> exact ⟨_, _, _, .register⟩
  · rcases hk with rfl | rfl | rfl <;> first | exact ⟨_, _, _, .register⟩ | exact ⟨_, _, _, .amount⟩
  · rcases hk with rfl | rfl | rfl <;> first | exact ⟨_, _, _, .register⟩ | exact ⟨_, _, _, .imm⟩
  · rcases hk with rfl | rfl | rfl <;> first | exact ⟨_, _, _, .register⟩ | exact ⟨_, _, _, .imm⟩
  · rcases hk with rfl | rfl | rfl <;> first | exact ⟨_, _, _, .register⟩ | exact ⟨_, _, _, .near⟩
  · rcases hk with rfl | rfl <;> first | exact ⟨_, _, _, .register⟩ | exact ⟨_, _, _, .value⟩
  · rcases hk with rfl | rfl <;> first | exact ⟨_, _, _, .register⟩ | exact ⟨_, _, _, .far⟩
theorem drawn_ok {z kd : Str} {op a b : Int} {ks : List Str} {h : AH} {p : Nat} {o : Option O} (hp : h[p]? = some o) (ho : PoolAt o) (hk : Kn kd ks) : ∃ vs o', PoolAt o' ∧ Ents ks vs ∧ m__law_drawn_row [.obj p, row5 z kd op a b] h = .ok (.tup (.str z :: vs.map .int)) (h.set p o' ++ [none]) := by
  obtain ⟨h3, hks⟩ := hk.kd
  have lp := PoolAt.lt hp
  obtain ⟨vs, o', v', q', ev, e⟩ := dr_loop (x1 := some (row5 z kd op a b)) (q := h.length) (by omega : p ≠ h.length) ks [.str z] none (h ++ [some (.lst [.str z])]) o (by rw [List.getElem?_append_left lp]; exact hp) ho get_new (by simp; omega) hks
  have e1 : ((h ++ [some (O.lst [.str z])]).set p o').set h.length (some (.lst ([.str z] ++ vs.map .int))) = h.set p o' ++ [some (.lst (.str z :: vs.map .int))] := by
    rw [List.set_append_left _ _ lp]
    have := set_new (h := h.set p o') (o := some (O.lst [.str z])) (o' := some (.lst ([.str z] ++ vs.map .int)))
    rw [List.length_set] at this
    exact this
  rw [e1] at e
  have f : frz 8 (h.set p o' ++ [some (.lst (.str z :: vs.map .int))]) (.obj h.length) = (.lst (.str z :: vs.map .int), h.set p o' ++ [none]) := by
    have g := get_new (h := h.set p o') (o := some (O.lst (.str z :: vs.map .int)))
    have s := set_new (h := h.set p o') (o := some (O.lst (.str z :: vs.map .int))) (o' := none)
    rw [List.length_set] at g s
    rw [frz_lst g (by
      intro t ht
      rcases List.mem_cons.mp ht with rfl | ht
      · rfl
      · obtain ⟨x, _, rfl⟩ := List.mem_map.mp ht; rfl), s]
  have sz : ∀ {n : Nat}, n ≤ 100 → n ≤ sizeLine := fun h => Nat.le_trans h (by decide)
  have lv : vs.length ≤ 3 := by rw [ev.len]; exact h3
  have k0 : ∀ h, m__law_kinds_of [row5 z kd op a b] h = .ok (.lst (ks.map .str)) h := fun h => kinds_ok hk
  have r0 : atI [T.str z, .str kd, .int op, .int a, .int b] 0 = some (.str z) := at_0
  unfold row5 at *
  refine ⟨vs, o', q', ev, ?_⟩
  simp [m__law_drawn_row, b__law_drawn_row, k0, r0, sz, e, f]

theorem ent_reg {k : Str} {v : Int} (h : Ent k v) (hk : k = "register" ∨ k = "amount") : 0 ≤ v ∧ v ≤ 31 := by
  obtain ⟨lo, hi, st, kd, h1, h2, h3⟩ := h
  cases kd <;> first | exact ⟨h1, h2⟩ | (simp at hk)
theorem ent_imm {k : Str} {v : Int} (h : Ent k v) (hk : k = "imm") : -2048 ≤ v ∧ v ≤ 2047 := by
  obtain ⟨lo, hi, st, kd, h1, h2, h3⟩ := h
  cases kd <;> first | exact ⟨h1, h2⟩ | (simp at hk)
theorem ent_value {k : Str} {v : Int} (h : Ent k v) (hk : k = "value") : 0 ≤ v ∧ v ≤ 1048575 := by
  obtain ⟨lo, hi, st, kd, h1, h2, h3⟩ := h
  cases kd <;> first | exact ⟨h1, h2⟩ | (simp at hk)
theorem ent_near {k : Str} {v : Int} (h : Ent k v) (hk : k = "near") : -4096 ≤ v ∧ v ≤ 4094 ∧ v % 2 = 0 := by
  obtain ⟨lo, hi, st, kd, h1, h2, h3⟩ := h
  cases kd <;> first | exact ⟨h1, h2, h3⟩ | (simp at hk)
theorem ent_far {k : Str} {v : Int} (h : Ent k v) (hk : k = "far") : -1048576 ≤ v ∧ v ≤ 1048574 ∧ v % 2 = 0 := by
  obtain ⟨lo, hi, st, kd, h1, h2, h3⟩ := h
  cases kd <;> first | exact ⟨h1, h2, h3⟩ | (simp at hk)

theorem wn_turn {w n : Int} {start many pos : Nat} {f : T} {a b c d : Option T} {h : AH} (hw : 0 ≤ w) (hw2 : w < 4294967296) (hs : start ≤ 64) (hm : many ≤ 32) (hp : pos ≤ 31) (hz : w / 2 ^ pos % 2 ^ many = 0) :
    l1_with_number [some (.int w), some f, some (.int n), some (.int start), some (.int many), some (.int pos), d] h = .ok (.nx [some (.int (w + n / 2 ^ start % 2 ^ many * 2 ^ pos)), some f, some (.int n), some (.int start), some (.int many), some (.int pos), some (.int (2 ^ many - 1))]) h := by
  have p1 : (0 : Int) < 2 ^ many := PySem.W.kbt_pos many
  have p2 : (2 : Nat) ^ many ≤ 2 ^ 32 := Nat.pow_le_pow_right (by decide) hm
  have p3 := PySem.W.kbt_cast many
  have e1 : (2 ^ many - 1 : Int).natAbs < 18446744073709551616 := by
    have : (2 : Nat) ^ 32 = 4294967296 := by decide
    omega
  have e2 : (Builtin.bitAnd (n / 2 ^ start) (2 ^ many - 1)).natAbs < 18446744073709551616 := by
    rw [PySem.W.kbt_mask]
    have q1 := Int.emod_nonneg (n / 2 ^ start) (by omega : (2 : Int) ^ many ≠ 0)
    have q2 := Int.emod_lt_of_pos (n / 2 ^ start) p1
    have : (2 : Nat) ^ 32 = 4294967296 := by decide
    omega
  have e3 : (many : Int) ≤ 1000000 := by omega
  have e4 : (pos : Int) ≤ 1000000 := by omega
  have := setf (x := n / 2 ^ start) hw hz
  simp [l1_with_number, e1, e2, e3, e4, this]
theorem bits_rd : List.lookup ("rd" : Str) rows_BITS = some (some (.ktp [.ktp [.int (0 : Nat), .int (5 : Nat), .int (7 : Nat)]])) := rfl
theorem bits_rs1 : List.lookup ("rs1" : Str) rows_BITS = some (some (.ktp [.ktp [.int (0 : Nat), .int (5 : Nat), .int (15 : Nat)]])) := rfl
theorem bits_rs2 : List.lookup ("rs2" : Str) rows_BITS = some (some (.ktp [.ktp [.int (0 : Nat), .int (5 : Nat), .int (20 : Nat)]])) := rfl
theorem bits_amount : List.lookup ("amount" : Str) rows_BITS = some (some (.ktp [.ktp [.int (0 : Nat), .int (5 : Nat), .int (20 : Nat)]])) := rfl
theorem bits_imm : List.lookup ("imm" : Str) rows_BITS = some (some (.ktp [.ktp [.int (0 : Nat), .int (12 : Nat), .int (20 : Nat)]])) := rfl
theorem bits_parted : List.lookup ("parted" : Str) rows_BITS = some (some (.ktp [.ktp [.int (0 : Nat), .int (5 : Nat), .int (7 : Nat)], .ktp [.int (5 : Nat), .int (7 : Nat), .int (25 : Nat)]])) := rfl
theorem bits_value : List.lookup ("value" : Str) rows_BITS = some (some (.ktp [.ktp [.int (0 : Nat), .int (20 : Nat), .int (12 : Nat)]])) := rfl
theorem bits_way : List.lookup ("way" : Str) rows_BITS = some (some (.ktp [.ktp [.int (11 : Nat), .int (1 : Nat), .int (7 : Nat)], .ktp [.int (1 : Nat), .int (4 : Nat), .int (8 : Nat)], .ktp [.int (5 : Nat), .int (6 : Nat), .int (25 : Nat)], .ktp [.int (12 : Nat), .int (1 : Nat), .int (31 : Nat)]])) := rfl
theorem bits_far : List.lookup ("far" : Str) rows_BITS = some (some (.ktp [.ktp [.int (12 : Nat), .int (8 : Nat), .int (12 : Nat)], .ktp [.int (11 : Nat), .int (1 : Nat), .int (20 : Nat)], .ktp [.int (1 : Nat), .int (10 : Nat), .int (21 : Nat)], .ktp [.int (20 : Nat), .int (1 : Nat), .int (31 : Nat)]])) := rfl
/-- the fields' bits, laid into the word one by one -/
def laid (n : Int) : List (Nat × Nat × Nat) → Int → Int
  | [], w => w
  | (s, m, p) :: r, w => laid n r (w + n / 2 ^ s % 2 ^ m * 2 ^ p)
/-- every field is in its place, and empty when its turn comes -/
def layok (n : Int) : List (Nat × Nat × Nat) → Int → Prop
  | [], _ => True
  | (s, m, p) :: r, w => 0 ≤ w ∧ w < 4294967296 ∧ s ≤ 64 ∧ m ≤ 32 ∧ p ≤ 31 ∧ w / 2 ^ p % 2 ^ m = 0 ∧ layok n r (w + n / 2 ^ s % 2 ^ m * 2 ^ p)
theorem wn_loop {n : Int} {f : T} {h : AH} : ∀ (l : List (Nat × Nat × Nat)) (w : Int) (a b c d : Option T), layok n l w → ∃ a' b' c' d', sForL (aTup 3 (aCons (aName 3) (aCons (aName 4) (aCons (aName 5) aNil)))) l1_with_number (l.map fun x => .ktp [.int x.1, .int x.2.1, .int x.2.2]) [some (.int w), some f, some (.int n), a, b, c, d] h = .ok (.nx [some (.int (laid n l w)), some f, some (.int n), a', b', c', d']) h := by
  intro l
  induction l with
  | nil => intro w a b c d _; exact ⟨a, b, c, d, rfl⟩
  | cons x r ih =>
    obtain ⟨s, m, p⟩ := x
    intro w a b c d hk
    obtain ⟨h1, h2, h3, h4, h5, h6, h7⟩ := hk
    obtain ⟨a', b', c', d', e⟩ := ih _ (some (.int s)) (some (.int m)) (some (.int p)) (some (.int (2 ^ m - 1))) h7
    refine ⟨a', b', c', d', ?_⟩
    rw [List.map_cons, for_nx rfl (wn_turn (a := none) (b := none) (c := none) h1 h2 h3 h4 h5 h6), e]
    rfl
theorem wn_eq {n w : Int} {f : Str} {h : AH} (l : List (Nat × Nat × Nat)) (hf : List.lookup f rows_BITS = some (some (.ktp (l.map fun x => .ktp [.int x.1, .int x.2.1, .int x.2.2])))) (hk : layok n l w) : m_with_number [.int w, .str f, .int n] h = .ok (.int (laid n l w)) h := by
  obtain ⟨a', b', c', d', e⟩ := wn_loop (f := .str f) (h := h) l w none none none none hk
  simp [m_with_number, b_with_number, hf, e]
theorem forms_three : List.lookup ("three" : Str) rows_FORMS = some (some (.ktp [.str "rd", .str "rs1", .str "rs2"])) := rfl
theorem forms_near : List.lookup ("near" : Str) rows_FORMS = some (some (.ktp [.str "rd", .str "rs1", .str "imm"])) := rfl
theorem forms_shift : List.lookup ("shift" : Str) rows_FORMS = some (some (.ktp [.str "rd", .str "rs1", .str "amount"])) := rfl
theorem forms_store : List.lookup ("store" : Str) rows_FORMS = some (some (.ktp [.str "rs2", .str "rs1", .str "parted"])) := rfl
theorem forms_branch : List.lookup ("branch" : Str) rows_FORMS = some (some (.ktp [.str "rs1", .str "rs2", .str "way"])) := rfl
theorem forms_upper : List.lookup ("upper" : Str) rows_FORMS = some (some (.ktp [.str "rd", .str "value"])) := rfl
theorem forms_jump : List.lookup ("jump" : Str) rows_FORMS = some (some (.ktp [.str "rd", .str "far"])) := rfl
theorem forms_alone : List.lookup ("alone" : Str) rows_FORMS = some (some (.ktp [])) := rfl
theorem atI_nat1 {α : Type} {l : List α} {i : Nat} : atI l ((i : Int) + 1) = l[i + 1]? := atI_nat (i := i + 1)
theorem at_hd {α : Type} {l : List α} {x : α} : atI (x :: l) 0 = some x := atI_nat (i := 0)
/-- an entry keeps its field's bounds -/
def bOk (x : Str × Int) : Prop := ∃ lo hi st : Int, rows_BOUNDS.lookup x.1 = some (some (.ktp [.int lo, .int hi, .int st])) ∧ lo ≤ x.2 ∧ x.2 ≤ hi ∧ 0 < st ∧ x.2 % st = 0
theorem we_turn {row : List T} {f : Str} {v lo hi st : Int} {k : Nat} {c d e g : Option T} {h : AH} (hk : rows_BOUNDS.lookup f = some (some (.ktp [.int lo, .int hi, .int st]))) (hv : row[k + 1]? = some (.int v)) (h1 : lo ≤ v) (h2 : v ≤ hi) (h3 : 0 < st) (h4 : v % st = 0) :
    l1_wrong_entry [some (.tup row), some (.int k), some (.str f), c, d, e, g] h = .ok (.nx [some (.tup row), some (.int k), some (.str f), some (.int lo), some (.int hi), some (.int st), some (.int v)]) h := by
  unfold l1_wrong_entry
  simp [hk]
  simp [atI_nat1, hv]
  simp [h1, h2, h3, h4, M.eqT]
theorem we_loop {row : List T} {h : AH} : ∀ (fs : List (Str × Int)) (k : Nat) (a b c d e g : Option T), (∀ (j : Nat) (x : Str × Int), fs[j]? = some x → row[k + 1 + j]? = some (.int x.2)) → (∀ x ∈ fs, bOk x) →
    ∃ a' b' c' d' e' g', sForL (aTup 2 (aCons (aName 1) (aCons (aName 2) aNil))) l1_wrong_entry (fs.mapIdx fun i x => .tup [.int ((k + i : Nat)), .str x.1]) [some (.tup row), a, b, c, d, e, g] h = .ok (.nx [some (.tup row), a', b', c', d', e', g']) h := by
  intro fs
  induction fs with
  | nil => intro k a b c d e g _ _; exact ⟨a, b, c, d, e, g, rfl⟩
  | cons x fs ih =>
    intro k a b c d e g hr hb
    obtain ⟨f, v⟩ := x
    obtain ⟨lo, hi, st, hk, h1, h2, h3, h4⟩ := hb _ List.mem_cons_self
    have hv : row[k + 1]? = some (.int v) := hr 0 (f, v) rfl
    obtain ⟨a', b', c', d', e', g', eq⟩ := ih (k + 1) (some (.int k)) (some (.str f)) (some (.int lo)) (some (.int hi)) (some (.int st)) (some (.int v)) (fun j x hx => by rw [show k + 1 + 1 + j = k + 1 + (j + 1) by omega]; exact hr (j + 1) x hx) (fun x hx => hb x (List.mem_cons_of_mem _ hx))
    refine ⟨a', b', c', d', e', g', ?_⟩
    have e0 : (fun (i : Nat) (x : Str × Int) => T.tup [.int ((k + (i + 1) : Nat)), .str x.1]) = fun i x => T.tup [.int ((k + 1 + i : Nat)), .str x.1] := by
      funext i x
      rw [show k + (i + 1) = k + 1 + i by omega]
    dsimp only at hk h1 h2 h4
    rw [List.mapIdx_cons]
    refine Eq.trans (congrArg (fun l => sForL _ _ (_ :: List.mapIdx l fs) _ _) e0) ?_
    dsimp only
    rw [for_nx (τ1 := [some (.tup row), some (.int k), some (.str f), c, d, e, g]) (τ' := [some (.tup row), some (.int k), some (.str f), some (.int lo), some (.int hi), some (.int st), some (.int v)]) (h1 := h) (by simp [aName]) ?_, eq]
    exact we_turn (c := c) (d := d) (e := e) (g := g) hk hv h1 h2 h3 h4
theorem fo_ok {z fm : Str} {l : List T} {r : List T} {h : AH} (hz : all_ROWS.lookup z = some (.ktp (.str fm :: r))) (hf : rows_FORMS.lookup fm = some (some (.ktp l))) : m_fields_of [.str z] h = .ok (.ktp l) h := by
  simp [m_fields_of, b_fields_of, hz, hf, at_hd]
theorem we_ok {z fm : Str} {op f3 f7 : Int} {fs : List (Str × Int)} {h : AH} (hz : all_ROWS.lookup z = some (.ktp [.str fm, .int op, .int f3, .int f7])) (hf : rows_FORMS.lookup fm = some (some (.ktp (fs.map fun x => .str x.1)))) (hb : ∀ x ∈ fs, bOk x) :
    m_wrong_entry [.tup (.str z :: fs.map fun x => .int x.2)] h = .ok .non h := by
  have hr : ∀ (j : Nat) (x : Str × Int), fs[j]? = some x → (T.str z :: fs.map fun x => T.int x.2)[0 + 1 + j]? = some (.int x.2) := fun j x hx => by
    rw [show 0 + 1 + j = j + 1 by omega, List.getElem?_cons_succ, List.getElem?_map, hx]; rfl
  obtain ⟨a', b', c', d', e', g', eq⟩ := we_loop (h := h) fs 0 none none none none none none hr hb
  have e2 : M.numbered (fs.map fun x => T.str x.1) = fs.mapIdx fun i x => .tup [.int ((0 + i : Nat)), .str x.1] := by
    unfold M.numbered
    rw [List.mapIdx_eq_iff]
    intro i
    rw [List.getElem?_mapIdx, List.getElem?_map, Option.map_map]
    congr 1
    funext x; simp
  have e3 : atI (T.str z :: fs.map fun x => T.int x.2) 0 = some (.str z) := at_hd
  simp only [Nat.zero_add] at eq e2
  simp [m_wrong_entry, b_wrong_entry, fo_ok hz hf, hz, hf, e3, M.eqT, e2, eq]
/-- the fields, laid into the word -/
inductive Enc : List (Str × Int) → Int → Int → Prop
  | nil {w : Int} : Enc [] w w
  | cons {f : Str} {v w w' : Int} {r : List (Str × Int)} (l : List (Nat × Nat × Nat)) : List.lookup f rows_BITS = some (some (.ktp (l.map fun x => .ktp [.int x.1, .int x.2.1, .int x.2.2]))) → layok v l w → Enc r (laid v l w) w' → Enc ((f, v) :: r) w w'
theorem en_loop {x0 x1 x2 x3 x4 x5 : Option T} {h : AH} {fs : List (Str × Int)} {w w' : Int} (he : Enc fs w w') : ∀ a b : Option T, ∃ a' b', sForL (aTup 2 (aCons (aName 7) (aCons (aName 8) aNil))) l1_encode (fs.map fun x => .tup [.str x.1, .int x.2]) [x0, x1, x2, x3, x4, x5, some (.int w), a, b] h = .ok (.nx [x0, x1, x2, x3, x4, x5, some (.int w'), a', b']) h := by
  induction he with
  | nil => intro a b; exact ⟨a, b, rfl⟩
  | @cons f v w w' r l hl hk _ ih =>
    intro a b
    obtain ⟨a', b', e⟩ := ih (some (.str f)) (some (.int v))
    refine ⟨a', b', ?_⟩
    rw [List.map_cons, for_nx (τ1 := [x0, x1, x2, x3, x4, x5, some (.int w), some (.str f), some (.int v)]) (τ' := [x0, x1, x2, x3, x4, x5, some (.int (laid v l w)), some (.str f), some (.int v)]) (h1 := h) (by simp [aName]) ?_, e]
    simp [l1_encode, wn_eq l hl hk]
theorem enc_ok {z fm : Str} {op f3 f7 : Int} {fs : List (Str × Int)} {h : AH} {w w' : Int} (hz : all_ROWS.lookup z = some (.ktp [.str fm, .int op, .int f3, .int f7])) (hf : rows_FORMS.lookup fm = some (some (.ktp (fs.map fun x => .str x.1)))) (hb : ∀ x ∈ fs, bOk x)
    (o1 : 0 ≤ op) (o2 : op < 4096 ∨ f3 = 0 ∧ f7 = 0) (o3 : 0 ≤ f3) (o4 : f3 < 8) (o5 : 0 ≤ f7) (o6 : f7 < 128) (hw : w = op + f3 * 4096 + f7 * 33554432) (he : Enc fs w w') :
    m_encode [.tup (.str z :: fs.map fun x => .int x.2)] h = .ok (.int w') h := by
  obtain ⟨a', b', e⟩ := en_loop (h := h) (x0 := some (.tup (.str z :: fs.map fun x => .int x.2))) (x1 := some .non) (x2 := some (.str fm)) (x3 := some (.int op)) (x4 := some (.int f3)) (x5 := some (.int f7)) he none none
  have b1 : Builtin.bitOr op (f3 * 4096) = op + f3 * 4096 := by
    rcases o2 with o2 | ⟨rfl, rfl⟩
    · exact bor_add (pos := 12) o1 o2
    · have := bor_add (x := 0) (pos := op.toNat) o1 (by have := PySem.W.kbt_cast op.toNat; have := @Nat.lt_two_pow_self op.toNat; omega)
      simpa using this
  have b2 : Builtin.bitOr (op + f3 * 4096) (f7 * 33554432) = w := by
    subst hw
    rcases o2 with o2 | ⟨rfl, rfl⟩
    · exact bor_add (pos := 25) (by omega) (by omega)
    · have := bor_add (x := 0) (pos := op.toNat) o1 (by have := PySem.W.kbt_cast op.toNat; have := @Nat.lt_two_pow_self op.toNat; omega)
      simpa using this
  have e3 : atI (T.str z :: fs.map fun x => T.int x.2) 0 = some (.str z) := at_hd
  have e4 : HT.sIx (fs.length + 1) 0 (some 1) = 1 := by
    have := HT.sIx_nat (fs.length + 1) 0 1
    rw [show ((1 : Nat) : Int) = 1 from rfl] at this
    rw [this]; omega
  have e5 : HT.sIx (fs.length + 1) (fs.length + 1) none = fs.length + 1 := rfl
  have e6 : pairs (fs.map fun x => T.str x.1) (fs.map fun x => T.int x.2) = fs.map fun x => .tup [.str x.1, .int x.2] := by
    unfold pairs
    rw [List.zipWith_map, List.zipWith_self]
  have n1 : f3.natAbs < 18446744073709551616 := by omega
  have n2 : f7.natAbs < 18446744073709551616 := by omega
  have e7 : List.take fs.length (fs.map fun x => T.int x.2) = fs.map fun x => T.int x.2 := List.take_of_length_le (by rw [List.length_map]; exact Nat.le_refl _)
  simp [m_encode, b_encode, fo_ok hz hf, we_ok hz hf hb, hz, hf, e3, e4, e5, e6, e7, b1, b2, n1, n2, cutT, e]

/-- the law's word of a row, and the program's: the same -/
def CE (f : T) (z : Str) (vs : List Int) (c : Int) : Prop := (∀ h, m__law_code [f, .tup (.str z :: vs.map .int)] h = .ok (.int c) h) ∧ ∀ h, m_encode [.tup (.str z :: vs.map .int)] h = .ok (.int c) h
theorem bo_reg {f : Str} (hf : f = "rd" ∨ f = "rs1" ∨ f = "rs2" ∨ f = "amount") {v : Int} (h1 : 0 ≤ v) (h2 : v ≤ 31) : bOk (f, v) := by
  rcases hf with rfl | rfl | rfl | rfl <;> exact ⟨0, 31, 1, rfl, h1, h2, by decide, by simp only; omega⟩
theorem ce_three {z : Str} {a b x y v : Int} (hz : all_ROWS.lookup z = some (.ktp [.str "three", .int 51, .int a, .int b])) (a1 : 0 ≤ a) (a2 : a < 8) (b1 : 0 ≤ b) (b2 : b < 128) (x1 : 0 ≤ x) (x2 : x ≤ 31) (y1 : 0 ≤ y) (y2 : y ≤ 31) (v1 : 0 ≤ v) (v2 : v ≤ 31) :
    ∃ w, CE (row5 z "three" 51 a b) z [x, y, v] w ∧ 0 ≤ w ∧ w < 4294967296 ∧ w % 128 = 51 ∧ w / 4096 % 8 = a ∧ w / 33554432 = b ∧ w / 128 % 32 = x ∧ w / 32768 % 32 = y ∧ w / 1048576 % 32 = v := by
  have e := fun h : AH => enc_ok (h := h) (fs := [("rd", x), ("rs1", y), ("rs2", v)]) hz forms_three (by
    intro q hq
    simp only [List.mem_cons, List.not_mem_nil, or_false] at hq
    rcases hq with rfl | rfl | rfl
    · exact bo_reg (.inl rfl) x1 x2
    · exact bo_reg (.inr (.inl rfl)) y1 y2
    · exact bo_reg (.inr (.inr (.inl rfl))) v1 v2) (by decide) (.inl (by decide)) a1 a2 b1 b2 rfl
    (.cons [(0, 5, 7)] bits_rd (by simp only [layok, and_true]; omega) (.cons [(0, 5, 15)] bits_rs1 (by simp only [layok, laid, and_true]; omega) (.cons [(0, 5, 20)] bits_rs2 (by simp only [layok, laid, and_true]; omega) .nil)))
  simp only [laid, List.map_cons, List.map_nil] at e
  generalize hw : 51 + a * 4096 + b * 33554432 + x / 2 ^ 0 % 2 ^ 5 * 2 ^ 7 + y / 2 ^ 0 % 2 ^ 5 * 2 ^ 15 + v / 2 ^ 0 % 2 ^ 5 * 2 ^ 20 = w at e
  refine ⟨w, ⟨fun h => ?_, e⟩, by omega, by omega, by omega, by omega, by omega, by omega, by omega, by omega⟩
  have g1 := mul_lt (x := a) (n := 4096) (by omega) (by omega) (by decide)
  have g2 := mul_lt (x := y) (n := 32768) (by omega) (by omega) (by decide)
  have g3 := mul_lt (x := x) (n := 128) (by omega) (by omega) (by decide)
  have g4 := mul_lt (x := v) (n := 1048576) (by omega) (by omega) (by decide)
  have g5 := mul_lt (x := b) (n := 33554432) (by omega) (by omega) (by decide)
  simp [m__law_code, b__law_code, row5, at_0, at_1, at_2, at_3, at_4, M.eqT, g1, g2, g3, g4, g5]
  omega
theorem ce_amount {z : Str} {a b x y v : Int} (hz : all_ROWS.lookup z = some (.ktp [.str "shift", .int 19, .int a, .int b])) (a1 : 0 ≤ a) (a2 : a < 8) (b1 : 0 ≤ b) (b2 : b < 128) (x1 : 0 ≤ x) (x2 : x ≤ 31) (y1 : 0 ≤ y) (y2 : y ≤ 31) (v1 : 0 ≤ v) (v2 : v ≤ 31) :
    ∃ w, CE (row5 z "amount" 19 a b) z [x, y, v] w ∧ 0 ≤ w ∧ w < 4294967296 ∧ w % 128 = 19 ∧ w / 4096 % 8 = a ∧ w / 33554432 = b ∧ w / 128 % 32 = x ∧ w / 32768 % 32 = y ∧ w / 1048576 % 32 = v := by
  have e := fun h : AH => enc_ok (h := h) (fs := [("rd", x), ("rs1", y), ("amount", v)]) hz forms_shift (by
    intro q hq
    simp only [List.mem_cons, List.not_mem_nil, or_false] at hq
    rcases hq with rfl | rfl | rfl
    · exact bo_reg (.inl rfl) x1 x2
    · exact bo_reg (.inr (.inl rfl)) y1 y2
    · exact bo_reg (.inr (.inr (.inr rfl))) v1 v2) (by decide) (.inl (by decide)) a1 a2 b1 b2 rfl
    (.cons [(0, 5, 7)] bits_rd (by simp only [layok, and_true]; omega) (.cons [(0, 5, 15)] bits_rs1 (by simp only [layok, laid, and_true]; omega) (.cons [(0, 5, 20)] bits_amount (by simp only [layok, laid, and_true]; omega) .nil)))
  simp only [laid, List.map_cons, List.map_nil] at e
  generalize hw : 19 + a * 4096 + b * 33554432 + x / 2 ^ 0 % 2 ^ 5 * 2 ^ 7 + y / 2 ^ 0 % 2 ^ 5 * 2 ^ 15 + v / 2 ^ 0 % 2 ^ 5 * 2 ^ 20 = w at e
  refine ⟨w, ⟨fun h => ?_, e⟩, by omega, by omega, by omega, by omega, by omega, by omega, by omega, by omega⟩
  have g1 := mul_lt (x := a) (n := 4096) (by omega) (by omega) (by decide)
  have g2 := mul_lt (x := y) (n := 32768) (by omega) (by omega) (by decide)
  have g3 := mul_lt (x := x) (n := 128) (by omega) (by omega) (by decide)
  have g4 := mul_lt (x := v) (n := 1048576) (by omega) (by omega) (by decide)
  have g5 := mul_lt (x := b) (n := 33554432) (by omega) (by omega) (by decide)
  simp [m__law_code, b__law_code, row5, at_0, at_1, at_2, at_3, at_4, M.eqT, g1, g2, g3, g4, g5]
  omega
theorem ce_imm {z : Str} {op a x y v : Int} (hz : all_ROWS.lookup z = some (.ktp [.str "near", .int op, .int a, .int 0])) (a1 : 0 ≤ a) (a2 : a < 8) (o1 : 0 ≤ op) (o2 : op < 128) (x1 : 0 ≤ x) (x2 : x ≤ 31) (y1 : 0 ≤ y) (y2 : y ≤ 31) (v1 : -2048 ≤ v) (v2 : v ≤ 2047) :
    ∃ w, CE (row5 z "imm" op a 0) z [x, y, v] w ∧ 0 ≤ w ∧ w < 4294967296 ∧ w % 128 = op ∧ w / 4096 % 8 = a ∧ w / 128 % 32 = x ∧ w / 32768 % 32 = y ∧ w / 1048576 = v % 4096 := by
  have e := fun h : AH => enc_ok (h := h) (fs := [("rd", x), ("rs1", y), ("imm", v)]) hz forms_near (by
    intro q hq
    simp only [List.mem_cons, List.not_mem_nil, or_false] at hq
    rcases hq with rfl | rfl | rfl
    · exact bo_reg (.inl rfl) x1 x2
    · exact bo_reg (.inr (.inl rfl)) y1 y2
    · exact ⟨-2048, 2047, 1, rfl, v1, v2, by decide, by simp only; omega⟩) (by first | assumption | decide) (.inl (by first | omega | decide)) a1 a2 (by decide) (by decide) rfl
    (.cons [(0, 5, 7)] bits_rd (by simp only [layok, laid, and_true]; omega) (.cons [(0, 5, 15)] bits_rs1 (by simp only [layok, laid, and_true]; omega) (.cons [(0, 12, 20)] bits_imm (by simp only [layok, laid, and_true]; omega) .nil)))
  simp only [laid, List.map_cons, List.map_nil] at e
  generalize hw : op + a * 4096 + 0 * 33554432 + x / 2 ^ 0 % 2 ^ 5 * 2 ^ 7 + y / 2 ^ 0 % 2 ^ 5 * 2 ^ 15 + v / 2 ^ 0 % 2 ^ 12 * 2 ^ 20 = w at e
  refine ⟨w, ⟨fun h => ?_, e⟩, by omega, by omega, by omega, by omega, by omega, by omega, by omega⟩
  have g1 := mul_lt (x := a) (n := 4096) (by omega) (by omega) (by decide)
  have g2 := mul_lt (x := y) (n := 32768) (by omega) (by omega) (by decide)
  have g3 := mul_lt (x := x) (n := 128) (by omega) (by omega) (by decide)
  have g4 := mul_lt (x := v % 4096) (n := 1048576) (by omega) (by omega) (by decide)
  simp [m__law_code, b__law_code, row5, at_0, at_1, at_2, at_3, at_4, M.eqT, g1, g2, g3, g4]
  omega
theorem ce_upper {z : Str} {op x v : Int} (hz : all_ROWS.lookup z = some (.ktp [.str "upper", .int op, .int 0, .int 0])) (o1 : 0 ≤ op) (o2 : op < 128) (x1 : 0 ≤ x) (x2 : x ≤ 31) (v1 : 0 ≤ v) (v2 : v ≤ 1048575) :
    ∃ w, CE (row5 z "upper" op 0 0) z [x, v] w ∧ 0 ≤ w ∧ w < 4294967296 ∧ w % 128 = op ∧ w / 128 % 32 = x ∧ w / 4096 = v := by
  have e := fun h : AH => enc_ok (h := h) (fs := [("rd", x), ("value", v)]) hz forms_upper (by
    intro q hq
    simp only [List.mem_cons, List.not_mem_nil, or_false] at hq
    rcases hq with rfl | rfl
    · exact bo_reg (.inl rfl) x1 x2
    · exact ⟨0, 1048575, 1, rfl, v1, v2, by decide, by simp only; omega⟩) (by first | assumption | decide) (.inl (by first | omega | decide)) (by decide) (by decide) (by decide) (by decide) rfl
    (.cons [(0, 5, 7)] bits_rd (by simp only [layok, laid, and_true]; omega) (.cons [(0, 20, 12)] bits_value (by simp only [layok, laid, and_true]; omega) .nil))
  simp only [laid, List.map_cons, List.map_nil] at e
  generalize hw : op + 0 * 4096 + 0 * 33554432 + x / 2 ^ 0 % 2 ^ 5 * 2 ^ 7 + v / 2 ^ 0 % 2 ^ 20 * 2 ^ 12 = w at e
  refine ⟨w, ⟨fun h => ?_, e⟩, by omega, by omega, by omega, by omega, by omega⟩
  have g3 := mul_lt (x := x) (n := 128) (by omega) (by omega) (by decide)
  have g4 := mul_lt (x := v) (n := 4096) (by omega) (by omega) (by decide)
  simp [m__law_code, b__law_code, row5, at_0, at_1, at_2, at_3, at_4, M.eqT, g3, g4]
  omega
theorem ce_ecall : CE (row5 "ecall" "alone" 115 0 0) "ecall" [] 115 := by
  have e := fun h : AH => enc_ok (h := h) (z := "ecall") (fm := "alone") (op := 115) (f3 := 0) (f7 := 0) (fs := []) rfl forms_alone (by intro q hq; cases hq) (by decide) (.inl (by decide)) (by decide) (by decide) (by decide) (by decide) rfl .nil
  simp at e
  exact ⟨fun h => by simp [m__law_code, b__law_code, row5, at_0, at_1, M.eqT], e⟩
theorem ce_ebreak : CE (row5 "ebreak" "alone" 115 0 0) "ebreak" [] 1048691 := by
  have e := fun h : AH => enc_ok (h := h) (z := "ebreak") (fm := "alone") (op := 1048691) (f3 := 0) (f7 := 0) (fs := []) rfl forms_alone (by intro q hq; cases hq) (by decide) (.inr ⟨rfl, rfl⟩) (by decide) (by decide) (by decide) (by decide) rfl .nil
  simp at e
  exact ⟨fun h => by simp [m__law_code, b__law_code, row5, at_0, at_1, M.eqT], e⟩
theorem ar_store {w d0 d1 d2 d3 : Int} (l0 : 0 ≤ d0) (u0 : d0 < 2 ^ 5) (l1 : 0 ≤ d1) (u1 : d1 < 2 ^ 5) (l2 : 0 ≤ d2) (u2 : d2 < 2 ^ 5) (l3 : 0 ≤ d3) (u3 : d3 < 2 ^ 7) (hw : 35 + 2 * 4096 + 0 * 33554432 + d0 * 2 ^ 20 + d1 * 2 ^ 15 + d2 * 2 ^ 7 + d3 * 2 ^ 25 = w) :
    0 ≤ w ∧ w < 4294967296 ∧ w % 128 = 35 ∧ w / 4096 % 8 = 2 ∧ w / 33554432 = d3 ∧ w / 128 % 32 = d2 ∧ w / 32768 % 32 = d1 ∧ w / 1048576 % 32 = d0 := by
  refine ⟨?_, ?_, ?_, ?_, ?_, ?_, ?_, ?_⟩ <;> omega
theorem ar_store2 {u d2 d3 : Int} (l2 : 0 ≤ d2) (u2 : d2 < 2 ^ 5) (l3 : 0 ≤ d3) (u3 : d3 < 2 ^ 7) (r : d3 * 32 + d2 = u) : u / 32 = d3 ∧ u % 32 = d2 := by
  constructor <;> omega
theorem ar_branch {w a d0 d1 d2 d3 d4 d5 : Int} (a1 : 0 ≤ a) (a2 : a < 8) (l0 : 0 ≤ d0) (u0 : d0 < 2 ^ 5) (l1 : 0 ≤ d1) (u1 : d1 < 2 ^ 5) (l2 : 0 ≤ d2) (u2 : d2 < 2 ^ 1) (l3 : 0 ≤ d3) (u3 : d3 < 2 ^ 4) (l4 : 0 ≤ d4) (u4 : d4 < 2 ^ 6) (l5 : 0 ≤ d5) (u5 : d5 < 2 ^ 1) (hw : 99 + a * 4096 + 0 * 33554432 + d0 * 2 ^ 15 + d1 * 2 ^ 20 + d2 * 2 ^ 7 + d3 * 2 ^ 8 + d4 * 2 ^ 25 + d5 * 2 ^ 31 = w) :
    0 ≤ w ∧ w < 4294967296 ∧ w % 128 = 99 ∧ w / 4096 % 8 = a ∧ w / 32768 % 32 = d0 ∧ w / 1048576 % 32 = d1 ∧ w / 128 % 2 = d2 ∧ w / 256 % 16 = d3 ∧ w / 33554432 % 64 = d4 ∧ w / 2147483648 = d5 := by
  refine ⟨?_, ?_, ?_, ?_, ?_, ?_, ?_, ?_, ?_, ?_⟩ <;> omega
theorem ar_branch2 {u d2 d3 d4 d5 : Int} (l2 : 0 ≤ d2) (u2 : d2 < 2 ^ 1) (l3 : 0 ≤ d3) (u3 : d3 < 2 ^ 4) (l4 : 0 ≤ d4) (u4 : d4 < 2 ^ 6) (l5 : 0 ≤ d5) (u5 : d5 < 2 ^ 1) (r : d5 * 4096 + d4 * 32 + d2 * 2048 + d3 * 2 = u) : u / 4096 = d5 ∧ u / 32 % 64 = d4 ∧ u / 2 % 16 = d3 ∧ u / 2048 % 2 = d2 := by
  refine ⟨?_, ?_, ?_, ?_⟩ <;> omega
theorem ar_jump {w d0 d1 d2 d3 d4 : Int} (l0 : 0 ≤ d0) (u0 : d0 < 2 ^ 5) (l1 : 0 ≤ d1) (u1 : d1 < 2 ^ 8) (l2 : 0 ≤ d2) (u2 : d2 < 2 ^ 1) (l3 : 0 ≤ d3) (u3 : d3 < 2 ^ 10) (l4 : 0 ≤ d4) (u4 : d4 < 2 ^ 1) (hw : 111 + 0 * 4096 + 0 * 33554432 + d0 * 2 ^ 7 + d1 * 2 ^ 12 + d2 * 2 ^ 20 + d3 * 2 ^ 21 + d4 * 2 ^ 31 = w) :
    0 ≤ w ∧ w < 4294967296 ∧ w % 128 = 111 ∧ w / 128 % 32 = d0 ∧ w / 4096 % 256 = d1 ∧ w / 1048576 % 2 = d2 ∧ w / 2097152 % 1024 = d3 ∧ w / 2147483648 = d4 := by
  refine ⟨?_, ?_, ?_, ?_, ?_, ?_, ?_, ?_⟩ <;> omega
theorem ar_jump2 {u d1 d2 d3 d4 : Int} (l1 : 0 ≤ d1) (u1 : d1 < 2 ^ 8) (l2 : 0 ≤ d2) (u2 : d2 < 2 ^ 1) (l3 : 0 ≤ d3) (u3 : d3 < 2 ^ 10) (l4 : 0 ≤ d4) (u4 : d4 < 2 ^ 1) (r : d4 * 1048576 + d1 * 4096 + d2 * 2048 + d3 * 2 = u) : u / 1048576 = d4 ∧ u / 2 % 1024 = d3 ∧ u / 2048 % 2 = d2 ∧ u / 4096 % 256 = d1 := by
  refine ⟨?_, ?_, ?_, ?_⟩ <;> omega
theorem ce_store {z : Str} {x y v : Int} (hz : all_ROWS.lookup z = some (.ktp [.str "store", .int 35, .int 2, .int 0])) (x1 : 0 ≤ x) (x2 : x ≤ 31) (y1 : 0 ≤ y) (y2 : y ≤ 31) (v1 : -2048 ≤ v) (v2 : v ≤ 2047) :
    ∃ w, CE (row5 z "store" 35 2 0) z [x, y, v] w ∧ 0 ≤ w ∧ w < 4294967296 ∧ w % 128 = 35 ∧ w / 4096 % 8 = 2 ∧ w / 1048576 % 32 = x ∧ w / 32768 % 32 = y ∧ w / 128 % 32 + w / 33554432 * 32 = v % 4096 := by
  obtain ⟨d0, hd0, l0, u0⟩ := dig x 0 5
  obtain ⟨d1, hd1, l1, u1⟩ := dig y 0 5
  obtain ⟨d2, hd2, l2, u2⟩ := dig v 0 5
  obtain ⟨d3, hd3, l3, u3⟩ := dig v 5 7
  have e := fun h : AH => enc_ok (h := h) (fs := [("rs2", x), ("rs1", y), ("parted", v)]) hz forms_store (by
    intro q hq
    simp only [List.mem_cons, List.not_mem_nil, or_false] at hq
    rcases hq with rfl | rfl | rfl
    · exact bo_reg (.inr (.inr (.inl rfl))) x1 x2
    · exact bo_reg (.inr (.inl rfl)) y1 y2
    · exact ⟨-2048, 2047, 1, rfl, v1, v2, by decide, by simp only; omega⟩) (by first | assumption | decide) (.inl (by first | omega | decide)) (by decide) (by decide) (by decide) (by decide) rfl
    (.cons [(0, 5, 20)] bits_rs2 (by simp only [layok, laid, and_true, hd0, hd1, hd2, hd3]; clear hd0 hd1 hd2 hd3; omega) (.cons [(0, 5, 15)] bits_rs1 (by simp only [layok, laid, and_true, hd0, hd1, hd2, hd3]; clear hd0 hd1 hd2 hd3; omega) (.cons [(0, 5, 7), (5, 7, 25)] bits_parted (by simp only [layok, laid, and_true, hd0, hd1, hd2, hd3]; clear hd0 hd1 hd2 hd3; omega) .nil)))
  simp only [laid, List.map_cons, List.map_nil, hd0, hd1, hd2, hd3] at e
  generalize hw : 35 + 2 * 4096 + 0 * 33554432 + d0 * 2 ^ 20 + d1 * 2 ^ 15 + d2 * 2 ^ 7 + d3 * 2 ^ 25 = w at e
  have r : d3 * 32 + d2 = v % 4096 := by clear hw; omega
  have x' : d0 = x := by clear hw; omega
  have y' : d1 = y := by clear hw; omega
  subst x'; subst y'
  clear hd0 hd1 hd2 hd3
  obtain ⟨f0, f1, f2, f3, s7, s5, sy, sx⟩ := ar_store l0 u0 l1 u1 l2 u2 l3 u3 hw
  obtain ⟨t7, t5⟩ := ar_store2 l2 u2 l3 u3 r
  have t5' : v % 32 = d2 := by rw [← t5]; clear hw s7 s5 sy sx f2 f3 f0 f1 t5 t7 r; omega
  refine ⟨w, ⟨fun h => ?_, e⟩, f0, f1, f2, f3, sx, sy, by rw [s7, s5, ← r, Int.add_comm]⟩
  clear r s7 s5 sy sx f0 f1 f2 f3
  have g2 := mul_d (n := 32768) l1 u1 (by decide) (by decide)
  have g3 := mul_d (n := 1048576) l0 u0 (by decide) (by decide)
  have g4 := mul_d (n := 33554432) l3 u3 (by decide) (by decide)
  have g5 := mul_d (n := 128) l2 u2 (by decide) (by decide)
  have g6 : Nat.log2 2 + Nat.log2 4096 < 1000000 := mul_lt (x := 2) (n := 4096) (by decide) (by decide) (by decide)
  simp [m__law_code, b__law_code, row5, at_0, at_1, at_2, at_3, at_4, M.eqT, lgs, t7, t5, t5', g2, g3, g4, g5, g6]
  clear g2 g3 g4 g5 g6 t7 t5 t5'
  omega
theorem ce_branch {z : Str} {a x y v : Int} (hz : all_ROWS.lookup z = some (.ktp [.str "branch", .int 99, .int a, .int 0])) (a1 : 0 ≤ a) (a2 : a < 8) (x1 : 0 ≤ x) (x2 : x ≤ 31) (y1 : 0 ≤ y) (y2 : y ≤ 31) (v1 : -4096 ≤ v) (v2 : v ≤ 4094) (v3 : v % 2 = 0) :
    ∃ w, CE (row5 z "branch" 99 a 0) z [x, y, v] w ∧ 0 ≤ w ∧ w < 4294967296 ∧ w % 128 = 99 ∧ w / 4096 % 8 = a ∧ w / 32768 % 32 = x ∧ w / 1048576 % 32 = y ∧ w / 128 % 2 * 2048 + w / 256 % 16 * 2 + w / 33554432 % 64 * 32 + w / 2147483648 * 4096 = v % 8192 := by
  obtain ⟨d0, hd0, l0, u0⟩ := dig x 0 5
  obtain ⟨d1, hd1, l1, u1⟩ := dig y 0 5
  obtain ⟨d2, hd2, l2, u2⟩ := dig v 11 1
  obtain ⟨d3, hd3, l3, u3⟩ := dig v 1 4
  obtain ⟨d4, hd4, l4, u4⟩ := dig v 5 6
  obtain ⟨d5, hd5, l5, u5⟩ := dig v 12 1
  have e := fun h : AH => enc_ok (h := h) (fs := [("rs1", x), ("rs2", y), ("way", v)]) hz forms_branch (by
    intro q hq
    simp only [List.mem_cons, List.not_mem_nil, or_false] at hq
    rcases hq with rfl | rfl | rfl
    · exact bo_reg (.inr (.inl rfl)) x1 x2
    · exact bo_reg (.inr (.inr (.inl rfl))) y1 y2
    · exact ⟨-4096, 4094, 2, rfl, v1, v2, by decide, v3⟩) (by first | assumption | decide) (.inl (by first | omega | decide)) a1 a2 (by decide) (by decide) rfl
    (.cons [(0, 5, 15)] bits_rs1 (by simp only [layok, laid, and_true, hd0, hd1, hd2, hd3, hd4, hd5]; clear hd0 hd1 hd2 hd3 hd4 hd5; omega) (.cons [(0, 5, 20)] bits_rs2 (by simp only [layok, laid, and_true, hd0, hd1, hd2, hd3, hd4, hd5]; clear hd0 hd1 hd2 hd3 hd4 hd5; omega) (.cons [(11, 1, 7), (1, 4, 8), (5, 6, 25), (12, 1, 31)] bits_way (by simp only [layok, laid, and_true, hd0, hd1, hd2, hd3, hd4, hd5]; clear hd0 hd1 hd2 hd3 hd4 hd5; omega) .nil)))
  simp only [laid, List.map_cons, List.map_nil, hd0, hd1, hd2, hd3, hd4, hd5] at e
  generalize hw : 99 + a * 4096 + 0 * 33554432 + d0 * 2 ^ 15 + d1 * 2 ^ 20 + d2 * 2 ^ 7 + d3 * 2 ^ 8 + d4 * 2 ^ 25 + d5 * 2 ^ 31 = w at e
  have r : d5 * 4096 + d4 * 32 + d2 * 2048 + d3 * 2 = v % 8192 := by clear hw; omega
  have x' : d0 = x := by clear hw; omega
  have y' : d1 = y := by clear hw; omega
  subst x'; subst y'
  clear hd0 hd1 hd2 hd3 hd4 hd5
  obtain ⟨f0, f1, f2, f3, q0, q1, q2, s5, s6, s7⟩ := ar_branch a1 a2 l0 u0 l1 u1 l2 u2 l3 u3 l4 u4 l5 u5 hw
  obtain ⟨t1, t2, t3, t4⟩ := ar_branch2 l2 u2 l3 u3 l4 u4 l5 u5 r
  refine ⟨w, ⟨fun h => ?_, e⟩, f0, f1, f2, f3, q0, q1, by rw [q2, s5, s6, s7, ← r]; clear hw q0 q1 q2 s5 s6 s7 f0 f1 f2 f3 t1 t2 t3 t4 r; omega⟩
  clear r q0 q1 s6 s7 s5 q2 f0 f1 f2 f3
  have g1 := mul_lt (x := a) (n := 4096) (by omega) (by omega) (by decide)
  have g2 := mul_d (n := 32768) l0 u0 (by decide) (by decide)
  have g3 := mul_d (n := 1048576) l1 u1 (by decide) (by decide)
  have g4 := mul_d (n := 2147483648) l5 u5 (by decide) (by decide)
  have g5 := mul_d (n := 33554432) l4 u4 (by decide) (by decide)
  have g6 := mul_d (n := 256) l3 u3 (by decide) (by decide)
  have g7 := mul_d (n := 128) l2 u2 (by decide) (by decide)
  simp [m__law_code, b__law_code, m__law_branch_code, b__law_branch_code, row5, at_0, at_1, at_2, at_3, at_4, M.eqT, lgs, t1, t2, t3, t4, g1, g2, g3, g4, g5, g6, g7]
  clear g1 g2 g3 g4 g5 g6 g7 t1 t2 t3 t4
  omega
theorem ce_jump {z : Str} {x v : Int} (hz : all_ROWS.lookup z = some (.ktp [.str "jump", .int 111, .int 0, .int 0])) (x1 : 0 ≤ x) (x2 : x ≤ 31) (v1 : -1048576 ≤ v) (v2 : v ≤ 1048574) (v3 : v % 2 = 0) :
    ∃ w, CE (row5 z "jump" 111 0 0) z [x, v] w ∧ 0 ≤ w ∧ w < 4294967296 ∧ w % 128 = 111 ∧ w / 128 % 32 = x ∧ w / 4096 % 256 * 4096 + w / 1048576 % 2 * 2048 + w / 2097152 % 1024 * 2 + w / 2147483648 * 1048576 = v % 2097152 := by
  obtain ⟨d0, hd0, l0, u0⟩ := dig x 0 5
  obtain ⟨d1, hd1, l1, u1⟩ := dig v 12 8
  obtain ⟨d2, hd2, l2, u2⟩ := dig v 11 1
  obtain ⟨d3, hd3, l3, u3⟩ := dig v 1 10
  obtain ⟨d4, hd4, l4, u4⟩ := dig v 20 1
  have e := fun h : AH => enc_ok (h := h) (fs := [("rd", x), ("far", v)]) hz forms_jump (by
    intro q hq
    simp only [List.mem_cons, List.not_mem_nil, or_false] at hq
    rcases hq with rfl | rfl
    · exact bo_reg (.inl rfl) x1 x2
    · exact ⟨-1048576, 1048574, 2, rfl, v1, v2, by decide, v3⟩) (by first | assumption | decide) (.inl (by first | omega | decide)) (by decide) (by decide) (by decide) (by decide) rfl
    (.cons [(0, 5, 7)] bits_rd (by simp only [layok, laid, and_true, hd0, hd1, hd2, hd3, hd4]; clear hd0 hd1 hd2 hd3 hd4; omega) (.cons [(12, 8, 12), (11, 1, 20), (1, 10, 21), (20, 1, 31)] bits_far (by simp only [layok, laid, and_true, hd0, hd1, hd2, hd3, hd4]; clear hd0 hd1 hd2 hd3 hd4; omega) .nil))
  simp only [laid, List.map_cons, List.map_nil, hd0, hd1, hd2, hd3, hd4] at e
  generalize hw : 111 + 0 * 4096 + 0 * 33554432 + d0 * 2 ^ 7 + d1 * 2 ^ 12 + d2 * 2 ^ 20 + d3 * 2 ^ 21 + d4 * 2 ^ 31 = w at e
  have r : d4 * 1048576 + d1 * 4096 + d2 * 2048 + d3 * 2 = v % 2097152 := by clear hw; omega
  have x' : d0 = x := by clear hw; omega
  subst x'
  clear hd0 hd1 hd2 hd3 hd4
  obtain ⟨f0, f1, f2, f3, s3, s2, s1, s4⟩ := ar_jump l0 u0 l1 u1 l2 u2 l3 u3 l4 u4 hw
  obtain ⟨t1, t2, t3, t4⟩ := ar_jump2 l1 u1 l2 u2 l3 u3 l4 u4 r
  refine ⟨w, ⟨fun h => ?_, e⟩, f0, f1, f2, f3, by rw [s1, s2, s3, s4, ← r]; clear hw s1 s2 s3 s4 f0 f1 f2 f3 t1 t2 t3 t4 r; omega⟩
  clear r s1 s2 s3 s4 f0 f1 f2 f3
  have g1 := mul_d (n := 2147483648) l4 u4 (by decide) (by decide)
  have g2 := mul_d (n := 2097152) l3 u3 (by decide) (by decide)
  have g3 := mul_d (n := 1048576) l2 u2 (by decide) (by decide)
  have g4 := mul_d (n := 4096) l1 u1 (by decide) (by decide)
  have g5 := mul_d (n := 128) l0 u0 (by decide) (by decide)
  simp [m__law_code, b__law_code, m__law_jump_code, b__law_jump_code, row5, at_0, at_1, at_2, at_3, at_4, M.eqT, lgs, t1, t2, t3, t4, g1, g2, g3, g4, g5]
  clear g1 g2 g3 g4 g5 t1 t2 t3 t4
  omega

abbrev Row6 : Type := Str × Nat × Int × Int × Int
def r6 (z : Str) (k : Nat) (op a b : Int) : Row6 := (z, k, op, a, b)
def RR : List Row6 := [r6 "add" 0 51 0 0, r6 "sub" 0 51 0 32, r6 "sll" 0 51 1 0, r6 "slt" 0 51 2 0, r6 "sltu" 0 51 3 0, r6 "xor" 0 51 4 0, r6 "srl" 0 51 5 0, r6 "sra" 0 51 5 32, r6 "or" 0 51 6 0, r6 "and" 0 51 7 0, r6 "mul" 0 51 0 1, r6 "mulh" 0 51 1 1, r6 "mulhsu" 0 51 2 1, r6 "mulhu" 0 51 3 1, r6 "div" 0 51 4 1, r6 "divu" 0 51 5 1, r6 "rem" 0 51 6 1, r6 "remu" 0 51 7 1, r6 "addi" 1 19 0 0, r6 "slti" 1 19 2 0, r6 "sltiu" 1 19 3 0, r6 "xori" 1 19 4 0, r6 "ori" 1 19 6 0, r6 "andi" 1 19 7 0, r6 "slli" 2 19 1 0, r6 "srli" 2 19 5 0, r6 "srai" 2 19 5 32, r6 "jalr" 1 103 0 0, r6 "lw" 1 3 2 0, r6 "sw" 3 35 2 0, r6 "beq" 4 99 0 0, r6 "bne" 4 99 1 0, r6 "blt" 4 99 4 0, r6 "bge" 4 99 5 0, r6 "bltu" 4 99 6 0, r6 "bgeu" 4 99 7 0, r6 "lui" 5 55 0 0, r6 "auipc" 5 23 0 0, r6 "jal" 6 111 0 0, r6 "ecall" 7 115 0 0, r6 "ebreak" 7 1048691 0 0]
def fmN : Nat → Str
  | 0 => "three" | 1 => "near" | 2 => "shift" | 3 => "store" | 4 => "branch" | 5 => "upper" | 6 => "jump" | _ => "alone"
def lnm : Nat → Str
  | 0 => "three" | 1 => "imm" | 2 => "amount" | 3 => "store" | 4 => "branch" | 5 => "upper" | 6 => "jump" | _ => "alone"
abbrev Fd5 : Type := Str × Str × Int × Int × Int
def d5 (f k : Str) (lo hi st : Int) : Fd5 := (f, k, lo, hi, st)
/-- a form's fields: the program's name, the law's kind, the bounds -/
def fmD : Nat → List Fd5
  | 0 => [d5 "rd" "register" 0 31 1, d5 "rs1" "register" 0 31 1, d5 "rs2" "register" 0 31 1]
  | 1 => [d5 "rd" "register" 0 31 1, d5 "rs1" "register" 0 31 1, d5 "imm" "imm" (-2048) 2047 1]
  | 2 => [d5 "rd" "register" 0 31 1, d5 "rs1" "register" 0 31 1, d5 "amount" "amount" 0 31 1]
  | 3 => [d5 "rs2" "register" 0 31 1, d5 "rs1" "register" 0 31 1, d5 "parted" "imm" (-2048) 2047 1]
  | 4 => [d5 "rs1" "register" 0 31 1, d5 "rs2" "register" 0 31 1, d5 "way" "near" (-4096) 4094 2]
  | 5 => [d5 "rd" "register" 0 31 1, d5 "value" "value" 0 1048575 1]
  | 6 => [d5 "rd" "register" 0 31 1, d5 "far" "far" (-1048576) 1048574 2]
  | _ => []
def rowV (r : Row6) : Str × T := (r.1, .ktp [.str (fmN r.2.1), .int r.2.2.1, .int r.2.2.2.1, .int r.2.2.2.2])
theorem all_RR : all_ROWS = RR.map rowV := rfl
def lop (r : Row6) : Int := match r.2.1 with | 7 => 115 | _ => r.2.2.1
def lrow (r : Row6) : T := row5 r.1 (lnm r.2.1) (lop r) r.2.2.2.1 r.2.2.2.2
theorem table_RR : tA ++ tB ++ tC ++ tD = RR.map lrow := rfl
theorem RR_k : ∀ r ∈ RR, r.2.1 < 8 := by
  have h : (RR.all fun r => decide (r.2.1 < 8)) = true := by decide +kernel
  intro r hr
  exact of_decide_eq_true (List.all_eq_true.mp h r hr)
/-- the row of a name -/
def rowOf (z : Str) : Option Row6 := RR.find? fun r => z == r.1
theorem look_RR {z : Str} : ∀ l : List Row6, List.lookup z (l.map rowV) = (l.find? fun r => z == r.1).map fun r => (rowV r).2
  | [] => rfl
  | r :: l => by
    rw [List.map_cons, List.find?_cons]
    show List.lookup z ((r.1, (rowV r).2) :: l.map rowV) = _
    rw [List.lookup_cons]
    cases z == r.1 with
    | true => rfl
    | false => exact look_RR l
theorem look_all {z : Str} : all_ROWS.lookup z = (rowOf z).map fun r => (rowV r).2 := by rw [all_RR]; exact look_RR RR
theorem rowOf_mem {z : Str} {r : Row6} (h : rowOf z = some r) : r ∈ RR ∧ r.1 = z := by
  refine ⟨List.mem_of_find?_eq_some h, ?_⟩
  have := List.find?_some h
  exact (eq_of_beq (by simpa using this)).symm
theorem fd_forms {k : Nat} (hk : k < 8) : List.lookup (fmN k) rows_FORMS = some (some (.ktp ((fmD k).map fun f => .str f.1))) ∧ Kn (lnm k) ((fmD k).map fun f => f.2.1) ∧ (fmD k).length ≤ 3 ∧ ∀ f ∈ fmD k, Kd f.2.1 f.2.2.1 f.2.2.2.1 f.2.2.2.2 ∧ rows_BOUNDS.lookup f.1 = some (some (.ktp [.int f.2.2.1, .int f.2.2.2.1, .int f.2.2.2.2])) ∧ 0 < f.2.2.2.2 ∧ f.2.2.1 % f.2.2.2.2 = 0 := by
  have h0 : ∀ f ∈ ([] : List Fd5), Kd f.2.1 f.2.2.1 f.2.2.2.1 f.2.2.2.2 ∧ rows_BOUNDS.lookup f.1 = some (some (.ktp [.int f.2.2.1, .int f.2.2.2.1, .int f.2.2.2.2])) ∧ 0 < f.2.2.2.2 ∧ f.2.2.1 % f.2.2.2.2 = 0 := fun f hf => by cases hf
  match k, hk with
  | 0, _ => refine ⟨rfl, .three, by decide, fun f hf => ?_⟩; simp only [fmD, List.mem_cons, List.not_mem_nil, or_false] at hf; rcases hf with rfl | rfl | rfl <;> exact ⟨.register, rfl, by decide, by decide⟩
  | 1, _ => refine ⟨rfl, .imm, by decide, fun f hf => ?_⟩; simp only [fmD, List.mem_cons, List.not_mem_nil, or_false] at hf; rcases hf with rfl | rfl | rfl <;> first | exact ⟨.register, rfl, by decide, by decide⟩ | exact ⟨.imm, rfl, by decide, by decide⟩
  | 2, _ => refine ⟨rfl, .amount, by decide, fun f hf => ?_⟩; simp only [fmD, List.mem_cons, List.not_mem_nil, or_false] at hf; rcases hf with rfl | rfl | rfl <;> first | exact ⟨.register, rfl, by decide, by decide⟩ | exact ⟨.amount, rfl, by decide, by decide⟩
  | 3, _ => refine ⟨rfl, .store, by decide, fun f hf => ?_⟩; simp only [fmD, List.mem_cons, List.not_mem_nil, or_false] at hf; rcases hf with rfl | rfl | rfl <;> first | exact ⟨.register, rfl, by decide, by decide⟩ | exact ⟨.imm, rfl, by decide, by decide⟩
  | 4, _ => refine ⟨rfl, .branch, by decide, fun f hf => ?_⟩; simp only [fmD, List.mem_cons, List.not_mem_nil, or_false] at hf; rcases hf with rfl | rfl | rfl <;> first | exact ⟨.register, rfl, by decide, by decide⟩ | exact ⟨.near, rfl, by decide, by decide⟩
  | 5, _ => refine ⟨rfl, .upper, by decide, fun f hf => ?_⟩; simp only [fmD, List.mem_cons, List.not_mem_nil, or_false] at hf; rcases hf with rfl | rfl <;> first | exact ⟨.register, rfl, by decide, by decide⟩ | exact ⟨.value, rfl, by decide, by decide⟩
  | 6, _ => refine ⟨rfl, .jump, by decide, fun f hf => ?_⟩; simp only [fmD, List.mem_cons, List.not_mem_nil, or_false] at hf; rcases hf with rfl | rfl <;> first | exact ⟨.register, rfl, by decide, by decide⟩ | exact ⟨.far, rfl, by decide, by decide⟩
  | 7, _ => exact ⟨rfl, .alone, by decide, h0⟩
/-- an entry keeps its bounds -/
def fine (f : Fd5) (v : Int) : Prop := f.2.2.1 ≤ v ∧ v ≤ f.2.2.2.1 ∧ v % f.2.2.2.2 = 0
instance {f : Fd5} {v : Int} : Decidable (fine f v) := by unfold fine; infer_instance
/-- the first entry that does not -/
def badAt : List Fd5 → List Int → Option Nat
  | f :: r, v :: vs => if fine f v then (badAt r vs).map (· + 1) else some 0
  | _, _ => none
def fault (z : Str) (vs : List Int) : Option Nat := match rowOf z with
  | none => some 0
  | some r => if vs.length = (fmD r.2.1).length then (badAt (fmD r.2.1) vs).map (· + 1) else some 0
def optT : Option Nat → T
  | none => .non
  | some n => .int (n : Nat)
def rowT2 (z : Str) (vs : List Int) : T := .tup (.str z :: vs.map .int)
/-! the program's look -/
theorem wx_turn {row : List T} {f : Fd5} {v : Int} {k : Nat} {c d e g : Option T} {h : AH} (hk : rows_BOUNDS.lookup f.1 = some (some (.ktp [.int f.2.2.1, .int f.2.2.2.1, .int f.2.2.2.2]))) (hv : row[k + 1]? = some (.int v)) (h3 : 0 < f.2.2.2.2) :
    l1_wrong_entry [some (.tup row), some (.int k), some (.str f.1), c, d, e, g] h = if fine f v then .ok (.nx [some (.tup row), some (.int k), some (.str f.1), some (.int f.2.2.1), some (.int f.2.2.2.1), some (.int f.2.2.2.2), some (.int v)]) h else .ok (.rt (.int ((k : Int) + 1))) h := by
  unfold l1_wrong_entry
  simp [hk]
  simp [atI_nat1, hv]
  unfold fine
  by_cases z1 : f.2.2.1 ≤ v
  · by_cases z2 : v ≤ f.2.2.2.1
    · by_cases z3 : v % f.2.2.2.2 = 0
      · simp [z1, z2, z3, h3, M.eqT]
      · simp [z1, z2, z3, h3, M.eqT]
    · simp [z1, z2]
  · simp [z1]
theorem wx_loop {row : List T} {h : AH} : ∀ (fs : List Fd5) (vs : List Int) (k : Nat) (a b c d e g : Option T), vs.length = fs.length → (∀ (j : Nat) (v : Int), vs[j]? = some v → row[k + 1 + j]? = some (.int v)) → (∀ f ∈ fs, rows_BOUNDS.lookup f.1 = some (some (.ktp [.int f.2.2.1, .int f.2.2.2.1, .int f.2.2.2.2])) ∧ 0 < f.2.2.2.2) →
    ∃ a' b' c' d' e' g', sForL (aTup 2 (aCons (aName 1) (aCons (aName 2) aNil))) l1_wrong_entry (fs.mapIdx fun i x => .tup [.int ((k + i : Nat)), .str x.1]) [some (.tup row), a, b, c, d, e, g] h = match badAt fs vs with
      | some j => .ok (.rt (.int ((k + j : Nat) + 1))) h
      | none => .ok (.nx [some (.tup row), a', b', c', d', e', g']) h := by
  intro fs
  induction fs with
  | nil => intro vs k a b c d e g hl _ _; exact ⟨a, b, c, d, e, g, by cases vs <;> first | rfl | cases hl⟩
  | cons f fs ih =>
    intro vs k a b c d e g hl hr hb
    obtain ⟨v, vs, rfl⟩ : ∃ v r, vs = v :: r := by cases vs with | nil => cases hl | cons v r => exact ⟨v, r, rfl⟩
    obtain ⟨hk, h3⟩ := hb f List.mem_cons_self
    have hv : row[k + 1]? = some (.int v) := hr 0 v rfl
    have t := wx_turn (k := k) (c := c) (d := d) (e := e) (g := g) (h := h) hk hv h3
    obtain ⟨a', b', c', d', e', g', eq⟩ := ih vs (k + 1) (some (.int k)) (some (.str f.1)) (some (.int f.2.2.1)) (some (.int f.2.2.2.1)) (some (.int f.2.2.2.2)) (some (.int v)) (by simpa using hl) (fun j x hx => by rw [show k + 1 + 1 + j = k + 1 + (j + 1) by omega]; exact hr (j + 1) x (by simpa using hx)) (fun x hx => hb x (List.mem_cons_of_mem _ hx))
    refine ⟨a', b', c', d', e', g', ?_⟩
    have e0 : (fun (i : Nat) (x : Fd5) => T.tup [.int ((k + (i + 1) : Nat)), .str x.1]) = fun i x => T.tup [.int ((k + 1 + i : Nat)), .str x.1] := by
      funext i x
      rw [show k + (i + 1) = k + 1 + i by omega]
    rw [List.mapIdx_cons]
    refine Eq.trans (congrArg (fun l => sForL _ _ (_ :: List.mapIdx l fs) _ _) e0) ?_
    show sForL _ _ (T.tup [.int ((k + 0 : Nat)), .str f.1] :: _) _ _ = match (if fine f v then (badAt fs vs).map (· + 1) else some 0) with | some j => _ | none => _
    by_cases z : fine f v
    · rw [if_pos z] at t ⊢
      rw [for_nx (τ1 := [some (.tup row), some (.int k), some (.str f.1), c, d, e, g]) (by simp [aName]) t, eq]
      cases hbd : badAt fs vs with
      | none => rfl
      | some j => show Res.ok (Fl.rt (T.int (((k + 1 + j : Nat) : Int) + 1))) h = Res.ok (Fl.rt (T.int (((k + (j + 1) : Nat) : Int) + 1))) h; rw [show k + 1 + j = k + (j + 1) by omega]
    · rw [if_neg z] at t ⊢
      exact for_rt (τ1 := [some (.tup row), some (.int k), some (.str f.1), c, d, e, g]) (by simp [aName]) t
theorem wx_ok {z : Str} {vs : List Int} {h : AH} : m_wrong_entry [rowT2 z vs] h = .ok (optT (fault z vs)) h := by
  unfold fault
  have e3 : atI (T.str z :: vs.map T.int) 0 = some (.str z) := at_hd
  cases hz : rowOf z with
  | none =>
    have e : all_ROWS.lookup z = none := by rw [look_all, hz]; rfl
    simp [m_wrong_entry, b_wrong_entry, rowT2, e3, e, optT]
  | some r =>
    have e : all_ROWS.lookup z = some (.ktp [.str (fmN r.2.1), .int r.2.2.1, .int r.2.2.2.1, .int r.2.2.2.2]) := by rw [look_all, hz]; rfl
    obtain ⟨f1, _, _, f3⟩ := fd_forms (RR_k r (rowOf_mem hz).1)
    have fo := fun h => fo_ok (h := h) e f1
    by_cases hl : vs.length = (fmD r.2.1).length
    · dsimp only
      rw [if_pos hl]
      obtain ⟨a', b', c', d', e', g', eq⟩ := wx_loop (h := h) (row := .str z :: vs.map .int) (fmD r.2.1) vs 0 none none none none none none hl (fun j v hj => by rw [show 0 + 1 + j = j + 1 by omega, List.getElem?_cons_succ, List.getElem?_map, hj]; rfl) (fun f hf => ⟨(f3 f hf).2.1, (f3 f hf).2.2.1⟩)
      have e2 : M.numbered ((fmD r.2.1).map fun x => T.str x.1) = (fmD r.2.1).mapIdx fun i x => .tup [.int ((0 + i : Nat)), .str x.1] := by
        unfold M.numbered
        rw [List.mapIdx_eq_iff]
        intro i
        rw [List.getElem?_mapIdx, List.getElem?_map, Option.map_map]
        congr 1
        funext x; simp
      have hl' : (vs.length : Int) + 1 = ((fmD r.2.1).length : Int) + 1 := by rw [hl]
      simp only [Nat.zero_add] at eq e2
      cases hb : badAt (fmD r.2.1) vs with
      | none => rw [hb] at eq; simp [m_wrong_entry, b_wrong_entry, rowT2, e3, e, fo, M.eqT, hl, e2, eq, optT]
      | some j => rw [hb] at eq; simp [m_wrong_entry, b_wrong_entry, rowT2, e3, e, fo, M.eqT, hl, e2, eq, optT]
    · dsimp only
      rw [if_neg hl]
      have hl' : ¬ ((vs.length : Int) = ((fmD r.2.1).length : Int)) := by omega
      simp [m_wrong_entry, b_wrong_entry, rowT2, e3, e, fo, M.eqT, hl', optT]
/-! the law's look -/
theorem ix_row {z : Str} {k : Str} {op a b : Int} : atI [T.str z, .str k, .int op, .int a, .int b] 0 = some (.str z) := at_0
theorem fo_loop {z : Str} {h : AH} : ∀ (l : List Row6) (v : Option T), ∃ v', sForL (aName 1) l1__law_form_of (l.map lrow) [some (.str z), v] h = match l.find? fun r => z == r.1 with
      | some r => .ok (.rt (lrow r)) h
      | none => .ok (.nx [some (.str z), v']) h
  | [], v => ⟨v, rfl⟩
  | r :: l, v => by
    obtain ⟨v', e⟩ := fo_loop (z := z) (h := h) l (some (lrow r))
    refine ⟨v', ?_⟩
    obtain ⟨X, hX, h2⟩ : ∃ X, lrow r = .tup X ∧ atI X 0 = some (.str r.1) := ⟨_, rfl, at_0⟩
    rw [List.map_cons, List.find?_cons]
    cases q : z == r.1 with
    | true =>
      have q : r.1 = z := (eq_of_beq q).symm
      rw [hX] at e ⊢
      exact for_rt (τ1 := [some (.str z), some (.tup X)]) rfl (by simp [l1__law_form_of, h2, M.eqT, q, hX])
    | false =>
      have q : ¬ r.1 = z := fun x => by subst x; simp at q
      rw [hX] at e ⊢
      rw [for_nx (τ1 := [some (.str z), some (.tup X)]) (τ' := [some (.str z), some (.tup X)]) rfl (h1 := h) (by simp [l1__law_form_of, h2, M.eqT, q])]
      exact e
theorem form_ok {z : Str} {h : AH} : m__law_form_of [.str z] h = .ok (match rowOf z with | some r => lrow r | none => .non) (h ++ [none, none]) := by
  obtain ⟨v', e⟩ := fo_loop (z := z) (h := h ++ [none, none]) RR none
  have t := table_ok (h := h)
  rw [table_RR] at t
  unfold rowOf
  cases q : RR.find? fun r => z == r.1 with
  | some r => rw [q] at e; simp [m__law_form_of, b__law_form_of, t, e]
  | none => rw [q] at e; simp [m__law_form_of, b__law_form_of, t, e]
theorem lx_turn {row ks : List T} {form : Option T} {f : Fd5} {v : Int} {k : Nat} {c d e g : Option T} {h : AH} (hk : ks[k]? = some (.str f.2.1)) (hv : row[k + 1]? = some (.int v)) (hd : Kd f.2.1 f.2.2.1 f.2.2.2.1 f.2.2.2.2) (h3 : 0 < f.2.2.2.2) (h4 : f.2.2.1 % f.2.2.2.2 = 0) :
    l1__law_fault [some (.tup row), form, some (.lst ks), some (.int k), c, d, e, g] h = if fine f v then .ok (.nx [some (.tup row), form, some (.lst ks), some (.int k), some (.int f.2.2.1), some (.int f.2.2.2.1), some (.int f.2.2.2.2), some (.int v)]) h else .ok (.rt (.int ((k : Int) + 1))) h := by
  have e1 : (v - f.2.2.1) % f.2.2.2.2 = 0 ↔ v % f.2.2.2.2 = 0 := by
    rw [Int.sub_emod, h4, Int.sub_zero, Int.emod_emod_of_dvd _ (Int.dvd_refl _)]
  unfold l1__law_fault
  simp [atI_nat, hk, range_ok hd]
  simp [atI_nat1, hv, h3]
  unfold fine
  by_cases z1 : f.2.2.1 ≤ v
  · by_cases z2 : v ≤ f.2.2.2.1
    · by_cases z3 : v % f.2.2.2.2 = 0
      · simp [z1, z2, z3, e1, M.eqT]
      · simp [z1, z2, z3, e1, M.eqT]
    · simp [z1, z2]
  · simp [z1]
theorem lx_loop {row ks : List T} {form : Option T} {h : AH} : ∀ (fs : List Fd5) (vs : List Int) (k : Nat) (a c d e g : Option T), vs.length = fs.length → (∀ (j : Nat) (v : Int), vs[j]? = some v → row[k + 1 + j]? = some (.int v)) → (∀ (j : Nat) (f : Fd5), fs[j]? = some f → ks[k + j]? = some (.str f.2.1)) → (∀ f ∈ fs, Kd f.2.1 f.2.2.1 f.2.2.2.1 f.2.2.2.2 ∧ 0 < f.2.2.2.2 ∧ f.2.2.1 % f.2.2.2.2 = 0) →
    ∃ a' c' d' e' g', sForL (aName 3) l1__law_fault ((List.range' k fs.length).map fun i => T.int (i : Nat)) [some (.tup row), form, some (.lst ks), a, c, d, e, g] h = match badAt fs vs with
      | some j => .ok (.rt (.int ((k + j : Nat) + 1))) h
      | none => .ok (.nx [some (.tup row), form, some (.lst ks), a', c', d', e', g']) h := by
  intro fs
  induction fs with
  | nil => intro vs k a c d e g hl _ _ _; exact ⟨a, c, d, e, g, by cases vs <;> first | rfl | cases hl⟩
  | cons f fs ih =>
    intro vs k a c d e g hl hr hks hb
    obtain ⟨v, vs, rfl⟩ : ∃ v r, vs = v :: r := by cases vs with | nil => cases hl | cons v r => exact ⟨v, r, rfl⟩
    obtain ⟨hk, h3, h4⟩ := hb f List.mem_cons_self
    have t := lx_turn (k := k) (form := form) (c := c) (d := d) (e := e) (g := g) (h := h) (hks 0 f rfl) (hr 0 v rfl) hk h3 h4
    obtain ⟨a', c', d', e', g', eq⟩ := ih vs (k + 1) (some (.int k)) (some (.int f.2.2.1)) (some (.int f.2.2.2.1)) (some (.int f.2.2.2.2)) (some (.int v)) (by simpa using hl) (fun j x hx => by rw [show k + 1 + 1 + j = k + 1 + (j + 1) by omega]; exact hr (j + 1) x (by simpa using hx)) (fun j x hx => by rw [show k + 1 + j = k + (j + 1) by omega]; exact hks (j + 1) x (by simpa using hx)) (fun x hx => hb x (List.mem_cons_of_mem _ hx))
    refine ⟨a', c', d', e', g', ?_⟩
    rw [List.length_cons, List.range'_succ, List.map_cons]
    show sForL _ _ _ _ _ = match (if fine f v then (badAt fs vs).map (· + 1) else some 0) with | some j => _ | none => _
    by_cases z : fine f v
    · rw [if_pos z] at t ⊢
      rw [for_nx (τ1 := [some (.tup row), form, some (.lst ks), some (.int k), c, d, e, g]) (by simp [aName]) t, eq]
      cases hbd : badAt fs vs with
      | none => rfl
      | some j => show Res.ok (Fl.rt (T.int (((k + 1 + j : Nat) : Int) + 1))) h = Res.ok (Fl.rt (T.int (((k + (j + 1) : Nat) : Int) + 1))) h; rw [show k + 1 + j = k + (j + 1) by omega]
    · rw [if_neg z] at t ⊢
      exact for_rt (τ1 := [some (.tup row), form, some (.lst ks), some (.int k), c, d, e, g]) (by simp [aName]) t
theorem lx_ok {z : Str} {vs : List Int} {h : AH} (hv : vs.length ≤ 100) : m__law_fault [rowT2 z vs] h = .ok (optT (fault z vs)) (h ++ [none, none]) := by
  unfold fault
  have e3 : atI (T.str z :: vs.map T.int) 0 = some (.str z) := at_hd
  have fm := form_ok (z := z) (h := h)
  cases hz : rowOf z with
  | none => rw [hz] at fm; simp [m__law_fault, b__law_fault, rowT2, e3, fm, optT]
  | some r =>
    rw [hz] at fm
    obtain ⟨_, f2, f3, f4⟩ := fd_forms (RR_k r (rowOf_mem hz).1)
    have hk := fun h => kinds_ok (h := h) (z := r.1) (op := lop r) (a := r.2.2.2.1) (b := r.2.2.2.2) f2
    obtain ⟨X, hX⟩ : ∃ X, lrow r = .tup X := ⟨_, rfl⟩
    have hk : ∀ h, m__law_kinds_of [lrow r] h = _ := hk
    dsimp only at fm ⊢
    rw [hX] at fm hk
    have i1 : r62 ((fmD r.2.1).length : Int) = true := r62_ok (by omega) (by omega)
    by_cases hl : vs.length = (fmD r.2.1).length
    · rw [if_pos hl]
      obtain ⟨a', c', d', e', g', eq⟩ := lx_loop (h := h ++ [none, none]) (form := some (.tup X)) (row := .str z :: vs.map .int) (ks := ((fmD r.2.1).map fun f => f.2.1).map .str) (fmD r.2.1) vs 0 none none none none none hl (fun j v hj => by rw [show 0 + 1 + j = j + 1 by omega, List.getElem?_cons_succ, List.getElem?_map, hj]; rfl) (fun j f hj => by rw [Nat.zero_add, List.getElem?_map, List.getElem?_map, hj]; rfl) (fun f hf => ⟨(f4 f hf).1, (f4 f hf).2.2.1, (f4 f hf).2.2.2⟩)
      have er : irange 0 (fmD r.2.1).length = (List.range' 0 (fmD r.2.1).length).map fun i => T.int (i : Nat) := by
        simp [irange, List.range_eq_range']
      rw [← er] at eq
      simp only [Nat.zero_add, irange, Int.zero_add, List.map_map] at eq
      cases hb : badAt (fmD r.2.1) vs with
      | none => rw [hb] at eq; simp [m__law_fault, b__law_fault, rowT2, e3, fm, hk, M.eqT, hl, i1, eq, optT]
      | some j => rw [hb] at eq; simp [m__law_fault, b__law_fault, rowT2, e3, fm, hk, M.eqT, hl, i1, eq, optT]
    · rw [if_neg hl]
      have hl' : ¬ (((fmD r.2.1).length : Int) = (vs.length : Int)) := by omega
      have hl2 : ¬ ((fmD r.2.1).length = vs.length) := by omega
      simp [m__law_fault, b__law_fault, rowT2, e3, fm, hk, M.eqT, hl', optT]

theorem enc_bad {z : Str} {vs : List Int} {n : Nat} {h : AH} (hf : fault z vs = some n) : m_encode [rowT2 z vs] h = .exc ⟨"BadRow", ["index"], [.int (n : Nat)]⟩ h := by
  have e := wx_ok (z := z) (vs := vs) (h := h)
  rw [hf] at e
  simp [m_encode, b_encode, e, optT]
theorem badAt_cons {f : Fd5} {r : List Fd5} {v : Int} {vs : List Int} (h : badAt (f :: r) (v :: vs) = none) : fine f v ∧ badAt r vs = none := by
  have h : (if fine f v then (badAt r vs).map (· + 1) else some 0) = none := h
  by_cases z : fine f v
  · rw [if_pos z] at h; exact ⟨z, by simpa using h⟩
  · rw [if_neg z] at h; cases h
def rok (r : Row6) : Prop := let k := r.2.1; let op := r.2.2.1; let a := r.2.2.2.1; let b := r.2.2.2.2
  0 ≤ op ∧ 0 ≤ a ∧ a < 8 ∧ 0 ≤ b ∧ b < 128 ∧ (k ≤ 6 → op < 128) ∧ (k = 7 → a = 0 ∧ b = 0) ∧ (k ≠ 0 → k ≠ 2 → b = 0) ∧ (k = 5 ∨ k = 6 → a = 0) ∧ (k = 0 → op = 51) ∧ (k = 2 → op = 19) ∧ (k = 3 → op = 35 ∧ a = 2) ∧ (k = 4 → op = 99) ∧ (k = 6 → op = 111) ∧ (k = 7 → (r.1 = ("ecall" : Str) ∧ op = 115) ∨ (r.1 = ("ebreak" : Str) ∧ op = 1048691)) ∧ r.1.length ≤ 10
instance {r : Row6} : Decidable (rok r) := by unfold rok; infer_instance
theorem RR_ok : ∀ r ∈ RR, rok r := by
  have h : (RR.all fun r => decide (rok r)) = true := by decide +kernel
  intro r hr
  exact of_decide_eq_true (List.all_eq_true.mp h r hr)
theorem len3 {vs : List Int} (h : vs.length = 3) : ∃ x y v, vs = [x, y, v] := by
  match vs, h with
  | [x, y, v], _ => exact ⟨x, y, v, rfl⟩
theorem len2 {vs : List Int} (h : vs.length = 2) : ∃ x v, vs = [x, v] := by
  match vs, h with
  | [x, v], _ => exact ⟨x, v, rfl⟩
theorem enc_good {z : Str} {vs : List Int} (hf : fault z vs = none) : ∃ c r, rowOf z = some r ∧ (∀ h, m_encode [rowT2 z vs] h = .ok (.int c) h) ∧ ∀ h, m__law_code [lrow r, rowT2 z vs] h = .ok (.int c) h := by
  unfold fault at hf
  cases hz : rowOf z with
  | none => rw [hz] at hf; cases hf
  | some r =>
    rw [hz] at hf
    dsimp only at hf
    by_cases hl : vs.length = (fmD r.2.1).length
    · rw [if_pos hl] at hf
      have hb : badAt (fmD r.2.1) vs = none := by simpa using hf
      obtain ⟨hr, hzr⟩ := rowOf_mem hz
      have h8 := RR_k r hr
      have ok := RR_ok r hr
      have hk : all_ROWS.lookup z = some (.ktp [.str (fmN r.2.1), .int r.2.2.1, .int r.2.2.2.1, .int r.2.2.2.2]) := by rw [look_all, hz]; rfl
      suffices h : ∃ c, CE (lrow r) z vs c by
        obtain ⟨c, ce⟩ := h
        exact ⟨c, r, rfl, ce.2, ce.1⟩
      obtain ⟨z0, k, op, a, b⟩ := r
      dsimp only at hzr h8 hk hl hb
      subst hzr
      dsimp only [rok] at ok
      obtain ⟨o0, a0, a1, b0, b1, k6, k7, kb, k56, q0, q2, q3, q4, q6, q7, _⟩ := ok
      clear hr hz hf
      match k, h8 with
      | 0, _ =>
        obtain ⟨x, y, v, rfl⟩ := len3 hl
        obtain ⟨⟨x1, x2, _⟩, hb⟩ := badAt_cons hb; obtain ⟨⟨y1, y2, _⟩, hb⟩ := badAt_cons hb; obtain ⟨⟨v1, v2, v3⟩, _⟩ := badAt_cons hb
        obtain rfl := q0 rfl
        obtain ⟨c, ce, _⟩ := ce_three hk a0 a1 b0 b1 x1 x2 y1 y2 v1 v2
        exact ⟨c, ce⟩
      | 1, _ =>
        obtain ⟨x, y, v, rfl⟩ := len3 hl
        obtain ⟨⟨x1, x2, _⟩, hb⟩ := badAt_cons hb; obtain ⟨⟨y1, y2, _⟩, hb⟩ := badAt_cons hb; obtain ⟨⟨v1, v2, v3⟩, _⟩ := badAt_cons hb
        obtain rfl := kb (by decide) (by decide)
        obtain ⟨c, ce, _⟩ := ce_imm hk a0 a1 o0 (k6 (by decide)) x1 x2 y1 y2 v1 v2
        exact ⟨c, ce⟩
      | 2, _ =>
        obtain ⟨x, y, v, rfl⟩ := len3 hl
        obtain ⟨⟨x1, x2, _⟩, hb⟩ := badAt_cons hb; obtain ⟨⟨y1, y2, _⟩, hb⟩ := badAt_cons hb; obtain ⟨⟨v1, v2, v3⟩, _⟩ := badAt_cons hb
        obtain rfl := q2 rfl
        obtain ⟨c, ce, _⟩ := ce_amount hk a0 a1 b0 b1 x1 x2 y1 y2 v1 v2
        exact ⟨c, ce⟩
      | 3, _ =>
        obtain ⟨x, y, v, rfl⟩ := len3 hl
        obtain ⟨⟨x1, x2, _⟩, hb⟩ := badAt_cons hb; obtain ⟨⟨y1, y2, _⟩, hb⟩ := badAt_cons hb; obtain ⟨⟨v1, v2, v3⟩, _⟩ := badAt_cons hb
        obtain ⟨rfl, rfl⟩ := q3 rfl
        obtain rfl := kb (by decide) (by decide)
        obtain ⟨c, ce, _⟩ := ce_store hk x1 x2 y1 y2 v1 v2
        exact ⟨c, ce⟩
      | 4, _ =>
        obtain ⟨x, y, v, rfl⟩ := len3 hl
        obtain ⟨⟨x1, x2, _⟩, hb⟩ := badAt_cons hb; obtain ⟨⟨y1, y2, _⟩, hb⟩ := badAt_cons hb; obtain ⟨⟨v1, v2, v3⟩, _⟩ := badAt_cons hb
        obtain rfl := q4 rfl
        obtain rfl := kb (by decide) (by decide)
        obtain ⟨c, ce, _⟩ := ce_branch hk a0 a1 x1 x2 y1 y2 v1 v2 v3
        exact ⟨c, ce⟩
      | 5, _ =>
        obtain ⟨x, v, rfl⟩ := len2 hl
        obtain ⟨⟨x1, x2, _⟩, hb⟩ := badAt_cons hb; obtain ⟨⟨v1, v2, v3⟩, _⟩ := badAt_cons hb
        obtain rfl := kb (by decide) (by decide)
        obtain rfl := k56 (.inl rfl)
        obtain ⟨c, ce, _⟩ := ce_upper hk o0 (k6 (by decide)) x1 x2 v1 v2
        exact ⟨c, ce⟩
      | 6, _ =>
        obtain ⟨x, v, rfl⟩ := len2 hl
        obtain ⟨⟨x1, x2, _⟩, hb⟩ := badAt_cons hb; obtain ⟨⟨v1, v2, v3⟩, _⟩ := badAt_cons hb
        obtain rfl := q6 rfl
        obtain rfl := kb (by decide) (by decide)
        obtain rfl := k56 (.inr rfl)
        obtain ⟨c, ce, _⟩ := ce_jump hk x1 x2 v1 v2 v3
        exact ⟨c, ce⟩
      | 7, _ =>
        obtain rfl : vs = [] := List.eq_nil_of_length_eq_zero hl
        obtain ⟨rfl, rfl⟩ := k7 rfl
        rcases q7 rfl with ⟨rfl, rfl⟩ | ⟨rfl, rfl⟩
        · exact ⟨_, ce_ecall⟩
        · exact ⟨_, ce_ebreak⟩
    · rw [if_neg hl] at hf; cases hf
theorem asked_ok {z : Str} {vs : List Int} {h : AH} : ∃ c : Int, m__law_asked [rowT2 z vs] h = .ok (match fault z vs with | none => .tup [.str "word", .int c, .bl true] | some n => .tup [.str "refused", .int (n : Nat), .bl true]) h ∧ (fault z vs = none → ∃ r, rowOf z = some r ∧ ∀ h, m__law_code [lrow r, rowT2 z vs] h = .ok (.int c) h) := by
  have sz : ∀ {n : Nat}, n ≤ 100 → n ≤ sizeLine := fun h => Nat.le_trans h (by decide)
  cases hf : fault z vs with
  | none =>
    obtain ⟨c, r, h1, h2, h3⟩ := enc_good hf
    exact ⟨c, by simp [m__law_asked, b__law_asked, sTry0, h2, sz], fun _ => ⟨r, h1, h3⟩⟩
  | some n =>
    have e := fun h => enc_bad (h := h) hf
    refine ⟨0, ?_, fun x => by cases x⟩
    simp [m__law_asked, b__law_asked, sTry0, e, x1__law_asked, noXc, unname, sz]
theorem right_ok {z : Str} {vs : List Int} {h : AH} (hv : vs.length ≤ 100) : ∃ j, m__law_right [rowT2 z vs] h = .ok (.bl true) (h ++ j) := by
  have l := lx_ok (h := h) (z := z) hv
  obtain ⟨c, a, q⟩ := asked_ok (z := z) (vs := vs) (h := h ++ [none, none])
  cases hf : fault z vs with
  | some n =>
    rw [hf] at l a
    refine ⟨[none, none], ?_⟩
    simp [m__law_right, b__law_right, l, a, optT, at_0, at_1, at_2, tyOf, M.eqT]
  | none =>
    rw [hf] at l a
    obtain ⟨r, h1, h3⟩ := q hf
    have fm := form_ok (z := z) (h := h ++ [none, none])
    rw [h1] at fm
    dsimp only at fm
    have e3 : atI (T.str z :: vs.map T.int) 0 = some (.str z) := at_hd
    refine ⟨[none, none, none, none], ?_⟩
    unfold rowT2 at *
    simp at fm
    simp [m__law_right, b__law_right, l, a, optT, at_0, at_1, at_2, tyOf, M.eqT, e3, fm, h3]
theorem told_ok {vs : List Int} {h : AH} : m__law_base_told [rowT2 "nop" vs] h = .ok (.bl true) h := by
  have hf : fault "nop" vs = some 0 := by
    unfold fault
    have : rowOf "nop" = none := by decide +kernel
    rw [this]
  have e := fun h => enc_bad (h := h) hf
  simp [m__law_base_told, b__law_base_told, sTry0, e, x1__law_base_told, noXc, unname]
/-! rows, drawn and bent -/
theorem exch_ok {l : List T} {k : Nat} {x : T} {h : AH} (hk : k < l.length) (hl : l.length ≤ 100) : m__law_exchanged [.tup l, .int k, x] h = .ok (.tup (l.set k x)) h := by
  have sz : ∀ {n : Nat}, n ≤ 1000 → n ≤ sizeLine := fun h => Nat.le_trans h (by decide)
  have e1 : HT.sIx l.length 0 none = 0 := rfl
  have e2 : HT.sIx l.length l.length (some (k : Int)) = k := by
    rw [HT.sIx_nat]; omega
  have e3 : HT.sIx l.length 0 (some ((k : Int) + 1)) = k + 1 := by
    have := HT.sIx_nat l.length 0 (k + 1)
    rw [show ((k + 1 : Nat) : Int) = (k : Int) + 1 by omega] at this
    rw [this]; omega
  have e4 : HT.sIx l.length l.length none = l.length := rfl
  have e5 : l.take k ++ x :: l.drop (k + 1) = l.set k x := by
    rw [List.set_eq_take_append_cons_drop, if_pos hk]
  have e6 : (l.drop (k + 1)).take (l.length - (k + 1)) = l.drop (k + 1) := List.take_of_length_le (by rw [List.length_drop]; exact Nat.le_refl _)
  have l1 : k ≤ l.length := Nat.le_of_lt hk
  have z1 : (min k l.length) + 1 ≤ sizeLine := sz (by omega)
  have z2 : (min k l.length) + 1 + (l.length - (k + 1)) ≤ sizeLine := sz (by omega)
  simp [m__law_exchanged, b__law_exchanged, cutT, e1, e2, e3, e4, e6, z1, z2, sz, e5, Nat.ne_of_lt hk]

theorem set_row {z : Str} {vs : List Int} {i : Nat} {v : Int} : (T.str z :: vs.map T.int).set (i + 1) (.int v) = T.str z :: (vs.set i v).map T.int := by
  rw [List.set_cons_succ, List.map_set]
theorem exch_row {z : Str} {vs : List Int} {i : Nat} {v : Int} {h : AH} (hi : i < vs.length) (hl : vs.length ≤ 50) : m__law_exchanged [rowT2 z vs, .int ((i : Int) + 1), .int v] h = .ok (rowT2 z (vs.set i v)) h := by
  have e := exch_ok (l := T.str z :: vs.map .int) (k := i + 1) (x := .int v) (h := h) (by simpa using hi) (by simp; omega)
  rw [set_row] at e
  exact e
theorem exch_head {z s : Str} {vs : List Int} {h : AH} (hl : vs.length ≤ 50) : m__law_exchanged [rowT2 z vs, .int 0, .str s] h = .ok (rowT2 s vs) h :=
  exch_ok (l := T.str z :: vs.map .int) (k := 0) (x := .str s) (h := h) (by simp) (by simp; omega)
theorem at_row {z : Str} {vs : List Int} {i : Nat} (hi : i < vs.length) : ∃ v, atI (T.str z :: vs.map T.int) ((i : Int) + 1) = some (.int v) := by
  refine ⟨vs[i], ?_⟩
  rw [atI_nat1, List.getElem?_cons_succ, List.getElem?_map, List.getElem?_eq_getElem hi]; rfl
/-- kinds of a form -/
def KsOk (ks : List Str) : Prop := ks.length ≤ 3 ∧ ∀ k ∈ ks, ∃ lo hi st, Kd k lo hi st
theorem at_ks {ks : List Str} {i : Nat} (hk : KsOk ks) (hi : i < ks.length) : ∃ k lo hi' st, atI (ks.map T.str) (i : Int) = some (.str k) ∧ Kd k lo hi' st := by
  obtain ⟨lo, hi', st, h⟩ := hk.2 ks[i] (List.getElem_mem hi)
  exact ⟨ks[i], lo, hi', st, by rw [atI_nat, List.getElem?_map, List.getElem?_eq_getElem hi]; rfl, h⟩
theorem kd_b {k : Str} {lo hi st : Int} (h : Kd k lo hi st) : -1048576 ≤ lo ∧ lo ≤ 0 ∧ 0 ≤ hi ∧ hi ≤ 1048575 := by
  cases h <;> decide
theorem spoilt_turn {z : Str} {vs : List Int} {ks : List Str} {i : Nat} {form : Option T} {p : Nat} {o : Option O} {g : AH} {a5 a6 a7 a8 a9 a10 : Option T} (hp : g[p]? = some o) (ho : PoolAt o) (hk : KsOk ks) (hi : i < ks.length) (hl : vs.length = ks.length) :
    ∃ vs' o' b5 b6 b7 b8 b9 b10, PoolAt o' ∧ vs'.length = vs.length ∧ l1__law_spoilt [some (.obj p), form, some (rowT2 z vs), some (.lst (ks.map .str)), some (.int i), a5, a6, a7, a8, a9, a10] g = .ok (.nx [some (.obj p), form, some (rowT2 z vs'), some (.lst (ks.map .str)), some (.int i), b5, b6, b7, b8, b9, b10]) (g.set p o') := by
  have hs : ∀ o, (g.set p o)[p]? = some o := fun o => List.getElem?_set_self (PoolAt.lt hp)
  have sz : ∀ {n : Nat}, n ≤ 100 → n ≤ sizeLine := fun h => Nat.le_trans h (by decide)
  obtain ⟨k, lo, hi', st, e1, kd⟩ := at_ks hk hi
  obtain ⟨b1, b2, b3, b4⟩ := kd_b kd
  obtain ⟨v, ev⟩ := at_row (z := z) (vs := vs) (i := i) (by omega)
  obtain ⟨m, o1, q1, m0, m1, e2⟩ := draw_ok (many := 4) hp ho (by decide) (by decide)
  have er := fun h => range_ok (h := h) kd
  have hi2 : i < vs.length := by omega
  have h50 : vs.length ≤ 50 := by have := hk.1; omega
  have ex := fun (v : Int) (h : AH) => exch_row (z := z) (v := v) (h := h) hi2 h50
  unfold rowT2 at ex ⊢
  by_cases c1 : m = 1
  · subst c1
    obtain ⟨x, o2, q2, hx, e3⟩ := pick_ok (l := [.int (lo - st), .int (lo - 1), .int (hi' + 1), .int (hi' + st)]) (hs o1) q1 (by simp) (by simp)
    obtain ⟨w, rfl⟩ : ∃ w, x = .int w := by
      simp only [List.mem_cons, List.not_mem_nil, or_false] at hx
      rcases hx with rfl | rfl | rfl | rfl <;> exact ⟨_, rfl⟩
    refine ⟨vs.set i w, o2, some (.int lo), some (.int hi'), some (.int st), some (.int 1), some (.int w), some (.lst [.int (lo - st), .int (lo - 1), .int (hi' + 1)]), q2, by simp, ?_⟩
    simp [l1__law_spoilt, e1, er, e2, ev, e3, sz, M.eqT, ex, List.set_set]
  · by_cases c2 : m = 2
    · subst c2
      obtain ⟨w, o2, q2, _, _, e3⟩ := draw_ok (many := 2199023255551) (hs o1) q1 (by decide) (by decide)
      refine ⟨vs.set i (w - 1099511627775), o2, some (.int lo), some (.int hi'), some (.int st), some (.int 2), some (.int (w - 1099511627775)), a10, q2, by simp, ?_⟩
      simp [l1__law_spoilt, e1, er, e2, ev, e3, sz, M.eqT, ex, List.set_set]
    · by_cases c3 : m = 3
      · subst c3
        obtain ⟨w, o2, q2, _, _, e3⟩ := draw_ok (many := hi' - lo + 3) (hs o1) q1 (by omega) (Nat.lt_trans (lg_ok (by omega) (by omega)) (by decide))
        refine ⟨vs.set i (lo - 1 + w), o2, some (.int lo), some (.int hi'), some (.int st), some (.int 3), some (.int (lo - 1 + w)), a10, q2, by simp, ?_⟩
        simp [l1__law_spoilt, e1, er, e2, ev, e3, sz, M.eqT, ex, List.set_set]
      · refine ⟨vs.set i v, o1, some (.int lo), some (.int hi'), some (.int st), some (.int m), some (.int v), a10, q1, by simp, ?_⟩
        simp [l1__law_spoilt, e1, er, e2, ev, sz, M.eqT, ex, c1, c2, c3]
theorem spoilt_ok {z kd : Str} {op a b : Int} {ks : List Str} {vs : List Int} {z0 : Str} {p : Nat} {o : Option O} {h : AH} (hp : h[p]? = some o) (ho : PoolAt o) (hk : Kn kd ks) (hl : vs.length = ks.length) :
    ∃ vs' o', PoolAt o' ∧ vs'.length = vs.length ∧ m__law_spoilt [.obj p, row5 z0 kd op a b, rowT2 z vs] h = .ok (rowT2 z vs') (h.set p o') := by
  obtain ⟨τ1, h1, ef, vs', o', b4, b5, b6, b7, b8, b9, b10, rfl, rfl, q, lv, -⟩ := for_all (a := aName 4) (b := l1__law_spoilt) (l := irange 0 ks.length) (τ := [some (.obj p), some (row5 z0 kd op a b), some (rowT2 z vs), some (.lst (ks.map .str)), none, none, none, none, none, none, none]) (h := h)
    (fun l τ h' => ∃ vs' o' b4 b5 b6 b7 b8 b9 b10, τ = [some (.obj p), some (row5 z0 kd op a b), some (rowT2 z vs'), some (.lst (ks.map .str)), b4, b5, b6, b7, b8, b9, b10] ∧ h' = h.set p o' ∧ PoolAt o' ∧ vs'.length = vs.length ∧ ∀ x ∈ l, ∃ i : Nat, i < ks.length ∧ x = .int i)
    ⟨vs, o, none, none, none, none, none, none, none, rfl, by
      apply List.ext_getElem?
      intro j
      by_cases y : p = j
      · subst y; rw [List.getElem?_set_self (PoolAt.lt hp), hp]
      · rw [List.getElem?_set_ne y], ho, rfl, fun x hx => by
      simp only [irange, List.mem_map, List.mem_range] at hx
      obtain ⟨i, hi, rfl⟩ := hx
      exact ⟨i, hi, by simp⟩⟩ (by
      rintro x xs τ h' ⟨vs', o', b4, b5, b6, b7, b8, b9, b10, rfl, rfl, q, lv, hx⟩
      obtain ⟨i, hi, rfl⟩ := hx x List.mem_cons_self
      obtain ⟨vs2, o2, c5, c6, c7, c8, c9, c10, q2, lv2, e⟩ := spoilt_turn (z := z) (vs := vs') (form := some (row5 z0 kd op a b)) (g := h.set p o') (p := p) (a5 := b5) (a6 := b6) (a7 := b7) (a8 := b8) (a9 := b9) (a10 := b10) (List.getElem?_set_self (PoolAt.lt hp)) q hk.kd hi (by rw [lv, hl])
      rw [List.set_set] at e
      exact ⟨_, _, _, rfl, .inl e, vs2, o2, _, c5, c6, c7, c8, c9, c10, rfl, rfl, q2, lv2.trans lv, fun x hx' => hx x (List.mem_cons_of_mem _ hx')⟩)
  refine ⟨vs', o', q, lv, ?_⟩
  have k0 : ∀ h, m__law_kinds_of [row5 z0 kd op a b] h = .ok (.lst (ks.map .str)) h := fun h => kinds_ok hk
  have i1 : r62 (ks.length : Int) = true := r62_ok (by omega) (by have := hk.kd.1; omega)
  simp only [irange, Int.zero_add] at ef
  unfold rowT2 at *
  simp [m__law_spoilt, b__law_spoilt, k0, i1, ef]
/-- what the law asks of: a row -/
def IsRow (t : T) : Prop := ∃ z vs, t = rowT2 z vs ∧ vs.length ≤ 50
theorem IsRow.no {t : T} (h : IsRow t) : isObj t = false := by obtain ⟨z, vs, rfl, _⟩ := h; rfl
theorem ends_turn {z : Str} {vs : List Int} {ks : List Str} {i q : Nat} {form : Option T} {xs : List T} {g : AH} {a5 a6 a7 a8 a9 : Option T} (hq : g[q]? = some (some (.lst xs))) (hk : KsOk ks) (hi : i < ks.length) (hl : vs.length = ks.length) (hx : xs.length ≤ 200) :
    ∃ ys b5 b6 b7 b8 b9, (∀ y ∈ ys, IsRow y) ∧ ys.length = 7 ∧ l2__law_ends [form, some (rowT2 z vs), some (.obj q), some (.lst (ks.map .str)), some (.int i), a5, a6, a7, a8, a9] g = .ok (.nx [form, some (rowT2 z vs), some (.obj q), some (.lst (ks.map .str)), some (.int i), b5, b6, b7, b8, b9]) (g.set q (some (.lst (xs ++ ys)))) := by
  have sz : ∀ {n : Nat}, n ≤ 1000 → n ≤ sizeLine := fun h => Nat.le_trans h (by decide)
  obtain ⟨k, lo, hi', st, e1, kd⟩ := at_ks hk hi
  have er := fun h => range_ok (h := h) kd
  have hi2 : i < vs.length := by omega
  have h50 : vs.length ≤ 50 := by have := hk.1; omega
  have ex := fun (v : Int) (h : AH) => exch_row (z := z) (v := v) (h := h) hi2 h50
  let os : List Int := [lo - st, lo - 1, lo, lo + 1, hi', hi' + 1, hi' + st]
  obtain ⟨v', e⟩ := for_app (b := l1__law_ends) (a := aName 9) (enc := T.int) (g := fun v => rowT2 z (vs.set i v)) (τ0 := fun v => [form, some (rowT2 z vs), some (.obj q), some (.lst (ks.map .str)), some (.int i), some (.int lo), some (.int hi'), some (.int st), some (.lst [.int (lo - st), .int (lo - 1), .int lo, .int (lo + 1)]), v]) (p := q) (fun v l h hp hn => by
      simp [l1__law_ends, hp, hn, ex]) (fun x v => rfl) os a9 xs g hq (by show xs.length + 7 ≤ sizeLine; exact sz (by omega))
  refine ⟨os.map fun v => rowT2 z (vs.set i v), some (.int lo), some (.int hi'), some (.int st), some (.lst [.int (lo - st), .int (lo - 1), .int lo, .int (lo + 1)]), v', fun y hy => ?_, rfl, ?_⟩
  · obtain ⟨v, _, rfl⟩ := List.mem_map.mp hy
    exact ⟨z, _, rfl, by rw [List.length_set]; exact h50⟩
  · simp only [os, List.map_cons, List.map_nil] at e ⊢
    unfold rowT2 at *
    simp [l2__law_ends, e1, er, sz, e]
theorem ends_ok {z kd z0 : Str} {op a b : Int} {ks : List Str} {vs : List Int} {h : AH} (hk : Kn kd ks) (hl : vs.length = ks.length) :
    ∃ ys, (∀ y ∈ ys, IsRow y) ∧ ys.length ≤ 40 ∧ m__law_ends [row5 z0 kd op a b, rowT2 z vs] h = .ok (.lst ys) (h ++ [none]) := by
  have h3 := hk.kd.1
  obtain ⟨τ1, h1, ef, xs, b4, b5, b6, b7, b8, b9, rfl, rfl, hr, hn, -⟩ := for_all (a := aName 4) (b := l2__law_ends) (l := irange 0 ks.length) (τ := [some (row5 z0 kd op a b), some (rowT2 z vs), some (.obj h.length), some (.lst (ks.map .str)), none, none, none, none, none, none]) (h := h ++ [some (.lst [])])
    (fun l τ h' => ∃ xs b4 b5 b6 b7 b8 b9, τ = [some (row5 z0 kd op a b), some (rowT2 z vs), some (.obj h.length), some (.lst (ks.map .str)), b4, b5, b6, b7, b8, b9] ∧ h' = h ++ [some (.lst xs)] ∧ (∀ y ∈ xs, IsRow y) ∧ xs.length + 7 * l.length ≤ 21 ∧ ∀ x ∈ l, ∃ i : Nat, i < ks.length ∧ x = .int i)
    ⟨[], none, none, none, none, none, none, rfl, rfl, by simp, by simp [irange]; omega, fun x hx => by
      simp only [irange, List.mem_map, List.mem_range] at hx
      obtain ⟨i, hi, rfl⟩ := hx
      exact ⟨i, hi, by simp⟩⟩ (by
      rintro x l τ h' ⟨xs, b4, b5, b6, b7, b8, b9, rfl, rfl, hr, hn, hx⟩
      rw [List.length_cons] at hn
      obtain ⟨i, hi, rfl⟩ := hx x List.mem_cons_self
      obtain ⟨ys, c5, c6, c7, c8, c9, hy, hy7, e⟩ := ends_turn (z := z) (vs := vs) (form := some (row5 z0 kd op a b)) (g := h ++ [some (.lst xs)]) (q := h.length) (xs := xs) (a5 := b5) (a6 := b6) (a7 := b7) (a8 := b8) (a9 := b9) get_new hk.kd hi hl (by omega)
      rw [set_new] at e
      refine ⟨_, _, _, rfl, .inl e, xs ++ ys, _, c5, c6, c7, c8, c9, rfl, rfl, fun y hy' => ?_, by rw [List.length_append, hy7]; omega, fun x hx' => hx x (List.mem_cons_of_mem _ hx')⟩
      rcases List.mem_append.mp hy' with hy' | hy'
      · exact hr y hy'
      · exact hy y hy')
  refine ⟨xs, hr, by omega, ?_⟩
  have k0 : ∀ h, m__law_kinds_of [row5 z0 kd op a b] h = .ok (.lst (ks.map .str)) h := fun h => kinds_ok hk
  have i1 : r62 (ks.length : Int) = true := r62_ok (by omega) (by omega)
  have f : frz 8 (h ++ [some (.lst xs)]) (.obj h.length) = (.lst xs, h ++ [none]) := by
    rw [frz_lst get_new (fun t ht => (hr t ht).no), set_new]
  simp only [irange, Int.zero_add] at ef
  unfold rowT2 at *
  simp [m__law_ends, b__law_ends, k0, i1, ef, f]
/-- a sign of a text -/
theorem pickS_ok {h : AH} {p : Nat} {o : Option O} {s : Str} (hp : h[p]? = some o) (ho : PoolAt o) (h0 : 0 < s.length) (h1 : s.length ≤ 1000) : ∃ x o', PoolAt o' ∧ x.length = 1 ∧ m__law_pick [.obj p, .str s] h = .ok (.str x) (h.set p o') := by
  have lg : (s.length : Int).natAbs.log2 < 9000 := (Nat.log2_lt (by omega)).mpr (Nat.lt_of_lt_of_le (by omega : (s.length : Int).natAbs < 2 ^ 10) (Nat.pow_le_pow_right (by decide) (by decide)))
  obtain ⟨r, o', q, r0, r1, e⟩ := draw_ok (many := s.length) hp ho (by omega) lg
  obtain ⟨i, rfl⟩ : ∃ i : Nat, r = i := ⟨r.toNat, by omega⟩
  have sz : s.length ≤ sizeLine := Nat.le_trans h1 (by decide)
  have hl : s.cps.toList.length = s.length := by simp [Str.length]
  have hi : i < s.cps.toList.length := by omega
  have hx : atI s.cps.toList (i : Int) = some s.cps.toList[i] := by rw [atI_nat]; exact List.getElem?_eq_getElem hi
  refine ⟨⟨#[s.cps.toList[i]]⟩, o', q, rfl, ?_⟩
  simp [m__law_pick, b__law_pick, e, sz, hx]
theorem letters_ok {h : AH} {p : Nat} {o : Option O} (hp : h[p]? = some o) (ho : PoolAt o) : ∃ x o', PoolAt o' ∧ x.length ≤ 6 ∧ m__law_letters [.obj p] h = .ok (.str x) (h.set p o') := by
  have hs : ∀ o, (h.set p o)[p]? = some o := fun o => List.getElem?_set_self (PoolAt.lt hp)
  have sz : ∀ {n : Nat}, n ≤ 100 → n ≤ sizeLine := fun h => Nat.le_trans h (by decide)
  obtain ⟨r, o1, q1, r0, r1, e1⟩ := draw_ok (many := 6) hp ho (by decide) (by decide)
  obtain ⟨τ1, h1, ef, x, o', v, rfl, rfl, q, hn⟩ := for_all (a := aName 2) (b := l1__law_letters) (l := irange 0 (1 + r).toNat) (τ := [some (.obj p), some (.str ""), none]) (h := h.set p o1)
    (fun l τ h' => ∃ x o' v, τ = [some (.obj p), some (.str x), v] ∧ h' = h.set p o' ∧ PoolAt o' ∧ x.length + l.length ≤ 6)
    ⟨"", o1, none, rfl, rfl, q1, by simp [irange]; show 0 + _ ≤ 6; omega⟩ (by
      rintro y l τ h' ⟨x, o', v, rfl, rfl, q, hn⟩
      rw [List.length_cons] at hn
      obtain ⟨c, o2, q2, hc, e⟩ := pickS_ok (s := "abcdefghijklmnopqrstuvwxyz") (hs o') q (by decide) (by decide)
      rw [List.set_set] at e
      have s1 : x.length + c.length ≤ sizeLine := sz (by omega)
      refine ⟨_, [some (.obj p), some (.str (x ++ c)), some y], h.set p o2, rfl, .inl ?_, x ++ c, o2, _, rfl, rfl, q2, ?_⟩
      · simp [l1__law_letters, e, s1]
      · have : (x ++ c).length = x.length + c.length := Array.size_append
        omega)
  refine ⟨x, o', q, by simpa using hn, ?_⟩
  have i1 : r62 (1 + r) = true := r62_ok (by omega) (by omega)
  simp only [irange, Int.zero_add] at ef
  simp [m__law_letters, b__law_letters, e1, i1, ef]
theorem heads_ok {h : AH} {p : Nat} {o : Option O} {z : Str} (hp : h[p]? = some o) (ho : PoolAt o) (hz : z.length ≤ 10) : ∃ (ss : List Str) (o' : Option O), PoolAt o' ∧ ss.length = 9 ∧ m__law_heads [.obj p, .str z] h = .ok (.lst (ss.map .str)) (h.set p o' ++ [none, none]) := by
  have sz : ∀ {n : Nat}, n ≤ 100 → n ≤ sizeLine := fun h => Nat.le_trans h (by decide)
  have lp := PoolAt.lt hp
  have et := table_ok (h := h)
  obtain ⟨x, o1, q1, hx, e1⟩ := pick_ok (h := h ++ [none, none]) (p := p) (l := tA ++ tB ++ tC ++ tD) (by rw [List.getElem?_append_left lp]; exact hp) ho (by decide) (by decide)
  rw [table_RR] at hx
  obtain ⟨r, _, rfl⟩ := List.mem_map.mp hx
  obtain ⟨X, hX, hx0⟩ : ∃ X, lrow r = .tup X ∧ atI X 0 = some (.str r.1) := ⟨_, rfl, at_0⟩
  rw [hX] at e1
  have s1 : (h ++ [none, none]).set p o1 = h.set p o1 ++ [none, none] := List.set_append_left _ _ lp
  rw [s1] at e1
  have hs : ∀ o, (h.set p o ++ [none, none])[p]? = some o := fun o => by rw [List.getElem?_append_left (by rw [List.length_set]; exact lp)]; exact List.getElem?_set_self lp
  have ss : ∀ o o', (h.set p o ++ [none, none]).set p o' = h.set p o' ++ [none, none] := fun o o' => by rw [List.set_append_left _ _ (by rw [List.length_set]; exact lp), List.set_set]
  let odd : List Str := ["nop", "li", "mv", "la", "j", "ret", "not", "neg", "beqz", "fence", "lb", "lh", "lbu", "lhu", "sb", "sh", "subi", "addiw"]
  obtain ⟨y, o2, q2, hy, e2⟩ := pick_ok (l := odd.map .str) (hs o1) q1 (by decide) (by decide)
  obtain ⟨w, _, rfl⟩ := List.mem_map.mp hy
  rw [ss] at e2
  obtain ⟨l, o3, q3, hl, e3⟩ := letters_ok (hs o2) q2
  rw [ss] at e3
  have n1 : z.length + 1 ≤ sizeLine := sz (by omega)
  have n2 : 1 + z.length ≤ sizeLine := sz (by omega)
  have n3 : z.length ≤ 5592405 := by omega
  have n4 : z.length ≤ sizeLine := sz (by omega)
  generalize tA ++ tB ++ tC ++ tD = tab at et e1
  simp only [odd, List.map_cons, List.map_nil] at e2
  have g1 : ("w" : Str).length = 1 := rfl
  have g2 : (" " : Str).length = 1 := rfl
  refine ⟨[r.1, w, l, z ++ "w", z ++ " ", " " ++ z, Txt.upper z, cutS z none (some (-1)), ""], o3, q3, rfl, ?_⟩
  simp [m__law_heads, b__law_heads, sz, et, e1, hx0, e2, e3, n1, n2, n3, n4, g1, g2]
theorem kin_ok {h : AH} {p : Nat} {o : Option O} {z : Str} {vs : List Int} (hp : h[p]? = some o) (ho : PoolAt o) (hz : z.length ≤ 10) (hv : vs.length ≤ 3) :
    ∃ xs o' j, PoolAt o' ∧ (∀ x ∈ xs, IsRow x) ∧ xs.length ≤ 40 ∧ m__law_kin [.obj p, rowT2 z vs] h = .ok (.lst xs) (h.set p o' ++ j) := by
  have sz : ∀ {n : Nat}, n ≤ 100 → n ≤ sizeLine := fun h => Nat.le_trans h (by decide)
  have lp := PoolAt.lt hp
  obtain ⟨r, o1, q1, r0, r1, e1⟩ := draw_ok (many := 40) hp ho (by decide) (by decide)
  have l1 : p < (h.set p o1).length := by rw [List.length_set]; exact lp
  let more : T := .tup (T.str z :: (vs.map T.int ++ [.int (r - 4)]))
  let base : List T := [more, .tup (T.str z :: (vs.map T.int ++ [.int (r - 4), .int 0])), .tup [T.str z], .tup ((T.str z :: vs.map T.int).take (max 1 vs.length))]
  have hb : ∀ x ∈ base, IsRow x := by
    intro x hx
    simp only [base, more, List.mem_cons, List.not_mem_nil, or_false] at hx
    rcases hx with rfl | rfl | rfl | rfl
    · exact ⟨z, vs ++ [r - 4], by simp [rowT2], by simp; omega⟩
    · exact ⟨z, vs ++ [r - 4, 0], by simp [rowT2], by simp; omega⟩
    · exact ⟨z, [], rfl, by simp⟩
    · refine ⟨z, vs.take (max 1 vs.length - 1), ?_, by rw [List.length_take]; omega⟩
      obtain ⟨m, hm⟩ : ∃ m, max 1 vs.length = m + 1 := ⟨max 1 vs.length - 1, by omega⟩
      rw [hm, List.take_succ_cons, Nat.add_sub_cancel, ← List.map_take]; rfl
  have gp : (h.set p o1 ++ [some (O.lst base)])[p]? = some o1 := by rw [List.getElem?_append_left l1]; exact List.getElem?_set_self lp
  obtain ⟨ss, o2, q2, hs9, e2⟩ := heads_ok (z := z) gp q1 hz
  have s2 : (h.set p o1 ++ [some (O.lst base)]).set p o2 = h.set p o2 ++ [some (O.lst base)] := by rw [List.set_append_left _ _ l1, List.set_set]
  rw [s2] at e2
  have l2 : (h.set p o1).length = h.length := List.length_set
  have l3 : (h.set p o2).length = h.length := List.length_set
  have gq : (h.set p o2 ++ [some (O.lst base)] ++ [none, none])[h.length]? = some (some (.lst base)) := by
    rw [List.append_assoc, List.getElem?_append_right (by omega), l3, Nat.sub_self]; rfl
  have ex := fun (s : Str) (h : AH) => exch_head (z := z) (s := s) (vs := vs) (h := h) (by omega)
  obtain ⟨v', e3⟩ := for_app (b := l1__law_kin) (a := aName 4) (enc := T.str) (g := fun s => rowT2 s vs) (τ0 := fun v => [some (.obj p), some (rowT2 z vs), some more, some (.obj h.length), v]) (p := h.length) (fun s l h hp hn => by
      simp [l1__law_kin, hp, hn, ex]) (fun x v => rfl) ss none base (h.set p o2 ++ [some (O.lst base)] ++ [none, none]) gq (by rw [hs9]; show 4 + 9 ≤ sizeLine; exact sz (by decide))
  have hall : ∀ x ∈ base ++ ss.map fun s => rowT2 s vs, IsRow x := by
    intro x hx
    rcases List.mem_append.mp hx with hx | hx
    · exact hb x hx
    · obtain ⟨s, _, rfl⟩ := List.mem_map.mp hx
      exact ⟨s, vs, rfl, by omega⟩
  have s3 : ∀ o, (h.set p o2 ++ [some (O.lst base)] ++ [none, none]).set h.length o = h.set p o2 ++ [o] ++ [none, none] := fun o => by
    rw [List.append_assoc, List.set_append_right _ _ (by omega), l3, Nat.sub_self, List.append_assoc]; rfl
  rw [s3] at e3
  have g3 : ∀ o, (h.set p o2 ++ [o] ++ [none, none])[h.length]? = some o := fun o => by
    rw [List.append_assoc, List.getElem?_append_right (by omega), l3, Nat.sub_self]; rfl
  have s4 : ∀ o o', (h.set p o2 ++ [o] ++ [none, none]).set h.length o' = h.set p o2 ++ [o'] ++ [none, none] := fun o o' => by
    rw [List.append_assoc, List.set_append_right _ _ (by omega), l3, Nat.sub_self, List.append_assoc]; rfl
  have f : frz 8 (h.set p o2 ++ [some (.lst (base ++ ss.map fun s => rowT2 s vs))] ++ [none, none]) (.obj h.length) = (.lst (base ++ ss.map fun s => rowT2 s vs), h.set p o2 ++ [none] ++ [none, none]) := by
    rw [frz_lst (g3 _) (fun t ht => (hall t ht).no), s4]
  refine ⟨base ++ ss.map fun s => rowT2 s vs, o2, [none, none, none], q2, hall, by rw [List.length_append, List.length_map, hs9]; show 4 + 9 ≤ 40; decide, ?_⟩
  have e0 : atI (T.str z :: vs.map T.int) 0 = some (.str z) := at_hd
  have i2 : HT.sIx (vs.length + 1) 0 none = 0 := rfl
  have i3 : HT.sIx (vs.length + 1) (vs.length + 1) (some 1) = 1 := by
    have := HT.sIx_nat (vs.length + 1) (vs.length + 1) 1
    rw [show ((1 : Nat) : Int) = 1 from rfl] at this
    rw [this]; omega
  have i4 : HT.sIx (vs.length + 1) (vs.length + 1) (some (if 1 < (vs.length : Int) then (vs.length : Int) else 1)) = max 1 vs.length := by
    have hc : (if 1 < (vs.length : Int) then (vs.length : Int) else 1) = ((max 1 vs.length : Nat) : Int) := by split <;> omega
    rw [hc, HT.sIx_nat]; omega
  have n1 : vs.length + 1 + 1 ≤ sizeLine := sz (by omega)
  have n2 : vs.length + 1 + 1 + 1 ≤ sizeLine := sz (by omega)
  simp only [List.append_assoc, List.cons_append, List.nil_append] at e2 e3 f
  unfold rowT2 at *
  simp only [more, base] at *
  simp [m__law_kin, b__law_kin, e1, e0, sz, i2, i3, i4, n1, n2, cutT, e2, e3]
  simp at f
  rw [f]
  exact ⟨rfl, rfl⟩

theorem law_true : ∀ ns : List Int, ns.length ≤ 63 → ∃ h', m_law [.rdl (ns.map .int)] [] = .ok (.bl true) h' := by
  intro ns hl
  have sz : ∀ {n : Nat}, n ≤ 1000 → n ≤ sizeLine := fun h => Nat.le_trans h (by decide)
  obtain ⟨o, q, e0⟩ := pool_ok (h := []) hl
  have et := table_ok (h := [o])
  obtain ⟨x, o1, q1, hx, e1⟩ := pick_ok (h := [o] ++ [none, none]) (p := 0) (l := tA ++ tB ++ tC ++ tD) rfl q (by decide) (by decide)
  rw [table_RR] at hx
  obtain ⟨r, hr, rfl⟩ := List.mem_map.mp hx
  have h8 := RR_k r hr
  obtain ⟨_, kn, h3, _⟩ := fd_forms h8
  have hz : r.1.length ≤ 10 := (RR_ok r hr).2.2.2.2.2.2.2.2.2.2.2.2.2.2.2
  generalize hks : ((fmD r.2.1).map fun f => f.2.1) = ks at kn
  have hks3 : ks.length ≤ 3 := by rw [← hks, List.length_map]; exact h3
  unfold lrow at e1
  generalize lop r = op, r.2.2.2.1 = a, r.2.2.2.2 = b at e1
  generalize lnm r.2.1 = kd at e1 kn
  generalize r.1 = z at e1 hz
  generalize tA ++ tB ++ tC ++ tD = tab at et e1
  obtain ⟨vs, o2, q2, ev, e2⟩ := drawn_ok (h := [o1, none, none]) (p := 0) rfl q1 kn (z := z) (op := op) (a := a) (b := b)
  have lv : vs.length = ks.length := ev.len
  obtain ⟨v1, o3, q3, l1, e3⟩ := spoilt_ok (h := [o2, none, none, none]) (p := 0) (z := z) (z0 := z) (op := op) (a := a) (b := b) (vs := vs) rfl q2 kn lv
  obtain ⟨v2, o4, q4, l2, e4⟩ := spoilt_ok (h := [o3, none, none, none]) (p := 0) (z := z) (z0 := z) (op := op) (a := a) (b := b) (vs := vs) rfl q3 kn lv
  obtain ⟨ys, hy, ly, e5⟩ := ends_ok (h := [o4, none, none, none]) (z := z) (z0 := z) (op := op) (a := a) (b := b) kn lv
  obtain ⟨k1, o5, j5, q5, hk1, lk1, e6⟩ := kin_ok (h := [o4, none, none, none, none]) (p := 0) (vs := vs) rfl q4 hz (by omega)
  obtain ⟨k2, o6, j6, q6, hk2, lk2, e7⟩ := kin_ok (h := o5 :: none :: none :: none :: none :: j5) (p := 0) (vs := v1) rfl q5 hz (by omega)
  have turn : ∀ (l : List T) (h : AH) (τ : LS), τ.length = 7 → (∀ x ∈ l, IsRow x) → ∀ v, ∃ v' h', sForL (aName 7) l1_law l (τ ++ [v]) h = .ok (.nx (τ ++ [v'])) h' := by
    intro l
    induction l with
    | nil => intro h τ _ _ v; exact ⟨v, h, rfl⟩
    | cons x l ih =>
      intro h τ hτ hl v
      obtain ⟨z, w, rfl, hw⟩ := hl x List.mem_cons_self
      obtain ⟨j, e⟩ := right_ok (z := z) (vs := w) (h := h) (by omega)
      obtain ⟨v', h', e'⟩ := ih (h ++ j) τ hτ (fun x hx => hl x (List.mem_cons_of_mem _ hx)) (some (rowT2 z w))
      refine ⟨v', h', ?_⟩
      obtain ⟨t0, t1, t2, t3, t4, t5, t6, rfl⟩ : ∃ t0 t1 t2 t3 t4 t5 t6, τ = [t0, t1, t2, t3, t4, t5, t6] := by
        match τ, hτ with
        | [t0, t1, t2, t3, t4, t5, t6], _ => exact ⟨_, _, _, _, _, _, _, rfl⟩
      rw [for_nx (τ1 := [t0, t1, t2, t3, t4, t5, t6, some (rowT2 z w)]) (τ' := [t0, t1, t2, t3, t4, t5, t6, some (rowT2 z w)]) (h1 := h ++ j) rfl (by simp [l1_law, e])]
      exact e'
  let rows : List T := [rowT2 z vs, rowT2 z v1, rowT2 z v2] ++ ys ++ k1 ++ k2 ++ [rowT2 z vs]
  obtain ⟨v7, hf, e8⟩ := turn rows (o6 :: none :: none :: none :: none :: (j5 ++ j6)) [some (.rdl (ns.map .int)), some (.obj 0), some (row5 z kd op a b), some (rowT2 z vs), some (rowT2 z v1), some (rowT2 z v2), some (.lst ([rowT2 z vs, rowT2 z v1, rowT2 z v2] ++ ys ++ k1 ++ k2))] rfl (by
    intro x hx
    simp only [rows, List.mem_append, List.mem_cons, List.not_mem_nil, or_false] at hx
    rcases hx with ((((rfl | rfl | rfl) | hx) | hx) | hx) | rfl
    · exact ⟨z, vs, rfl, by omega⟩
    · exact ⟨z, v1, rfl, by omega⟩
    · exact ⟨z, v2, rfl, by omega⟩
    · exact hy x hx
    · exact hk1 x hx
    · exact hk2 x hx
    · exact ⟨z, vs, rfl, by omega⟩) none
  have et2 := told_ok (vs := vs) (h := hf)
  refine ⟨hf, ?_⟩
  have n0 : 3 + ys.length ≤ sizeLine := sz (by omega)
  have n1 : ys.length + 1 + 1 + 1 ≤ sizeLine := sz (by omega)
  have n2 : ys.length + 1 + 1 + 1 + k1.length ≤ sizeLine := sz (by omega)
  have n3 : ys.length + 1 + 1 + 1 + k1.length + k2.length ≤ sizeLine := sz (by omega)
  have n3' : ys.length + k1.length + 1 + 1 + 1 + k2.length ≤ sizeLine := sz (by omega)
  have n4' : ys.length + (k1.length + k2.length) + 1 + 1 + 1 + 1 ≤ sizeLine := sz (by omega)
  have n4 : ys.length + 1 + 1 + 1 + k1.length + k2.length + 1 ≤ sizeLine := sz (by omega)
  have i2 : HT.sIx (vs.length + 1) 0 (some 1) = 1 := by
    have := HT.sIx_nat (vs.length + 1) 0 1
    rw [show ((1 : Nat) : Int) = 1 from rfl] at this
    rw [this]; omega
  have i3 : HT.sIx (vs.length + 1) (vs.length + 1) none = vs.length + 1 := rfl
  have tk : List.take vs.length (vs.map T.int) = vs.map T.int := List.take_of_length_le (by rw [List.length_map]; exact Nat.le_refl _)
  have n5 : vs.length + 1 ≤ sizeLine := sz (by omega)
  have n6 : 1 + vs.length ≤ sizeLine := sz (by omega)
  simp only [List.nil_append, List.length_nil, List.set_cons_zero, List.cons_append, List.append_assoc, rows] at e0 e1 et e2 e3 e4 e5 e6 e7 e8
  unfold rowT2 at *
  simp [m_law, b_law, e0, et, e1, e2, e3, e4, e5, e6, e7, n0, n3', n4', n1, n2, n3, n4, n5, n6, i2, i3, tk, e8, et2, sz, cutT]

end Lk08
namespace Lk08
open PySem PySem.Spec PyProof.Rows L2 M
def topS (i : Nat) : Stmt := PySem.Challenge.pw_sameruns_k08_bad_rows.main.body.getD i (.Pass ⟨0, 0, 0, 0⟩)
abbrev s__law_pool : Stmt := topS 33
abbrev N__law_pool : List Str := ["script"]
theorem sc__law_pool : FnScope ["script"] ["script"] (defScope s__law_pool) := ⟨rfl, rfl, rfl, by decide +kernel, rfl, by decide +kernel, by decide +kernel⟩
abbrev s__law_draw : Stmt := topS 34
abbrev N__law_draw : List Str := ["pool", "many", "digit"]
theorem sc__law_draw : FnScope ["pool", "many", "digit"] ["pool", "many"] (defScope s__law_draw) := ⟨rfl, rfl, rfl, by decide +kernel, rfl, by decide +kernel, by decide +kernel⟩
abbrev s__law_pick : Stmt := topS 35
abbrev N__law_pick : List Str := ["pool", "things"]
theorem sc__law_pick : FnScope ["pool", "things"] ["pool", "things"] (defScope s__law_pick) := ⟨rfl, rfl, rfl, by decide +kernel, rfl, by decide +kernel, by decide +kernel⟩
abbrev s__law_table : Stmt := topS 36
abbrev N__law_table : List Str := ["three", "out", "one"]
theorem sc__law_table : FnScope ["three", "out", "one"] [] (defScope s__law_table) := ⟨rfl, rfl, rfl, by decide +kernel, rfl, by decide +kernel, by decide +kernel⟩
abbrev s__law_kinds_of : Stmt := topS 37
abbrev N__law_kinds_of : List Str := ["form", "last"]
theorem sc__law_kinds_of : FnScope ["form", "last"] ["form"] (defScope s__law_kinds_of) := ⟨rfl, rfl, rfl, by decide +kernel, rfl, by decide +kernel, by decide +kernel⟩
abbrev s__law_range_of : Stmt := topS 38
abbrev N__law_range_of : List Str := ["kind"]
theorem sc__law_range_of : FnScope ["kind"] ["kind"] (defScope s__law_range_of) := ⟨rfl, rfl, rfl, by decide +kernel, rfl, by decide +kernel, by decide +kernel⟩
abbrev s__law_entry : Stmt := topS 39
abbrev N__law_entry : List Str := ["pool", "kind", "least", "greatest", "pace", "many", "ends"]
theorem sc__law_entry : FnScope ["pool", "kind", "least", "greatest", "pace", "many", "ends"] ["pool", "kind"] (defScope s__law_entry) := ⟨rfl, rfl, rfl, by decide +kernel, rfl, by decide +kernel, by decide +kernel⟩
abbrev s__law_drawn_row : Stmt := topS 40
abbrev N__law_drawn_row : List Str := ["pool", "form", "out", "kind"]
theorem sc__law_drawn_row : FnScope ["pool", "form", "out", "kind"] ["pool", "form"] (defScope s__law_drawn_row) := ⟨rfl, rfl, rfl, by decide +kernel, rfl, by decide +kernel, by decide +kernel⟩
abbrev s__law_exchanged : Stmt := topS 49
abbrev N__law_exchanged : List Str := ["row", "k", "one"]
theorem sc__law_exchanged : FnScope ["row", "k", "one"] ["row", "k", "one"] (defScope s__law_exchanged) := ⟨rfl, rfl, rfl, by decide +kernel, rfl, by decide +kernel, by decide +kernel⟩
abbrev s__law_spoilt : Stmt := topS 51
abbrev N__law_spoilt : List Str := ["pool", "form", "row", "kinds", "k", "least", "greatest", "pace", "mode", "one", "beside"]
theorem sc__law_spoilt : FnScope ["pool", "form", "row", "kinds", "k", "least", "greatest", "pace", "mode", "one", "beside"] ["pool", "form", "row"] (defScope s__law_spoilt) := ⟨rfl, rfl, rfl, by decide +kernel, rfl, by decide +kernel, by decide +kernel⟩
abbrev s__law_ends : Stmt := topS 50
abbrev N__law_ends : List Str := ["form", "row", "out", "kinds", "k", "least", "greatest", "pace", "ends", "one"]
theorem sc__law_ends : FnScope ["form", "row", "out", "kinds", "k", "least", "greatest", "pace", "ends", "one"] ["form", "row"] (defScope s__law_ends) := ⟨rfl, rfl, rfl, by decide +kernel, rfl, by decide +kernel, by decide +kernel⟩
abbrev s__law_letters : Stmt := topS 52
abbrev N__law_letters : List Str := ["pool", "out", "turn"]
theorem sc__law_letters : FnScope ["pool", "out", "turn"] ["pool"] (defScope s__law_letters) := ⟨rfl, rfl, rfl, by decide +kernel, rfl, by decide +kernel, by decide +kernel⟩
abbrev s__law_heads : Stmt := topS 53
abbrev N__law_heads : List Str := ["pool", "first", "odd", "out"]
theorem sc__law_heads : FnScope ["pool", "first", "odd", "out"] ["pool", "first"] (defScope s__law_heads) := ⟨rfl, rfl, rfl, by decide +kernel, rfl, by decide +kernel, by decide +kernel⟩
abbrev s__law_kin : Stmt := topS 54
abbrev N__law_kin : List Str := ["pool", "row", "more", "out", "one"]
theorem sc__law_kin : FnScope ["pool", "row", "more", "out", "one"] ["pool", "row"] (defScope s__law_kin) := ⟨rfl, rfl, rfl, by decide +kernel, rfl, by decide +kernel, by decide +kernel⟩
abbrev s__law_form_of : Stmt := topS 44
abbrev N__law_form_of : List Str := ["first", "form"]
theorem sc__law_form_of : FnScope ["first", "form"] ["first"] (defScope s__law_form_of) := ⟨rfl, rfl, rfl, by decide +kernel, rfl, by decide +kernel, by decide +kernel⟩
abbrev s__law_fault : Stmt := topS 45
abbrev N__law_fault : List Str := ["row", "form", "kinds", "k", "least", "greatest", "pace", "one"]
theorem sc__law_fault : FnScope ["row", "form", "kinds", "k", "least", "greatest", "pace", "one"] ["row"] (defScope s__law_fault) := ⟨rfl, rfl, rfl, by decide +kernel, rfl, by decide +kernel, by decide +kernel⟩
abbrev s_fields_of : Stmt := topS 29
abbrev N_fields_of : List Str := ["name"]
theorem sc_fields_of : FnScope ["name"] ["name"] (defScope s_fields_of) := ⟨rfl, rfl, rfl, by decide +kernel, rfl, by decide +kernel, by decide +kernel⟩
abbrev s_wrong_entry : Stmt := topS 30
abbrev N_wrong_entry : List Str := ["row", "index", "field", "least", "greatest", "unit", "number"]
theorem sc_wrong_entry : FnScope ["row", "index", "field", "least", "greatest", "unit", "number"] ["row"] (defScope s_wrong_entry) := ⟨rfl, rfl, rfl, by decide +kernel, rfl, by decide +kernel, by decide +kernel⟩
abbrev s_BadRow___init__ : Stmt := inClass (topS 15) 0
abbrev N_BadRow___init__ : List Str := ["self", "index"]
theorem sc_BadRow___init__ : FnScope ["self", "index"] ["self", "index"] (defScope s_BadRow___init__) := ⟨rfl, rfl, rfl, by decide +kernel, rfl, by decide +kernel, by decide +kernel⟩
abbrev s_with_number : Stmt := topS 31
abbrev N_with_number : List Str := ["word", "field", "number", "start", "many", "position", "mask"]
theorem sc_with_number : FnScope ["word", "field", "number", "start", "many", "position", "mask"] ["word", "field", "number"] (defScope s_with_number) := ⟨rfl, rfl, rfl, by decide +kernel, rfl, by decide +kernel, by decide +kernel⟩
abbrev s_encode : Stmt := topS 28
abbrev N_encode : List Str := ["row", "index", "_", "opcode", "f3", "f7", "word", "field", "number"]
theorem sc_encode : FnScope ["row", "index", "_", "opcode", "f3", "f7", "word", "field", "number"] ["row"] (defScope s_encode) := ⟨rfl, rfl, rfl, by decide +kernel, rfl, by decide +kernel, by decide +kernel⟩
abbrev s__law_asked : Stmt := topS 46
abbrev N__law_asked : List Str := ["row", "e", "other", "fine"]
theorem sc__law_asked : FnScope ["row", "e", "other", "fine"] ["row"] (defScope s__law_asked) := ⟨rfl, rfl, rfl, by decide +kernel, rfl, by decide +kernel, by decide +kernel⟩
abbrev s__law_jump_code : Stmt := topS 41
abbrev N__law_jump_code : List Str := ["row", "far", "out"]
theorem sc__law_jump_code : FnScope ["row", "far", "out"] ["row"] (defScope s__law_jump_code) := ⟨rfl, rfl, rfl, by decide +kernel, rfl, by decide +kernel, by decide +kernel⟩
abbrev s__law_branch_code : Stmt := topS 42
abbrev N__law_branch_code : List Str := ["form", "row", "near", "out"]
theorem sc__law_branch_code : FnScope ["form", "row", "near", "out"] ["form", "row"] (defScope s__law_branch_code) := ⟨rfl, rfl, rfl, by decide +kernel, rfl, by decide +kernel, by decide +kernel⟩
abbrev s__law_code : Stmt := topS 43
abbrev N__law_code : List Str := ["form", "row", "out", "imm"]
theorem sc__law_code : FnScope ["form", "row", "out", "imm"] ["form", "row"] (defScope s__law_code) := ⟨rfl, rfl, rfl, by decide +kernel, rfl, by decide +kernel, by decide +kernel⟩
abbrev s__law_right : Stmt := topS 48
abbrev N__law_right : List Str := ["row", "due", "said"]
theorem sc__law_right : FnScope ["row", "due", "said"] ["row"] (defScope s__law_right) := ⟨rfl, rfl, rfl, by decide +kernel, rfl, by decide +kernel, by decide +kernel⟩
abbrev s__law_base_told : Stmt := topS 47
abbrev N__law_base_told : List Str := ["row", "e"]
theorem sc__law_base_told : FnScope ["row", "e"] ["row"] (defScope s__law_base_told) := ⟨rfl, rfl, rfl, by decide +kernel, rfl, by decide +kernel, by decide +kernel⟩
abbrev s_law : Stmt := topS 55
abbrev N_law : List Str := ["script", "pool", "form", "row", "bent", "again", "rows", "one"]
theorem sc_law : FnScope ["script", "pool", "form", "row", "bent", "again", "rows", "one"] ["script"] (defScope s_law) := ⟨rfl, rfl, rfl, by decide +kernel, rfl, by decide +kernel, by decide +kernel⟩
/-- a def of the text that keeps its promise, for who calls it -/
structure Callee (P : Program) (w : World) (K : PySem.W.Frag) (mg : Str → Option Value) (base : Heap) (k : Nat) (f : Addr) (fd : FuncData) (nm : Str) (ps : List Str) (sp : Sp) : Prop where
  ok : FnOk P w K mg base CX0 k f fd ps sp
  kp : PySem.W.keepIn K (.ref f) = true
  b : Binds K fd ps []
  g : mg nm = some (.ref f)
structure CalleeM (P : Program) (w : World) (K : PySem.W.Frag) (mg : Str → Option Value) (base : Heap) (k : Nat) (f : Addr) (fd : FuncData) (ps : List Str) (sp : Sp) : Prop where
  ok : FnOk P w K mg base CX0 k f fd ps sp
  b : Binds K fd ps []
structure CalleeX (P : Program) (w : World) (K : PySem.W.Frag) (mg : Str → Option Value) (base : Heap) (k : Nat) (f : Addr) (fd : FuncData) (nm : Str) (ps : List Str) (sp : Sp) : Prop where
  ok : FnOk P w K mg base (L2.CX P w) k f fd ps sp
  kp : PySem.W.keepIn K (.ref f) = true
  b : Binds K fd ps []
  g : mg nm = some (.ref f)
structure CalleeMX (P : Program) (w : World) (K : PySem.W.Frag) (mg : Str → Option Value) (base : Heap) (k : Nat) (f : Addr) (fd : FuncData) (ps : List Str) (sp : Sp) : Prop where
  ok : FnOk P w K mg base (L2.CX P w) k f fd ps sp
  b : Binds K fd ps []
theorem xm_nil {K : PySem.W.Frag} {ca : Str → Addr} {c : Value} : ∀ (n : Str) (b : Bool), List.lookup n ([] : List (Str × Bool)) = some b → PySem.W.exmOne K (.ref (ca n)) c = some b := fun _ _ h => by cases h
theorem xm_cons {K : PySem.W.Frag} {ca : Str → Addr} {c : Value} {n0 : Str} {b0 : Bool} {C : Addr} {r : List (Str × Bool)} (hc : ca n0 = C) (h0 : PySem.W.exmOne K (.ref C) c = some b0) (hr : ∀ (n : Str) (b : Bool), r.lookup n = some b → PySem.W.exmOne K (.ref (ca n)) c = some b) :
    ∀ (n : Str) (b : Bool), List.lookup n ((n0, b0) :: r) = some b → PySem.W.exmOne K (.ref (ca n)) c = some b := fun n b h => by
  rw [List.lookup_cons] at h
  split at h
  · rename_i e
    cases h
    rw [eq_of_beq e, hc]; exact h0
  · exact hr n b h
theorem passT {X : Cx} : Passes CX0 X (fun _ _ _ => True) := fun _ _ _ _ _ _ _ h => h.elim
section
variable {P : Program} {w : World} {K : PySem.W.Frag} {mg : Str → Option Value} {base : Heap} {ca : Str → Addr} {fa : Str → V}
theorem ok__law_pool {f : Addr} {fd : FuncData} (F : Fun K "_law_pool" "_law_pool" s__law_pool f fd) (b_list : mg "list" = none) : FnOk P w K mg base CX0 1 f fd ["script"] (spM (M.Env.mk K ca fa none) 1 m__law_pool) := by
  refine FnOk.imp (F.ok sc__law_pool (sp_len (G := (M.Env.mk K ca fa none)) (m := m__law_pool) rfl) (fun cdv A outer s H vs Q E hr h => ?_)) (fun _ _ _ _ h => h)
  have hu := hu_of hr
  exact ⟨_, (pss_one (ps_ret (pe_lst (pa_cons (pe_callTy (x_list (K := K) rfl) (by rfl) b_list (by decide +kernel) (pa_cons (pe_slice (x_slL (K := K) rfl) (pv 0) po_none (po_some pe_int)) pa_nil)) (pa_cons pe_int (pa_cons pe_int (pa_cons pe_int pa_nil))))))), def_run (N := N__law_pool) (b := b__law_pool)
    (sim_ret (sim_lstO (sim_cons (sim_CB sb_list (sim_cons (sim_sl so_slL sim_var sim_noPart (sim_part sim_int)) sim_nil)) (sim_cons sim_int (sim_cons sim_int (sim_cons sim_int sim_nil)))))) h⟩
theorem ok__law_draw {f : Addr} {fd : FuncData} (F : Fun K "_law_draw" "_law_draw" s__law_draw f fd) (b_len : mg "len" = none) (b_abs : mg "abs" = none) (b_int : mg "int" = none) : FnOk P w K mg base CX0 1 f fd ["pool", "many"] (spM (M.Env.mk K ca fa none) 2 m__law_draw) := by
  refine FnOk.imp (F.ok sc__law_draw (sp_len (G := (M.Env.mk K ca fa none)) (m := m__law_draw) rfl) (fun cdv A outer s H vs Q E hr h => ?_)) (fun _ _ _ _ h => h)
  have hu := hu_of hr
  exact ⟨_, (pss_cons (ps_while PassesOwn.never (PW.pt (pw_and (pt_cmpR (x_eq (K := K) rfl hr.units) (pe_ix (x_ix (K := K) rfl) (pv 0) pe_int (fun _ _ => rfl)) pe_int (nomark _)) (pw_and1 (pt_cmpR op_lt (pe_ix (x_ix (K := K) rfl) (pv 0) pe_int (fun _ _ => rfl)) (pe_callB (x_len (K := K) rfl) (by rfl) b_len (by decide +kernel) (pa_cons (pe_ix (x_ix (K := K) rfl) (pv 0) pe_int (fun _ _ => rfl)) pa_nil)) (nomark _))))) (pss_cons (ps_asg (pe_callB (call_abs) (by rfl) b_abs (by decide +kernel) (pa_cons (pe_ix (x_ix (K := K) rfl) (pe_ix (x_ix (K := K) rfl) (pv 0) pe_int (fun _ _ => rfl)) (pe_ix (x_ix (K := K) rfl) (pv 0) pe_int (fun _ _ => rfl)) (fun _ _ => rfl)) pa_nil)) (pg_sub (pv 0) pe_int set_list))
      (pss_one (ps_asg (pe_op op_add (pe_ix (x_ix (K := K) rfl) (pv 0) pe_int (fun _ _ => rfl)) pe_int) (pg_sub (pv 0) pe_int set_list)))))
      (pss_cons (ps_if (pt_cmpR (x_eq (K := K) rfl hr.units) (pe_ix (x_ix (K := K) rfl) (pv 0) pe_int (fun _ _ => rfl)) pe_int (nomark _)) (pss_cons (ps_asg (pe_op op_add (pe_ix (x_ix (K := K) rfl) (pv 0) pe_int (fun _ _ => rfl)) pe_int) (pg_sub (pv 0) pe_int set_list))
      (pss_one (ps_ret (pe_op op_mod (pe_callTy (call_int1) (by rfl) b_int (by decide +kernel) (pa_cons (pe_op op_fdivW (pe_ix (x_ix (K := K) rfl) (pv 0) pe_int (fun _ _ => rfl)) pe_int) pa_nil)) (pv 1))))) pss_nil)
      (pss_cons (ps_set (i := 2) sc__law_draw.nd rfl (.inl rfl) (pe_op op_mod (pe_callTy (call_int1) (by rfl) b_int (by decide +kernel) (pa_cons (pe_ix (x_ix (K := K) rfl) (pv 0) pe_int (fun _ _ => rfl)) pa_nil)) (pv 1)))
      (pss_cons (ps_asg (pe_op op_fdivW (pe_callTy (call_int1) (by rfl) b_int (by decide +kernel) (pa_cons (pe_ix (x_ix (K := K) rfl) (pv 0) pe_int (fun _ _ => rfl)) pa_nil)) (pv 1)) (pg_sub (pv 0) pe_int set_list))
      (pss_one (ps_ret (pv 2))))))), def_run (N := N__law_draw) (b := b__law_draw)
    (sim_seq (by exact (sim_while FUEL (by exact (sim_and (sim_test (sim_op so_eq (sim_op so_ix sim_var sim_int) sim_int)) (sim_test (sim_op so_lt (sim_op so_ix sim_var sim_int) (sim_CB sb_len (sim_cons (sim_op so_ix sim_var sim_int) sim_nil)))))) (by exact (sim_seq (by exact (sim_setIx (sim_CB sb_abs (sim_cons (sim_op so_ix (sim_op so_ix sim_var sim_int) (sim_op so_ix sim_var sim_int)) sim_nil)) sim_var sim_int))
      (sim_setIx (sim_op so_add (sim_op so_ix sim_var sim_int) sim_int) sim_var sim_int)))))
      (sim_seq (by exact (sim_if (by exact (sim_test (sim_op so_eq (sim_op so_ix sim_var sim_int) sim_int))) (by exact (sim_seq (by exact (sim_setIx (sim_op so_add (sim_op so_ix sim_var sim_int) sim_int) sim_var sim_int))
      (sim_ret (sim_op so_mod (sim_CB sb_int (sim_cons (sim_op so_div (sim_op so_ix sim_var sim_int) sim_int) sim_nil)) sim_var)))) (by exact sim_next)))
      (sim_seq (by exact (sim_set (sim_op so_mod (sim_CB sb_int (sim_cons (sim_op so_ix sim_var sim_int) sim_nil)) sim_var)))
      (sim_seq (by exact (sim_setIx (sim_op so_div (sim_CB sb_int (sim_cons (sim_op so_ix sim_var sim_int) sim_nil)) sim_var) sim_var sim_int))
      (sim_ret sim_var))))) h⟩
theorem ok__law_pick {f : Addr} {fd : FuncData} (F : Fun K "_law_pick" "_law_pick" s__law_pick f fd) {f__law_draw : Addr} {fd__law_draw : FuncData} (C__law_draw : Callee P w K mg base 1 f__law_draw fd__law_draw "_law_draw" ["pool", "many"] (spM (M.Env.mk K ca fa none) 2 m__law_draw)) (b_len : mg "len" = none) : FnOk P w K mg base CX0 2 f fd ["pool", "things"] (spM (M.Env.mk K ca fa none) 2 m__law_pick) := by
  refine FnOk.imp (F.ok sc__law_pick (sp_len (G := (M.Env.mk K ca fa none)) (m := m__law_pick) rfl) (fun cdv A outer s H vs Q E hr h => ?_)) (fun _ _ _ _ h => h)
  have hu := hu_of hr
  exact ⟨_, (pss_one (ps_ret (pe_alt (pe_ix (x_ix (K := K) rfl) (pv 1) (pe_call C__law_draw.ok (hr.mono (by omega)) (by rfl) C__law_draw.g C__law_draw.kp C__law_draw.b .nil passT (pa_cons (pv 0) (pa_cons (pe_alt (pe_callB (x_len (K := K) rfl) (by rfl) b_len (by decide +kernel) (pa_cons (pv 1) pa_nil)) (pe_callB (call_len_str) (by rfl) b_len (by decide +kernel) (pa_cons (pv 1) pa_nil))) pa_nil))) (fun _ _ => rfl)) (pe_ix ix_str (pv 1) (pe_call C__law_draw.ok (hr.mono (by omega)) (by rfl) C__law_draw.g C__law_draw.kp C__law_draw.b .nil passT (pa_cons (pv 0) (pa_cons (pe_alt (pe_callB (x_len (K := K) rfl) (by rfl) b_len (by decide +kernel) (pa_cons (pv 1) pa_nil)) (pe_callB (call_len_str) (by rfl) b_len (by decide +kernel) (pa_cons (pv 1) pa_nil))) pa_nil))) (fun _ _ => rfl))))), def_run (N := N__law_pick) (b := b__law_pick)
    (sim_frz (sim_ret (sim_alt (sim_op so_ix sim_var (sim_call (sim_cons sim_var (sim_cons (sim_alt (sim_CB sb_len (sim_cons sim_var sim_nil)) (sim_CB sb_lenS (sim_cons sim_var sim_nil))) sim_nil)))) (sim_op so_ixS sim_var (sim_call (sim_cons sim_var (sim_cons (sim_alt (sim_CB sb_len (sim_cons sim_var sim_nil)) (sim_CB sb_lenS (sim_cons sim_var sim_nil))) sim_nil))))))) h⟩
theorem ok__law_table {f : Addr} {fd : FuncData} (F : Fun K "_law_table" "_law_table" s__law_table f fd) : FnOk P w K mg base CX0 1 f fd [] (spM (M.Env.mk K ca fa none) 0 m__law_table) := by
  refine FnOk.imp (F.ok sc__law_table (sp_len (G := (M.Env.mk K ca fa none)) (m := m__law_table) rfl) (fun cdv A outer s H vs Q E hr h => ?_)) (fun _ _ _ _ h => h)
  have hu := hu_of hr
  exact ⟨_, (pss_cons (ps_set (i := 0) sc__law_table.nd rfl (.inl rfl) (pe_lst (pa_cons (pe_tup (pa_cons pe_str (pa_cons pe_int (pa_cons pe_int pa_nil)))) (pa_cons (pe_tup (pa_cons pe_str (pa_cons pe_int (pa_cons pe_int pa_nil)))) (pa_cons (pe_tup (pa_cons pe_str (pa_cons pe_int (pa_cons pe_int pa_nil)))) (pa_cons (pe_tup (pa_cons pe_str (pa_cons pe_int (pa_cons pe_int pa_nil)))) (pa_cons (pe_tup (pa_cons pe_str (pa_cons pe_int (pa_cons pe_int pa_nil)))) (pa_cons (pe_tup (pa_cons pe_str (pa_cons pe_int (pa_cons pe_int pa_nil)))) pa_nil))))))))
      (pss_cons (ps_set (i := 0) sc__law_table.nd rfl (.inl rfl) (pe_op op_cat (pv 0) (pe_lst (pa_cons (pe_tup (pa_cons pe_str (pa_cons pe_int (pa_cons pe_int pa_nil)))) (pa_cons (pe_tup (pa_cons pe_str (pa_cons pe_int (pa_cons pe_int pa_nil)))) (pa_cons (pe_tup (pa_cons pe_str (pa_cons pe_int (pa_cons pe_int pa_nil)))) (pa_cons (pe_tup (pa_cons pe_str (pa_cons pe_int (pa_cons pe_int pa_nil)))) (pa_cons (pe_tup (pa_cons pe_str (pa_cons pe_int (pa_cons pe_int pa_nil)))) pa_nil))))))))
      (pss_cons (ps_set (i := 0) sc__law_table.nd rfl (.inl rfl) (pe_op op_cat (pv 0) (pe_lst (pa_cons (pe_tup (pa_cons pe_str (pa_cons pe_int (pa_cons pe_int pa_nil)))) (pa_cons (pe_tup (pa_cons pe_str (pa_cons pe_int (pa_cons pe_int pa_nil)))) (pa_cons (pe_tup (pa_cons pe_str (pa_cons pe_int (pa_cons pe_int pa_nil)))) (pa_cons (pe_tup (pa_cons pe_str (pa_cons pe_int (pa_cons pe_int pa_nil)))) (pa_cons (pe_tup (pa_cons pe_str (pa_cons pe_int (pa_cons pe_int pa_nil)))) pa_nil))))))))
      (pss_cons (ps_set (i := 1) sc__law_table.nd rfl (.inl rfl) (pe_lst pa_nil))
      (pss_cons (ps_for PassesOwn.never rfl (x_pil (K := K) rfl (pe_op op_cat (pv 0) (pe_lst (pa_cons (pe_tup (pa_cons pe_str (pa_cons pe_int (pa_cons pe_int pa_nil)))) (pa_cons (pe_tup (pa_cons pe_str (pa_cons pe_int (pa_cons pe_int pa_nil)))) pa_nil))))) (pg_name (i := 2) sc__law_table.nd rfl (.inl rfl)) (pss_one (ps_expr (pe_bm PySem.F.plainAttrs_list PySem.F.slot_list_append PySem.F.type_list_append mt_append (pv 1) (pa_cons (pe_tup (pa_cons (pe_ix (x_ix (K := K) rfl) (pv 2) pe_int (fun _ _ => rfl)) (pa_cons pe_str (pa_cons pe_int (pa_cons (pe_ix (x_ix (K := K) rfl) (pv 2) pe_int (fun _ _ => rfl)) (pa_cons (pe_ix (x_ix (K := K) rfl) (pv 2) pe_int (fun _ _ => rfl)) pa_nil)))))) pa_nil)))))
      (pss_cons (ps_for PassesOwn.never rfl (x_pil (K := K) rfl (pe_lst (pa_cons (pe_tup (pa_cons pe_str (pa_cons pe_int pa_nil))) (pa_cons (pe_tup (pa_cons pe_str (pa_cons pe_int pa_nil))) (pa_cons (pe_tup (pa_cons pe_str (pa_cons pe_int pa_nil))) (pa_cons (pe_tup (pa_cons pe_str (pa_cons pe_int pa_nil))) (pa_cons (pe_tup (pa_cons pe_str (pa_cons pe_int pa_nil))) (pa_cons (pe_tup (pa_cons pe_str (pa_cons pe_int pa_nil))) pa_nil)))))))) (pg_name (i := 2) sc__law_table.nd rfl (.inl rfl)) (pss_one (ps_expr (pe_bm PySem.F.plainAttrs_list PySem.F.slot_list_append PySem.F.type_list_append mt_append (pv 1) (pa_cons (pe_tup (pa_cons (pe_ix (x_ix (K := K) rfl) (pv 2) pe_int (fun _ _ => rfl)) (pa_cons pe_str (pa_cons pe_int (pa_cons (pe_ix (x_ix (K := K) rfl) (pv 2) pe_int (fun _ _ => rfl)) (pa_cons pe_int pa_nil)))))) pa_nil)))))
      (pss_cons (ps_for PassesOwn.never rfl (x_pil (K := K) rfl (pe_lst (pa_cons (pe_tup (pa_cons pe_str (pa_cons pe_int (pa_cons pe_int pa_nil)))) (pa_cons (pe_tup (pa_cons pe_str (pa_cons pe_int (pa_cons pe_int pa_nil)))) (pa_cons (pe_tup (pa_cons pe_str (pa_cons pe_int (pa_cons pe_int pa_nil)))) pa_nil))))) (pg_name (i := 2) sc__law_table.nd rfl (.inl rfl)) (pss_one (ps_expr (pe_bm PySem.F.plainAttrs_list PySem.F.slot_list_append PySem.F.type_list_append mt_append (pv 1) (pa_cons (pe_tup (pa_cons (pe_ix (x_ix (K := K) rfl) (pv 2) pe_int (fun _ _ => rfl)) (pa_cons pe_str (pa_cons pe_int (pa_cons (pe_ix (x_ix (K := K) rfl) (pv 2) pe_int (fun _ _ => rfl)) (pa_cons (pe_ix (x_ix (K := K) rfl) (pv 2) pe_int (fun _ _ => rfl)) pa_nil)))))) pa_nil)))))
      (pss_cons (ps_set (i := 1) sc__law_table.nd rfl (.inl rfl) (pe_op op_cat (pv 1) (pe_lst (pa_cons (pe_tup (pa_cons pe_str (pa_cons pe_str (pa_cons pe_int (pa_cons pe_int (pa_cons pe_int pa_nil)))))) (pa_cons (pe_tup (pa_cons pe_str (pa_cons pe_str (pa_cons pe_int (pa_cons pe_int (pa_cons pe_int pa_nil)))))) (pa_cons (pe_tup (pa_cons pe_str (pa_cons pe_str (pa_cons pe_int (pa_cons pe_int (pa_cons pe_int pa_nil)))))) pa_nil))))))
      (pss_cons (ps_for PassesOwn.never rfl (x_pil (K := K) rfl (pe_lst (pa_cons (pe_tup (pa_cons pe_str (pa_cons pe_int pa_nil))) (pa_cons (pe_tup (pa_cons pe_str (pa_cons pe_int pa_nil))) (pa_cons (pe_tup (pa_cons pe_str (pa_cons pe_int pa_nil))) (pa_cons (pe_tup (pa_cons pe_str (pa_cons pe_int pa_nil))) (pa_cons (pe_tup (pa_cons pe_str (pa_cons pe_int pa_nil))) (pa_cons (pe_tup (pa_cons pe_str (pa_cons pe_int pa_nil))) pa_nil)))))))) (pg_name (i := 2) sc__law_table.nd rfl (.inl rfl)) (pss_one (ps_expr (pe_bm PySem.F.plainAttrs_list PySem.F.slot_list_append PySem.F.type_list_append mt_append (pv 1) (pa_cons (pe_tup (pa_cons (pe_ix (x_ix (K := K) rfl) (pv 2) pe_int (fun _ _ => rfl)) (pa_cons pe_str (pa_cons pe_int (pa_cons (pe_ix (x_ix (K := K) rfl) (pv 2) pe_int (fun _ _ => rfl)) (pa_cons pe_int pa_nil)))))) pa_nil)))))
      (pss_cons (ps_set (i := 1) sc__law_table.nd rfl (.inl rfl) (pe_op op_cat (pv 1) (pe_lst (pa_cons (pe_tup (pa_cons pe_str (pa_cons pe_str (pa_cons pe_int (pa_cons pe_int (pa_cons pe_int pa_nil)))))) (pa_cons (pe_tup (pa_cons pe_str (pa_cons pe_str (pa_cons pe_int (pa_cons pe_int (pa_cons pe_int pa_nil)))))) pa_nil)))))
      (pss_cons (ps_set (i := 1) sc__law_table.nd rfl (.inl rfl) (pe_op op_cat (pv 1) (pe_lst (pa_cons (pe_tup (pa_cons pe_str (pa_cons pe_str (pa_cons pe_int (pa_cons pe_int (pa_cons pe_int pa_nil)))))) (pa_cons (pe_tup (pa_cons pe_str (pa_cons pe_str (pa_cons pe_int (pa_cons pe_int (pa_cons pe_int pa_nil)))))) pa_nil)))))
      (pss_one (ps_ret (pe_op op_cat (pv 1) (pe_lst (pa_cons (pe_tup (pa_cons pe_str (pa_cons pe_str (pa_cons pe_int (pa_cons pe_int (pa_cons pe_int pa_nil)))))) pa_nil)))))))))))))))), def_run (N := N__law_table) (b := b__law_table)
    (sim_seq (by exact (sim_set (sim_lst (sim_cons (sim_tup (sim_cons sim_str (sim_cons sim_int (sim_cons sim_int sim_nil)))) (sim_cons (sim_tup (sim_cons sim_str (sim_cons sim_int (sim_cons sim_int sim_nil)))) (sim_cons (sim_tup (sim_cons sim_str (sim_cons sim_int (sim_cons sim_int sim_nil)))) (sim_cons (sim_tup (sim_cons sim_str (sim_cons sim_int (sim_cons sim_int sim_nil)))) (sim_cons (sim_tup (sim_cons sim_str (sim_cons sim_int (sim_cons sim_int sim_nil)))) (sim_cons (sim_tup (sim_cons sim_str (sim_cons sim_int (sim_cons sim_int sim_nil)))) sim_nil)))))))))
      (sim_seq (by exact (sim_frz (sim_set (sim_op so_cat sim_var (sim_lst (sim_cons (sim_tup (sim_cons sim_str (sim_cons sim_int (sim_cons sim_int sim_nil)))) (sim_cons (sim_tup (sim_cons sim_str (sim_cons sim_int (sim_cons sim_int sim_nil)))) (sim_cons (sim_tup (sim_cons sim_str (sim_cons sim_int (sim_cons sim_int sim_nil)))) (sim_cons (sim_tup (sim_cons sim_str (sim_cons sim_int (sim_cons sim_int sim_nil)))) (sim_cons (sim_tup (sim_cons sim_str (sim_cons sim_int (sim_cons sim_int sim_nil)))) sim_nil))))))))))
      (sim_seq (by exact (sim_frz (sim_set (sim_op so_cat sim_var (sim_lst (sim_cons (sim_tup (sim_cons sim_str (sim_cons sim_int (sim_cons sim_int sim_nil)))) (sim_cons (sim_tup (sim_cons sim_str (sim_cons sim_int (sim_cons sim_int sim_nil)))) (sim_cons (sim_tup (sim_cons sim_str (sim_cons sim_int (sim_cons sim_int sim_nil)))) (sim_cons (sim_tup (sim_cons sim_str (sim_cons sim_int (sim_cons sim_int sim_nil)))) (sim_cons (sim_tup (sim_cons sim_str (sim_cons sim_int (sim_cons sim_int sim_nil)))) sim_nil))))))))))
      (sim_seq (by exact (sim_set (sim_lstO sim_nil)))
      (sim_seq (by exact (sim_frz (sim_for (by exact (sim_iLst (sim_op so_cat sim_var (sim_lst (sim_cons (sim_tup (sim_cons sim_str (sim_cons sim_int (sim_cons sim_int sim_nil)))) (sim_cons (sim_tup (sim_cons sim_str (sim_cons sim_int (sim_cons sim_int sim_nil)))) sim_nil)))))) sim_gName (by exact (sim_drop (sim_LM sm_append sim_var (sim_cons (sim_tup (sim_cons (sim_op so_ix sim_var sim_int) (sim_cons sim_str (sim_cons sim_int (sim_cons (sim_op so_ix sim_var sim_int) (sim_cons (sim_op so_ix sim_var sim_int) sim_nil)))))) sim_nil)))))))
      (sim_seq (by exact (sim_for (by exact (sim_iLst (sim_lst (sim_cons (sim_tup (sim_cons sim_str (sim_cons sim_int sim_nil))) (sim_cons (sim_tup (sim_cons sim_str (sim_cons sim_int sim_nil))) (sim_cons (sim_tup (sim_cons sim_str (sim_cons sim_int sim_nil))) (sim_cons (sim_tup (sim_cons sim_str (sim_cons sim_int sim_nil))) (sim_cons (sim_tup (sim_cons sim_str (sim_cons sim_int sim_nil))) (sim_cons (sim_tup (sim_cons sim_str (sim_cons sim_int sim_nil))) sim_nil))))))))) sim_gName (by exact (sim_drop (sim_LM sm_append sim_var (sim_cons (sim_tup (sim_cons (sim_op so_ix sim_var sim_int) (sim_cons sim_str (sim_cons sim_int (sim_cons (sim_op so_ix sim_var sim_int) (sim_cons sim_int sim_nil)))))) sim_nil))))))
      (sim_seq (by exact (sim_for (by exact (sim_iLst (sim_lst (sim_cons (sim_tup (sim_cons sim_str (sim_cons sim_int (sim_cons sim_int sim_nil)))) (sim_cons (sim_tup (sim_cons sim_str (sim_cons sim_int (sim_cons sim_int sim_nil)))) (sim_cons (sim_tup (sim_cons sim_str (sim_cons sim_int (sim_cons sim_int sim_nil)))) sim_nil)))))) sim_gName (by exact (sim_drop (sim_LM sm_append sim_var (sim_cons (sim_tup (sim_cons (sim_op so_ix sim_var sim_int) (sim_cons sim_str (sim_cons sim_int (sim_cons (sim_op so_ix sim_var sim_int) (sim_cons (sim_op so_ix sim_var sim_int) sim_nil)))))) sim_nil))))))
      (sim_seq (by exact (sim_frz (sim_set (sim_op so_catO sim_var (sim_lst (sim_cons (sim_tup (sim_cons sim_str (sim_cons sim_str (sim_cons sim_int (sim_cons sim_int (sim_cons sim_int sim_nil)))))) (sim_cons (sim_tup (sim_cons sim_str (sim_cons sim_str (sim_cons sim_int (sim_cons sim_int (sim_cons sim_int sim_nil)))))) (sim_cons (sim_tup (sim_cons sim_str (sim_cons sim_str (sim_cons sim_int (sim_cons sim_int (sim_cons sim_int sim_nil)))))) sim_nil))))))))
      (sim_seq (by exact (sim_for (by exact (sim_iLst (sim_lst (sim_cons (sim_tup (sim_cons sim_str (sim_cons sim_int sim_nil))) (sim_cons (sim_tup (sim_cons sim_str (sim_cons sim_int sim_nil))) (sim_cons (sim_tup (sim_cons sim_str (sim_cons sim_int sim_nil))) (sim_cons (sim_tup (sim_cons sim_str (sim_cons sim_int sim_nil))) (sim_cons (sim_tup (sim_cons sim_str (sim_cons sim_int sim_nil))) (sim_cons (sim_tup (sim_cons sim_str (sim_cons sim_int sim_nil))) sim_nil))))))))) sim_gName (by exact (sim_drop (sim_LM sm_append sim_var (sim_cons (sim_tup (sim_cons (sim_op so_ix sim_var sim_int) (sim_cons sim_str (sim_cons sim_int (sim_cons (sim_op so_ix sim_var sim_int) (sim_cons sim_int sim_nil)))))) sim_nil))))))
      (sim_seq (by exact (sim_frz (sim_set (sim_op so_cat sim_var (sim_lst (sim_cons (sim_tup (sim_cons sim_str (sim_cons sim_str (sim_cons sim_int (sim_cons sim_int (sim_cons sim_int sim_nil)))))) (sim_cons (sim_tup (sim_cons sim_str (sim_cons sim_str (sim_cons sim_int (sim_cons sim_int (sim_cons sim_int sim_nil)))))) sim_nil)))))))
      (sim_seq (by exact (sim_frz (sim_set (sim_op so_cat sim_var (sim_lst (sim_cons (sim_tup (sim_cons sim_str (sim_cons sim_str (sim_cons sim_int (sim_cons sim_int (sim_cons sim_int sim_nil)))))) (sim_cons (sim_tup (sim_cons sim_str (sim_cons sim_str (sim_cons sim_int (sim_cons sim_int (sim_cons sim_int sim_nil)))))) sim_nil)))))))
      (sim_frz (sim_ret (sim_op so_cat sim_var (sim_lst (sim_cons (sim_tup (sim_cons sim_str (sim_cons sim_str (sim_cons sim_int (sim_cons sim_int (sim_cons sim_int sim_nil)))))) sim_nil)))))))))))))))) h⟩
theorem ok__law_kinds_of {f : Addr} {fd : FuncData} (F : Fun K "_law_kinds_of" "_law_kinds_of" s__law_kinds_of f fd) : FnOk P w K mg base CX0 1 f fd ["form"] (spM (M.Env.mk K ca fa none) 1 m__law_kinds_of) := by
  refine FnOk.imp (F.ok sc__law_kinds_of (sp_len (G := (M.Env.mk K ca fa none)) (m := m__law_kinds_of) rfl) (fun cdv A outer s H vs Q E hr h => ?_)) (fun _ _ _ _ h => h)
  have hu := hu_of hr
  exact ⟨_, (pss_cons (ps_if (pt_cmpR (x_eq (K := K) rfl hr.units) (pe_ix (x_ix (K := K) rfl) (pv 0) pe_int (fun _ _ => rfl)) pe_str (nomark _)) (pss_one (ps_ret (pe_lst pa_nil))) pss_nil)
      (pss_cons (ps_if (pt_cmpR (x_eq (K := K) rfl hr.units) (pe_ix (x_ix (K := K) rfl) (pv 0) pe_int (fun _ _ => rfl)) pe_str (nomark _)) (pss_one (ps_ret (pe_lst (pa_cons pe_str (pa_cons pe_str pa_nil))))) pss_nil)
      (pss_cons (ps_if (pt_cmpR (x_eq (K := K) rfl hr.units) (pe_ix (x_ix (K := K) rfl) (pv 0) pe_int (fun _ _ => rfl)) pe_str (nomark _)) (pss_one (ps_ret (pe_lst (pa_cons pe_str (pa_cons pe_str pa_nil))))) pss_nil)
      (pss_cons (ps_set (i := 1) sc__law_kinds_of.nd rfl (.inl rfl) (pe_disp (pps_cons pe_str pe_str (pps_cons pe_str pe_str (pps_cons pe_str pe_str (pps_cons pe_str pe_str pps_nil)))) (by rfl) (by rfl) (fun z => by cases z) (by decide)))
      (pss_one (ps_ret (pe_lst (pa_cons pe_str (pa_cons pe_str (pa_cons (pe_dget2 hu (pv 1) (pe_ix (x_ix (K := K) rfl) (pv 0) pe_int (fun _ _ => rfl)) pe_str ⟨by rfl, by rfl, by rfl, by rfl⟩) pa_nil)))))))))), def_run (N := N__law_kinds_of) (b := b__law_kinds_of)
    (sim_seq (by exact (sim_if (by exact (sim_test (sim_op so_eq (sim_op so_ix sim_var sim_int) sim_str))) (by exact (sim_ret (sim_lst sim_nil))) (by exact sim_next)))
      (sim_seq (by exact (sim_if (by exact (sim_test (sim_op so_eq (sim_op so_ix sim_var sim_int) sim_str))) (by exact (sim_ret (sim_lst (sim_cons sim_str (sim_cons sim_str sim_nil))))) (by exact sim_next)))
      (sim_seq (by exact (sim_if (by exact (sim_test (sim_op so_eq (sim_op so_ix sim_var sim_int) sim_str))) (by exact (sim_ret (sim_lst (sim_cons sim_str (sim_cons sim_str sim_nil))))) (by exact sim_next)))
      (sim_seq (by exact (sim_set (sim_disp (.cons sim_str sim_str (.cons sim_str sim_str (.cons sim_str sim_str (.cons sim_str sim_str .nil)))))))
      (sim_frz (sim_ret (sim_lst (sim_cons sim_str (sim_cons sim_str (sim_cons (sim_dget2 sim_var (sim_op so_ix sim_var sim_int) sim_str) sim_nil)))))))))) h⟩
theorem ok__law_range_of {f : Addr} {fd : FuncData} (F : Fun K "_law_range_of" "_law_range_of" s__law_range_of f fd) : FnOk P w K mg base CX0 1 f fd ["kind"] (spM (M.Env.mk K ca fa none) 1 m__law_range_of) := by
  refine FnOk.imp (F.ok sc__law_range_of (sp_len (G := (M.Env.mk K ca fa none)) (m := m__law_range_of) rfl) (fun cdv A outer s H vs Q E hr h => ?_)) (fun _ _ _ _ h => h)
  have hu := hu_of hr
  exact ⟨_, (pss_cons (ps_if (pt_cmpR (x_eq (K := K) rfl hr.units) (pv 0) pe_str (nomark _)) (pss_one (ps_ret (pe_tup (pa_cons (pe_un un_neg pe_int) (pa_cons pe_int (pa_cons pe_int pa_nil)))))) pss_nil)
      (pss_cons (ps_if (pt_cmpR (x_eq (K := K) rfl hr.units) (pv 0) pe_str (nomark _)) (pss_one (ps_ret (pe_tup (pa_cons pe_int (pa_cons pe_int (pa_cons pe_int pa_nil)))))) pss_nil)
      (pss_cons (ps_if (pt_cmpR (x_eq (K := K) rfl hr.units) (pv 0) pe_str (nomark _)) (pss_one (ps_ret (pe_tup (pa_cons (pe_un un_neg pe_int) (pa_cons pe_int (pa_cons pe_int pa_nil)))))) pss_nil)
      (pss_cons (ps_if (pt_cmpR (x_eq (K := K) rfl hr.units) (pv 0) pe_str (nomark _)) (pss_one (ps_ret (pe_tup (pa_cons (pe_un un_neg pe_int) (pa_cons pe_int (pa_cons pe_int pa_nil)))))) pss_nil)
      (pss_one (ps_ret (pe_tup (pa_cons pe_int (pa_cons pe_int (pa_cons pe_int pa_nil)))))))))), def_run (N := N__law_range_of) (b := b__law_range_of)
    (sim_seq (by exact (sim_if (by exact (sim_test (sim_op so_eq sim_var sim_str))) (by exact (sim_ret (sim_tup (sim_cons (sim_un so_neg sim_int) (sim_cons sim_int (sim_cons sim_int sim_nil)))))) (by exact sim_next)))
      (sim_seq (by exact (sim_if (by exact (sim_test (sim_op so_eq sim_var sim_str))) (by exact (sim_ret (sim_tup (sim_cons sim_int (sim_cons sim_int (sim_cons sim_int sim_nil)))))) (by exact sim_next)))
      (sim_seq (by exact (sim_if (by exact (sim_test (sim_op so_eq sim_var sim_str))) (by exact (sim_ret (sim_tup (sim_cons (sim_un so_neg sim_int) (sim_cons sim_int (sim_cons sim_int sim_nil)))))) (by exact sim_next)))
      (sim_seq (by exact (sim_if (by exact (sim_test (sim_op so_eq sim_var sim_str))) (by exact (sim_ret (sim_tup (sim_cons (sim_un so_neg sim_int) (sim_cons sim_int (sim_cons sim_int sim_nil)))))) (by exact sim_next)))
      (sim_ret (sim_tup (sim_cons sim_int (sim_cons sim_int (sim_cons sim_int sim_nil))))))))) h⟩
theorem ok__law_entry {f : Addr} {fd : FuncData} (F : Fun K "_law_entry" "_law_entry" s__law_entry f fd) {f__law_range_of : Addr} {fd__law_range_of : FuncData} (C__law_range_of : Callee P w K mg base 1 f__law_range_of fd__law_range_of "_law_range_of" ["kind"] (spM (M.Env.mk K ca fa none) 1 m__law_range_of)) {f__law_draw : Addr} {fd__law_draw : FuncData} (C__law_draw : Callee P w K mg base 1 f__law_draw fd__law_draw "_law_draw" ["pool", "many"] (spM (M.Env.mk K ca fa none) 2 m__law_draw)) {f__law_pick : Addr} {fd__law_pick : FuncData} (C__law_pick : Callee P w K mg base 2 f__law_pick fd__law_pick "_law_pick" ["pool", "things"] (spM (M.Env.mk K ca fa none) 2 m__law_pick)) (b_max : mg "max" = none) : FnOk P w K mg base CX0 3 f fd ["pool", "kind"] (spM (M.Env.mk K ca fa none) 2 m__law_entry) := by
  refine FnOk.imp (F.ok sc__law_entry (sp_len (G := (M.Env.mk K ca fa none)) (m := m__law_entry) rfl) (fun cdv A outer s H vs Q E hr h => ?_)) (fun _ _ _ _ h => h)
  have hu := hu_of hr
  exact ⟨_, (pss_cons (ps_asg (pe_call C__law_range_of.ok (hr.mono (by omega)) (by rfl) C__law_range_of.g C__law_range_of.kp C__law_range_of.b .nil passT (pa_cons (pv 1) pa_nil)) (pg_tup rfl (pgs_cons (pg_name (i := 2) sc__law_entry.nd rfl (.inl rfl)) (pgs_cons (pg_name (i := 3) sc__law_entry.nd rfl (.inl rfl)) (pgs_cons (pg_name (i := 4) sc__law_entry.nd rfl (.inl rfl)) pgs_nil)))))
      (pss_cons (ps_if (pt_cmpR op_gt (pe_call C__law_draw.ok (hr.mono (by omega)) (by rfl) C__law_draw.g C__law_draw.kp C__law_draw.b .nil passT (pa_cons (pv 0) (pa_cons pe_int pa_nil))) pe_int (nomark _)) (pss_cons (ps_set (i := 5) sc__law_entry.nd rfl (.inl rfl) (pe_op op_add (pe_op op_fdivW (pe_op op_sub (pv 3) (pv 2)) (pv 4)) pe_int))
      (pss_one (ps_ret (pe_op op_add (pv 2) (pe_op op_mulW (pv 4) (pe_call C__law_draw.ok (hr.mono (by omega)) (by rfl) C__law_draw.g C__law_draw.kp C__law_draw.b .nil passT (pa_cons (pv 0) (pa_cons (pv 5) pa_nil)))))))) pss_nil)
      (pss_cons (ps_set (i := 6) sc__law_entry.nd rfl (.inl rfl) (pe_lst (pa_cons (pv 2) (pa_cons (pe_op op_add (pv 2) (pv 4)) (pa_cons (pe_op op_sub (pv 3) (pv 4)) (pa_cons (pv 3) pa_nil))))))
      (pss_one (ps_ret (pe_callB (call_max2 rfl) (by rfl) b_max (by decide +kernel) (pa_cons (pv 2) (pa_cons (pe_call C__law_pick.ok (hr.mono (by omega)) (by rfl) C__law_pick.g C__law_pick.kp C__law_pick.b .nil passT (pa_cons (pv 0) (pa_cons (pe_op op_cat (pv 6) (pe_lst (pa_cons (pe_op op_sub pe_int (pv 4)) (pa_cons pe_int (pa_cons (pv 4) pa_nil))))) pa_nil))) pa_nil)))))))), def_run (N := N__law_entry) (b := b__law_entry)
    (sim_seq (by exact (sim_asg (sim_call (sim_cons sim_var sim_nil)) (sim_gTup (sim_gCons sim_gName (sim_gCons sim_gName (sim_gCons sim_gName sim_gNil))))))
      (sim_seq (by exact (sim_if (by exact (sim_test (sim_op so_gt (sim_call (sim_cons sim_var (sim_cons sim_int sim_nil))) sim_int))) (by exact (sim_seq (by exact (sim_set (sim_op so_add (sim_op so_div (sim_op so_sub sim_var sim_var) sim_var) sim_int)))
      (sim_ret (sim_op so_add sim_var (sim_op so_mul sim_var (sim_call (sim_cons sim_var (sim_cons sim_var sim_nil)))))))) (by exact sim_next)))
      (sim_seq (by exact (sim_set (sim_lst (sim_cons sim_var (sim_cons (sim_op so_add sim_var sim_var) (sim_cons (sim_op so_sub sim_var sim_var) (sim_cons sim_var sim_nil)))))))
      (sim_frz (sim_ret (sim_CB sb_max (sim_cons sim_var (sim_cons (sim_call (sim_cons sim_var (sim_cons (sim_op so_cat sim_var (sim_lst (sim_cons (sim_op so_sub sim_int sim_var) (sim_cons sim_int (sim_cons sim_var sim_nil))))) sim_nil))) sim_nil)))))))) h⟩
theorem ok__law_drawn_row {f : Addr} {fd : FuncData} (F : Fun K "_law_drawn_row" "_law_drawn_row" s__law_drawn_row f fd) {f__law_kinds_of : Addr} {fd__law_kinds_of : FuncData} (C__law_kinds_of : Callee P w K mg base 1 f__law_kinds_of fd__law_kinds_of "_law_kinds_of" ["form"] (spM (M.Env.mk K ca fa none) 1 m__law_kinds_of)) {f__law_entry : Addr} {fd__law_entry : FuncData} (C__law_entry : Callee P w K mg base 3 f__law_entry fd__law_entry "_law_entry" ["pool", "kind"] (spM (M.Env.mk K ca fa none) 2 m__law_entry)) (b_tuple : mg "tuple" = none) : FnOk P w K mg base CX0 4 f fd ["pool", "form"] (spM (M.Env.mk K ca fa none) 2 m__law_drawn_row) := by
  refine FnOk.imp (F.ok sc__law_drawn_row (sp_len (G := (M.Env.mk K ca fa none)) (m := m__law_drawn_row) rfl) (fun cdv A outer s H vs Q E hr h => ?_)) (fun _ _ _ _ h => h)
  have hu := hu_of hr
  exact ⟨_, (pss_cons (ps_set (i := 2) sc__law_drawn_row.nd rfl (.inl rfl) (pe_lst (pa_cons (pe_ix (x_ix (K := K) rfl) (pv 1) pe_int (fun _ _ => rfl)) pa_nil)))
      (pss_cons (ps_for PassesOwn.never rfl (x_pil (K := K) rfl (pe_call C__law_kinds_of.ok (hr.mono (by omega)) (by rfl) C__law_kinds_of.g C__law_kinds_of.kp C__law_kinds_of.b .nil passT (pa_cons (pv 1) pa_nil))) (pg_name (i := 3) sc__law_drawn_row.nd rfl (.inl rfl)) (pss_one (ps_expr (pe_bm PySem.F.plainAttrs_list PySem.F.slot_list_append PySem.F.type_list_append mt_append (pv 2) (pa_cons (pe_call C__law_entry.ok (hr.mono (by omega)) (by rfl) C__law_entry.g C__law_entry.kp C__law_entry.b .nil passT (pa_cons (pv 0) (pa_cons (pv 3) pa_nil))) pa_nil)))))
      (pss_one (ps_ret (pe_callTy (x_tuple (K := K) rfl) (by rfl) b_tuple (by decide +kernel) (pa_cons (pv 2) pa_nil)))))), def_run (N := N__law_drawn_row) (b := b__law_drawn_row)
    (sim_seq (by exact (sim_set (sim_lstO (sim_cons (sim_op so_ix sim_var sim_int) sim_nil))))
      (sim_seq (by exact (sim_for (by exact (sim_iLst (sim_call (sim_cons sim_var sim_nil)))) sim_gName (by exact (sim_drop (sim_LM sm_append sim_var (sim_cons (sim_call (sim_cons sim_var (sim_cons sim_var sim_nil))) sim_nil))))))
      (sim_frz (sim_ret (sim_CB sb_tuple (sim_cons sim_var sim_nil)))))) h⟩
theorem ok__law_exchanged {f : Addr} {fd : FuncData} (F : Fun K "_law_exchanged" "_law_exchanged" s__law_exchanged f fd) : FnOk P w K mg base CX0 1 f fd ["row", "k", "one"] (spM (M.Env.mk K ca fa none) 3 m__law_exchanged) := by
  refine FnOk.imp (F.ok sc__law_exchanged (sp_len (G := (M.Env.mk K ca fa none)) (m := m__law_exchanged) rfl) (fun cdv A outer s H vs Q E hr h => ?_)) (fun _ _ _ _ h => h)
  have hu := hu_of hr
  exact ⟨_, (pss_one (ps_ret (pe_op (x_catA (K := K) rfl) (pe_op (x_catA (K := K) rfl) (pe_slice (x_slT (K := K) rfl) (pv 0) po_none (po_some (pv 1))) (pe_tup (pa_cons (pv 2) pa_nil))) (pe_slice (x_slT (K := K) rfl) (pv 0) (po_some (pe_op op_add (pv 1) pe_int)) po_none)))), def_run (N := N__law_exchanged) (b := b__law_exchanged)
    (sim_ret (sim_op so_catA (sim_op so_catA (sim_sl so_slT sim_var sim_noPart (sim_part sim_var)) (sim_tup (sim_cons sim_var sim_nil))) (sim_sl so_slT sim_var (sim_part (sim_op so_add sim_var sim_int)) sim_noPart))) h⟩
theorem ok__law_spoilt {f : Addr} {fd : FuncData} (F : Fun K "_law_spoilt" "_law_spoilt" s__law_spoilt f fd) {f__law_kinds_of : Addr} {fd__law_kinds_of : FuncData} (C__law_kinds_of : Callee P w K mg base 1 f__law_kinds_of fd__law_kinds_of "_law_kinds_of" ["form"] (spM (M.Env.mk K ca fa none) 1 m__law_kinds_of)) {f__law_range_of : Addr} {fd__law_range_of : FuncData} (C__law_range_of : Callee P w K mg base 1 f__law_range_of fd__law_range_of "_law_range_of" ["kind"] (spM (M.Env.mk K ca fa none) 1 m__law_range_of)) {f__law_draw : Addr} {fd__law_draw : FuncData} (C__law_draw : Callee P w K mg base 1 f__law_draw fd__law_draw "_law_draw" ["pool", "many"] (spM (M.Env.mk K ca fa none) 2 m__law_draw)) {f__law_pick : Addr} {fd__law_pick : FuncData} (C__law_pick : Callee P w K mg base 2 f__law_pick fd__law_pick "_law_pick" ["pool", "things"] (spM (M.Env.mk K ca fa none) 2 m__law_pick)) {f__law_exchanged : Addr} {fd__law_exchanged : FuncData} (C__law_exchanged : Callee P w K mg base 1 f__law_exchanged fd__law_exchanged "_law_exchanged" ["row", "k", "one"] (spM (M.Env.mk K ca fa none) 3 m__law_exchanged)) (b_range : mg "range" = none) (b_len : mg "len" = none) : FnOk P w K mg base CX0 3 f fd ["pool", "form", "row"] (spM (M.Env.mk K ca fa none) 3 m__law_spoilt) := by
  refine FnOk.imp (F.ok sc__law_spoilt (sp_len (G := (M.Env.mk K ca fa none)) (m := m__law_spoilt) rfl) (fun cdv A outer s H vs Q E hr h => ?_)) (fun _ _ _ _ h => h)
  have hu := hu_of hr
  exact ⟨_, (pss_cons (ps_set (i := 3) sc__law_spoilt.nd rfl (.inl rfl) (pe_call C__law_kinds_of.ok (hr.mono (by omega)) (by rfl) C__law_kinds_of.g C__law_kinds_of.kp C__law_kinds_of.b .nil passT (pa_cons (pv 1) pa_nil)))
      (pss_cons (ps_for PassesOwn.never rfl (pi_range1 (by rfl) b_range (pa_cons (pe_callB (x_len (K := K) rfl) (by rfl) b_len (by decide +kernel) (pa_cons (pv 3) pa_nil)) pa_nil)) (pg_name (i := 4) sc__law_spoilt.nd rfl (.inl rfl)) (pss_cons (ps_asg (pe_call C__law_range_of.ok (hr.mono (by omega)) (by rfl) C__law_range_of.g C__law_range_of.kp C__law_range_of.b .nil passT (pa_cons (pe_ix (x_ix (K := K) rfl) (pv 3) (pv 4) (fun _ _ => rfl)) pa_nil)) (pg_tup rfl (pgs_cons (pg_name (i := 5) sc__law_spoilt.nd rfl (.inl rfl)) (pgs_cons (pg_name (i := 6) sc__law_spoilt.nd rfl (.inl rfl)) (pgs_cons (pg_name (i := 7) sc__law_spoilt.nd rfl (.inl rfl)) pgs_nil)))))
      (pss_cons (ps_set (i := 8) sc__law_spoilt.nd rfl (.inl rfl) (pe_call C__law_draw.ok (hr.mono (by omega)) (by rfl) C__law_draw.g C__law_draw.kp C__law_draw.b .nil passT (pa_cons (pv 0) (pa_cons pe_int pa_nil))))
      (pss_cons (ps_set (i := 9) sc__law_spoilt.nd rfl (.inl rfl) (pe_ix (x_ix (K := K) rfl) (pv 2) (pe_op op_add (pv 4) pe_int) (fun _ _ => rfl)))
      (pss_cons (ps_if (pt_cmpR (x_eq (K := K) rfl hr.units) (pv 8) pe_int (nomark _)) (pss_cons (ps_set (i := 10) sc__law_spoilt.nd rfl (.inl rfl) (pe_lst (pa_cons (pe_op op_sub (pv 5) (pv 7)) (pa_cons (pe_op op_sub (pv 5) pe_int) (pa_cons (pe_op op_add (pv 6) pe_int) pa_nil)))))
      (pss_one (ps_set (i := 9) sc__law_spoilt.nd rfl (.inl rfl) (pe_call C__law_pick.ok (hr.mono (by omega)) (by rfl) C__law_pick.g C__law_pick.kp C__law_pick.b .nil passT (pa_cons (pv 0) (pa_cons (pe_op op_cat (pv 10) (pe_lst (pa_cons (pe_op op_add (pv 6) (pv 7)) pa_nil))) pa_nil)))))) pss_nil)
      (pss_cons (ps_if (pt_cmpR (x_eq (K := K) rfl hr.units) (pv 8) pe_int (nomark _)) (pss_one (ps_set (i := 9) sc__law_spoilt.nd rfl (.inl rfl) (pe_op op_sub (pe_call C__law_draw.ok (hr.mono (by omega)) (by rfl) C__law_draw.g C__law_draw.kp C__law_draw.b .nil passT (pa_cons (pv 0) (pa_cons pe_int pa_nil))) pe_int))) pss_nil)
      (pss_cons (ps_if (pt_cmpR (x_eq (K := K) rfl hr.units) (pv 8) pe_int (nomark _)) (pss_one (ps_set (i := 9) sc__law_spoilt.nd rfl (.inl rfl) (pe_op op_add (pe_op op_sub (pv 5) pe_int) (pe_call C__law_draw.ok (hr.mono (by omega)) (by rfl) C__law_draw.g C__law_draw.kp C__law_draw.b .nil passT (pa_cons (pv 0) (pa_cons (pe_op op_add (pe_op op_sub (pv 6) (pv 5)) pe_int) pa_nil)))))) pss_nil)
      (pss_one (ps_set (i := 2) sc__law_spoilt.nd rfl (.inl rfl) (pe_call C__law_exchanged.ok (hr.mono (by omega)) (by rfl) C__law_exchanged.g C__law_exchanged.kp C__law_exchanged.b .nil passT (pa_cons (pv 2) (pa_cons (pe_op op_add (pv 4) pe_int) (pa_cons (pv 9) pa_nil)))))))))))))
      (pss_one (ps_ret (pv 2))))), def_run (N := N__law_spoilt) (b := b__law_spoilt)
    (sim_seq (by exact (sim_set (sim_call (sim_cons sim_var sim_nil))))
      (sim_seq (by exact (sim_frz (sim_for (by exact (sim_rng1 (sim_cons (sim_CB sb_len (sim_cons sim_var sim_nil)) sim_nil))) sim_gName (by exact (sim_seq (by exact (sim_asg (sim_call (sim_cons (sim_op so_ix sim_var sim_var) sim_nil)) (sim_gTup (sim_gCons sim_gName (sim_gCons sim_gName (sim_gCons sim_gName sim_gNil))))))
      (sim_seq (by exact (sim_set (sim_call (sim_cons sim_var (sim_cons sim_int sim_nil)))))
      (sim_seq (by exact (sim_set (sim_op so_ix sim_var (sim_op so_add sim_var sim_int))))
      (sim_seq (by exact (sim_if (by exact (sim_test (sim_op so_eq sim_var sim_int))) (by exact (sim_seq (by exact (sim_set (sim_lst (sim_cons (sim_op so_sub sim_var sim_var) (sim_cons (sim_op so_sub sim_var sim_int) (sim_cons (sim_op so_add sim_var sim_int) sim_nil))))))
      (sim_frz (sim_set (sim_call (sim_cons sim_var (sim_cons (sim_op so_cat sim_var (sim_lst (sim_cons (sim_op so_add sim_var sim_var) sim_nil))) sim_nil))))))) (by exact sim_next)))
      (sim_seq (by exact (sim_if (by exact (sim_test (sim_op so_eq sim_var sim_int))) (by exact (sim_set (sim_op so_sub (sim_call (sim_cons sim_var (sim_cons sim_int sim_nil))) sim_int))) (by exact sim_next)))
      (sim_seq (by exact (sim_if (by exact (sim_test (sim_op so_eq sim_var sim_int))) (by exact (sim_set (sim_op so_add (sim_op so_sub sim_var sim_int) (sim_call (sim_cons sim_var (sim_cons (sim_op so_add (sim_op so_sub sim_var sim_var) sim_int) sim_nil)))))) (by exact sim_next)))
      (sim_set (sim_call (sim_cons sim_var (sim_cons (sim_op so_add sim_var sim_int) (sim_cons sim_var sim_nil)))))))))))))))
      (sim_ret sim_var))) h⟩
theorem ok__law_ends {f : Addr} {fd : FuncData} (F : Fun K "_law_ends" "_law_ends" s__law_ends f fd) {f__law_kinds_of : Addr} {fd__law_kinds_of : FuncData} (C__law_kinds_of : Callee P w K mg base 1 f__law_kinds_of fd__law_kinds_of "_law_kinds_of" ["form"] (spM (M.Env.mk K ca fa none) 1 m__law_kinds_of)) {f__law_range_of : Addr} {fd__law_range_of : FuncData} (C__law_range_of : Callee P w K mg base 1 f__law_range_of fd__law_range_of "_law_range_of" ["kind"] (spM (M.Env.mk K ca fa none) 1 m__law_range_of)) {f__law_exchanged : Addr} {fd__law_exchanged : FuncData} (C__law_exchanged : Callee P w K mg base 1 f__law_exchanged fd__law_exchanged "_law_exchanged" ["row", "k", "one"] (spM (M.Env.mk K ca fa none) 3 m__law_exchanged)) (b_range : mg "range" = none) (b_len : mg "len" = none) : FnOk P w K mg base CX0 2 f fd ["form", "row"] (spM (M.Env.mk K ca fa none) 2 m__law_ends) := by
  refine FnOk.imp (F.ok sc__law_ends (sp_len (G := (M.Env.mk K ca fa none)) (m := m__law_ends) rfl) (fun cdv A outer s H vs Q E hr h => ?_)) (fun _ _ _ _ h => h)
  have hu := hu_of hr
  exact ⟨_, (pss_cons (ps_set (i := 2) sc__law_ends.nd rfl (.inl rfl) (pe_lst pa_nil))
      (pss_cons (ps_set (i := 3) sc__law_ends.nd rfl (.inl rfl) (pe_call C__law_kinds_of.ok (hr.mono (by omega)) (by rfl) C__law_kinds_of.g C__law_kinds_of.kp C__law_kinds_of.b .nil passT (pa_cons (pv 0) pa_nil)))
      (pss_cons (ps_for PassesOwn.never rfl (pi_range1 (by rfl) b_range (pa_cons (pe_callB (x_len (K := K) rfl) (by rfl) b_len (by decide +kernel) (pa_cons (pv 3) pa_nil)) pa_nil)) (pg_name (i := 4) sc__law_ends.nd rfl (.inl rfl)) (pss_cons (ps_asg (pe_call C__law_range_of.ok (hr.mono (by omega)) (by rfl) C__law_range_of.g C__law_range_of.kp C__law_range_of.b .nil passT (pa_cons (pe_ix (x_ix (K := K) rfl) (pv 3) (pv 4) (fun _ _ => rfl)) pa_nil)) (pg_tup rfl (pgs_cons (pg_name (i := 5) sc__law_ends.nd rfl (.inl rfl)) (pgs_cons (pg_name (i := 6) sc__law_ends.nd rfl (.inl rfl)) (pgs_cons (pg_name (i := 7) sc__law_ends.nd rfl (.inl rfl)) pgs_nil)))))
      (pss_cons (ps_set (i := 8) sc__law_ends.nd rfl (.inl rfl) (pe_lst (pa_cons (pe_op op_sub (pv 5) (pv 7)) (pa_cons (pe_op op_sub (pv 5) pe_int) (pa_cons (pv 5) (pa_cons (pe_op op_add (pv 5) pe_int) pa_nil))))))
      (pss_one (ps_for PassesOwn.never rfl (x_pil (K := K) rfl (pe_op op_cat (pv 8) (pe_lst (pa_cons (pv 6) (pa_cons (pe_op op_add (pv 6) pe_int) (pa_cons (pe_op op_add (pv 6) (pv 7)) pa_nil)))))) (pg_name (i := 9) sc__law_ends.nd rfl (.inl rfl)) (pss_one (ps_expr (pe_bm PySem.F.plainAttrs_list PySem.F.slot_list_append PySem.F.type_list_append mt_append (pv 2) (pa_cons (pe_call C__law_exchanged.ok (hr.mono (by omega)) (by rfl) C__law_exchanged.g C__law_exchanged.kp C__law_exchanged.b .nil passT (pa_cons (pv 1) (pa_cons (pe_op op_add (pv 4) pe_int) (pa_cons (pv 9) pa_nil)))) pa_nil)))))))))
      (pss_one (ps_ret (pv 2)))))), def_run (N := N__law_ends) (b := b__law_ends)
    (sim_seq (by exact (sim_set (sim_lstO sim_nil)))
      (sim_seq (by exact (sim_set (sim_call (sim_cons sim_var sim_nil))))
      (sim_seq (by exact (sim_frz (sim_for (by exact (sim_rng1 (sim_cons (sim_CB sb_len (sim_cons sim_var sim_nil)) sim_nil))) sim_gName (by exact (sim_seq (by exact (sim_asg (sim_call (sim_cons (sim_op so_ix sim_var sim_var) sim_nil)) (sim_gTup (sim_gCons sim_gName (sim_gCons sim_gName (sim_gCons sim_gName sim_gNil))))))
      (sim_seq (by exact (sim_set (sim_lst (sim_cons (sim_op so_sub sim_var sim_var) (sim_cons (sim_op so_sub sim_var sim_int) (sim_cons sim_var (sim_cons (sim_op so_add sim_var sim_int) sim_nil)))))))
      (sim_frz (sim_for (by exact (sim_iLst (sim_op so_cat sim_var (sim_lst (sim_cons sim_var (sim_cons (sim_op so_add sim_var sim_int) (sim_cons (sim_op so_add sim_var sim_var) sim_nil))))))) sim_gName (by exact (sim_drop (sim_LM sm_append sim_var (sim_cons (sim_call (sim_cons sim_var (sim_cons (sim_op so_add sim_var sim_int) (sim_cons sim_var sim_nil)))) sim_nil))))))))))))
      (sim_frz (sim_ret sim_var))))) h⟩
theorem ok__law_letters {f : Addr} {fd : FuncData} (F : Fun K "_law_letters" "_law_letters" s__law_letters f fd) {f__law_draw : Addr} {fd__law_draw : FuncData} (C__law_draw : Callee P w K mg base 1 f__law_draw fd__law_draw "_law_draw" ["pool", "many"] (spM (M.Env.mk K ca fa none) 2 m__law_draw)) {f__law_pick : Addr} {fd__law_pick : FuncData} (C__law_pick : Callee P w K mg base 2 f__law_pick fd__law_pick "_law_pick" ["pool", "things"] (spM (M.Env.mk K ca fa none) 2 m__law_pick)) (b_range : mg "range" = none) : FnOk P w K mg base CX0 3 f fd ["pool"] (spM (M.Env.mk K ca fa none) 1 m__law_letters) := by
  refine FnOk.imp (F.ok sc__law_letters (sp_len (G := (M.Env.mk K ca fa none)) (m := m__law_letters) rfl) (fun cdv A outer s H vs Q E hr h => ?_)) (fun _ _ _ _ h => h)
  have hu := hu_of hr
  exact ⟨_, (pss_cons (ps_set (i := 1) sc__law_letters.nd rfl (.inl rfl) pe_str)
      (pss_cons (ps_for PassesOwn.never rfl (pi_range1 (by rfl) b_range (pa_cons (pe_op op_add pe_int (pe_call C__law_draw.ok (hr.mono (by omega)) (by rfl) C__law_draw.g C__law_draw.kp C__law_draw.b .nil passT (pa_cons (pv 0) (pa_cons pe_int pa_nil)))) pa_nil)) (pg_name (i := 2) sc__law_letters.nd rfl (.inl rfl)) (pss_one (ps_set (i := 1) sc__law_letters.nd rfl (.inl rfl) (pe_op op_add_str (pv 1) (pe_call C__law_pick.ok (hr.mono (by omega)) (by rfl) C__law_pick.g C__law_pick.kp C__law_pick.b .nil passT (pa_cons (pv 0) (pa_cons pe_str pa_nil)))))))
      (pss_one (ps_ret (pv 1))))), def_run (N := N__law_letters) (b := b__law_letters)
    (sim_seq (by exact (sim_set sim_str))
      (sim_seq (by exact (sim_for (by exact (sim_rng1 (sim_cons (sim_op so_add sim_int (sim_call (sim_cons sim_var (sim_cons sim_int sim_nil)))) sim_nil))) sim_gName (by exact (sim_set (sim_op so_addS sim_var (sim_call (sim_cons sim_var (sim_cons sim_str sim_nil))))))))
      (sim_ret sim_var))) h⟩
theorem ok__law_heads {f : Addr} {fd : FuncData} (F : Fun K "_law_heads" "_law_heads" s__law_heads f fd) {f__law_pick : Addr} {fd__law_pick : FuncData} (C__law_pick : Callee P w K mg base 2 f__law_pick fd__law_pick "_law_pick" ["pool", "things"] (spM (M.Env.mk K ca fa none) 2 m__law_pick)) {f__law_table : Addr} {fd__law_table : FuncData} (C__law_table : Callee P w K mg base 1 f__law_table fd__law_table "_law_table" [] (spM (M.Env.mk K ca fa none) 0 m__law_table)) {f__law_letters : Addr} {fd__law_letters : FuncData} (C__law_letters : Callee P w K mg base 3 f__law_letters fd__law_letters "_law_letters" ["pool"] (spM (M.Env.mk K ca fa none) 1 m__law_letters)) : FnOk P w K mg base CX0 4 f fd ["pool", "first"] (spM (M.Env.mk K ca fa none) 2 m__law_heads) := by
  refine FnOk.imp (F.ok sc__law_heads (sp_len (G := (M.Env.mk K ca fa none)) (m := m__law_heads) rfl) (fun cdv A outer s H vs Q E hr h => ?_)) (fun _ _ _ _ h => h)
  have hu := hu_of hr
  exact ⟨_, (pss_cons (ps_set (i := 2) sc__law_heads.nd rfl (.inl rfl) (pe_lst (pa_cons pe_str (pa_cons pe_str (pa_cons pe_str (pa_cons pe_str (pa_cons pe_str (pa_cons pe_str (pa_cons pe_str (pa_cons pe_str (pa_cons pe_str (pa_cons pe_str pa_nil))))))))))))
      (pss_cons (ps_set (i := 2) sc__law_heads.nd rfl (.inl rfl) (pe_op op_cat (pv 2) (pe_lst (pa_cons pe_str (pa_cons pe_str (pa_cons pe_str (pa_cons pe_str (pa_cons pe_str (pa_cons pe_str (pa_cons pe_str (pa_cons pe_str pa_nil)))))))))))
      (pss_cons (ps_set (i := 3) sc__law_heads.nd rfl (.inl rfl) (pe_lst (pa_cons (pe_ix (x_ix (K := K) rfl) (pe_call C__law_pick.ok (hr.mono (by omega)) (by rfl) C__law_pick.g C__law_pick.kp C__law_pick.b .nil passT (pa_cons (pv 0) (pa_cons (pe_call0 C__law_table.ok (hr.mono (by omega)) (by rfl) C__law_table.g C__law_table.kp C__law_table.b .nil passT) pa_nil))) pe_int (fun _ _ => rfl)) (pa_cons (pe_call C__law_pick.ok (hr.mono (by omega)) (by rfl) C__law_pick.g C__law_pick.kp C__law_pick.b .nil passT (pa_cons (pv 0) (pa_cons (pv 2) pa_nil))) pa_nil))))
      (pss_cons (ps_set (i := 3) sc__law_heads.nd rfl (.inl rfl) (pe_op op_cat (pv 3) (pe_lst (pa_cons (pe_call C__law_letters.ok (hr.mono (by omega)) (by rfl) C__law_letters.g C__law_letters.kp C__law_letters.b .nil passT (pa_cons (pv 0) pa_nil)) (pa_cons (pe_op op_add_str (pv 1) pe_str) (pa_cons (pe_op op_add_str (pv 1) pe_str) pa_nil))))))
      (pss_one (ps_ret (pe_op op_cat (pv 3) (pe_lst (pa_cons (pe_op op_add_str pe_str (pv 1)) (pa_cons (pe_upper (pv 1)) (pa_cons (pe_slice sl_str (pv 1) po_none (po_some (pe_un un_neg pe_int))) (pa_cons pe_str pa_nil)))))))))))), def_run (N := N__law_heads) (b := b__law_heads)
    (sim_seq (by exact (sim_set (sim_lst (sim_cons sim_str (sim_cons sim_str (sim_cons sim_str (sim_cons sim_str (sim_cons sim_str (sim_cons sim_str (sim_cons sim_str (sim_cons sim_str (sim_cons sim_str (sim_cons sim_str sim_nil)))))))))))))
      (sim_seq (by exact (sim_frz (sim_set (sim_op so_cat sim_var (sim_lst (sim_cons sim_str (sim_cons sim_str (sim_cons sim_str (sim_cons sim_str (sim_cons sim_str (sim_cons sim_str (sim_cons sim_str (sim_cons sim_str sim_nil)))))))))))))
      (sim_seq (by exact (sim_frz (sim_set (sim_lst (sim_cons (sim_op so_ix (sim_call (sim_cons sim_var (sim_cons (sim_call sim_nil) sim_nil))) sim_int) (sim_cons (sim_call (sim_cons sim_var (sim_cons sim_var sim_nil))) sim_nil))))))
      (sim_seq (by exact (sim_frz (sim_set (sim_op so_cat sim_var (sim_lst (sim_cons (sim_call (sim_cons sim_var sim_nil)) (sim_cons (sim_op so_addS sim_var sim_str) (sim_cons (sim_op so_addS sim_var sim_str) sim_nil))))))))
      (sim_frz (sim_ret (sim_op so_cat sim_var (sim_lst (sim_cons (sim_op so_addS sim_str sim_var) (sim_cons (sim_M0 sr_upper sim_var) (sim_cons (sim_sl so_slS sim_var sim_noPart (sim_part (sim_un so_neg sim_int))) (sim_cons sim_str sim_nil)))))))))))) h⟩
theorem ok__law_kin {f : Addr} {fd : FuncData} (F : Fun K "_law_kin" "_law_kin" s__law_kin f fd) {f__law_draw : Addr} {fd__law_draw : FuncData} (C__law_draw : Callee P w K mg base 1 f__law_draw fd__law_draw "_law_draw" ["pool", "many"] (spM (M.Env.mk K ca fa none) 2 m__law_draw)) {f__law_heads : Addr} {fd__law_heads : FuncData} (C__law_heads : Callee P w K mg base 4 f__law_heads fd__law_heads "_law_heads" ["pool", "first"] (spM (M.Env.mk K ca fa none) 2 m__law_heads)) {f__law_exchanged : Addr} {fd__law_exchanged : FuncData} (C__law_exchanged : Callee P w K mg base 1 f__law_exchanged fd__law_exchanged "_law_exchanged" ["row", "k", "one"] (spM (M.Env.mk K ca fa none) 3 m__law_exchanged)) (b_len : mg "len" = none) (b_max : mg "max" = none) : FnOk P w K mg base CX0 5 f fd ["pool", "row"] (spM (M.Env.mk K ca fa none) 2 m__law_kin) := by
  refine FnOk.imp (F.ok sc__law_kin (sp_len (G := (M.Env.mk K ca fa none)) (m := m__law_kin) rfl) (fun cdv A outer s H vs Q E hr h => ?_)) (fun _ _ _ _ h => h)
  have hu := hu_of hr
  exact ⟨_, (pss_cons (ps_set (i := 2) sc__law_kin.nd rfl (.inl rfl) (pe_op (x_catA (K := K) rfl) (pv 1) (pe_tup (pa_cons (pe_op op_sub (pe_call C__law_draw.ok (hr.mono (by omega)) (by rfl) C__law_draw.g C__law_draw.kp C__law_draw.b .nil passT (pa_cons (pv 0) (pa_cons pe_int pa_nil))) pe_int) pa_nil))))
      (pss_cons (ps_set (i := 3) sc__law_kin.nd rfl (.inl rfl) (pe_lst (pa_cons (pv 2) (pa_cons (pe_op (x_catA (K := K) rfl) (pv 2) (pe_tup (pa_cons pe_int pa_nil))) (pa_cons (pe_slice (x_slT (K := K) rfl) (pv 1) po_none (po_some pe_int)) (pa_cons (pe_slice (x_slT (K := K) rfl) (pv 1) po_none (po_some (pe_callB (call_max2 rfl) (by rfl) b_max (by decide +kernel) (pa_cons pe_int (pa_cons (pe_op op_sub (pe_callB (x_len (K := K) rfl) (by rfl) b_len (by decide +kernel) (pa_cons (pv 1) pa_nil)) pe_int) pa_nil))))) pa_nil))))))
      (pss_cons (ps_for PassesOwn.never rfl (x_pil (K := K) rfl (pe_call C__law_heads.ok (hr.mono (by omega)) (by rfl) C__law_heads.g C__law_heads.kp C__law_heads.b .nil passT (pa_cons (pv 0) (pa_cons (pe_ix (x_ix (K := K) rfl) (pv 1) pe_int (fun _ _ => rfl)) pa_nil)))) (pg_name (i := 4) sc__law_kin.nd rfl (.inl rfl)) (pss_one (ps_expr (pe_bm PySem.F.plainAttrs_list PySem.F.slot_list_append PySem.F.type_list_append mt_append (pv 3) (pa_cons (pe_call C__law_exchanged.ok (hr.mono (by omega)) (by rfl) C__law_exchanged.g C__law_exchanged.kp C__law_exchanged.b .nil passT (pa_cons (pv 1) (pa_cons pe_int (pa_cons (pv 4) pa_nil)))) pa_nil)))))
      (pss_one (ps_ret (pv 3)))))), def_run (N := N__law_kin) (b := b__law_kin)
    (sim_seq (by exact (sim_set (sim_op so_catA sim_var (sim_tup (sim_cons (sim_op so_sub (sim_call (sim_cons sim_var (sim_cons sim_int sim_nil))) sim_int) sim_nil)))))
      (sim_seq (by exact (sim_set (sim_lstO (sim_cons sim_var (sim_cons (sim_op so_catA sim_var (sim_tup (sim_cons sim_int sim_nil))) (sim_cons (sim_sl so_slT sim_var sim_noPart (sim_part sim_int)) (sim_cons (sim_sl so_slT sim_var sim_noPart (sim_part (sim_CB sb_max (sim_cons sim_int (sim_cons (sim_op so_sub (sim_CB sb_len (sim_cons sim_var sim_nil)) sim_int) sim_nil))))) sim_nil)))))))
      (sim_seq (by exact (sim_for (by exact (sim_iLst (sim_call (sim_cons sim_var (sim_cons (sim_op so_ix sim_var sim_int) sim_nil))))) sim_gName (by exact (sim_drop (sim_LM sm_append sim_var (sim_cons (sim_call (sim_cons sim_var (sim_cons sim_int (sim_cons sim_var sim_nil)))) sim_nil))))))
      (sim_frz (sim_ret sim_var))))) h⟩
theorem ok__law_form_of {f : Addr} {fd : FuncData} (F : Fun K "_law_form_of" "_law_form_of" s__law_form_of f fd) {f__law_table : Addr} {fd__law_table : FuncData} (C__law_table : Callee P w K mg base 1 f__law_table fd__law_table "_law_table" [] (spM (M.Env.mk K ca fa none) 0 m__law_table)) : FnOk P w K mg base CX0 2 f fd ["first"] (spM (M.Env.mk K ca fa none) 1 m__law_form_of) := by
  refine FnOk.imp (F.ok sc__law_form_of (sp_len (G := (M.Env.mk K ca fa none)) (m := m__law_form_of) rfl) (fun cdv A outer s H vs Q E hr h => ?_)) (fun _ _ _ _ h => h)
  have hu := hu_of hr
  exact ⟨_, (pss_cons (ps_for PassesOwn.never rfl (x_pil (K := K) rfl (pe_call0 C__law_table.ok (hr.mono (by omega)) (by rfl) C__law_table.g C__law_table.kp C__law_table.b .nil passT)) (pg_name (i := 1) sc__law_form_of.nd rfl (.inl rfl)) (pss_one (ps_if (pt_cmpR (x_eq (K := K) rfl hr.units) (pe_ix (x_ix (K := K) rfl) (pv 1) pe_int (fun _ _ => rfl)) (pv 0) (nomark _)) (pss_one (ps_ret (pv 1))) pss_nil)))
      (pss_one (ps_ret pe_non))), def_run (N := N__law_form_of) (b := b__law_form_of)
    (sim_seq (by exact (sim_for (by exact (sim_iLst (sim_call sim_nil))) sim_gName (by exact (sim_if (by exact (sim_test (sim_op so_eq (sim_op so_ix sim_var sim_int) sim_var))) (by exact (sim_ret sim_var)) (by exact sim_next)))))
      (sim_ret sim_non)) h⟩
theorem ok__law_fault {f : Addr} {fd : FuncData} (F : Fun K "_law_fault" "_law_fault" s__law_fault f fd) (nonfa : ∀ a, fa a ≠ .non) {f__law_form_of : Addr} {fd__law_form_of : FuncData} (C__law_form_of : Callee P w K mg base 2 f__law_form_of fd__law_form_of "_law_form_of" ["first"] (spM (M.Env.mk K ca fa none) 1 m__law_form_of)) {f__law_kinds_of : Addr} {fd__law_kinds_of : FuncData} (C__law_kinds_of : Callee P w K mg base 1 f__law_kinds_of fd__law_kinds_of "_law_kinds_of" ["form"] (spM (M.Env.mk K ca fa none) 1 m__law_kinds_of)) {f__law_range_of : Addr} {fd__law_range_of : FuncData} (C__law_range_of : Callee P w K mg base 1 f__law_range_of fd__law_range_of "_law_range_of" ["kind"] (spM (M.Env.mk K ca fa none) 1 m__law_range_of)) (b_len : mg "len" = none) (b_range : mg "range" = none) (b_int : mg "int" = none) : FnOk P w K mg base CX0 3 f fd ["row"] (spM (M.Env.mk K ca fa none) 1 m__law_fault) := by
  refine FnOk.imp (F.ok sc__law_fault (sp_len (G := (M.Env.mk K ca fa none)) (m := m__law_fault) rfl) (fun cdv A outer s H vs Q E hr h => ?_)) (fun _ _ _ _ h => h)
  have hu := hu_of hr
  exact ⟨_, (pss_cons (ps_set (i := 1) sc__law_fault.nd rfl (.inl rfl) (pe_call C__law_form_of.ok (hr.mono (by omega)) (by rfl) C__law_form_of.g C__law_form_of.kp C__law_form_of.b .nil passT (pa_cons (pe_ix (x_ix (K := K) rfl) (pv 0) pe_int (fun _ _ => rfl)) pa_nil)))
      (pss_cons (ps_if (pt_cmp (pc_isN (pv 1))) (pss_one (ps_ret pe_int)) pss_nil)
      (pss_cons (ps_set (i := 2) sc__law_fault.nd rfl (.inl rfl) (pe_call C__law_kinds_of.ok (hr.mono (by omega)) (by rfl) C__law_kinds_of.g C__law_kinds_of.kp C__law_kinds_of.b .nil passT (pa_cons (pv 1) pa_nil)))
      (pss_cons (ps_if (pt_cmpR (x_ne (K := K) rfl hr.units) (pe_callB (x_len (K := K) rfl) (by rfl) b_len (by decide +kernel) (pa_cons (pv 2) pa_nil)) (pe_op op_sub (pe_callB (x_len (K := K) rfl) (by rfl) b_len (by decide +kernel) (pa_cons (pv 0) pa_nil)) pe_int) (nomark _)) (pss_one (ps_ret pe_int)) pss_nil)
      (pss_cons (ps_for PassesOwn.never rfl (pi_range1 (by rfl) b_range (pa_cons (pe_callB (x_len (K := K) rfl) (by rfl) b_len (by decide +kernel) (pa_cons (pv 2) pa_nil)) pa_nil)) (pg_name (i := 3) sc__law_fault.nd rfl (.inl rfl)) (pss_cons (ps_asg (pe_call C__law_range_of.ok (hr.mono (by omega)) (by rfl) C__law_range_of.g C__law_range_of.kp C__law_range_of.b .nil passT (pa_cons (pe_ix (x_ix (K := K) rfl) (pv 2) (pv 3) (fun _ _ => rfl)) pa_nil)) (pg_tup rfl (pgs_cons (pg_name (i := 4) sc__law_fault.nd rfl (.inl rfl)) (pgs_cons (pg_name (i := 5) sc__law_fault.nd rfl (.inl rfl)) (pgs_cons (pg_name (i := 6) sc__law_fault.nd rfl (.inl rfl)) pgs_nil)))))
      (pss_cons (ps_set (i := 7) sc__law_fault.nd rfl (.inl rfl) (pe_ix (x_ix (K := K) rfl) (pv 0) (pe_op op_add (pv 3) pe_int) (fun _ _ => rfl)))
      (pss_one (ps_if (PW.pt (pw_or (pt_not (pt_chain op_le op_le (pv 4) (pv 7) (pv 5))) (pw_or1 (pt_cmpR (x_ne (K := K) rfl hr.units) (pe_op op_mod (pe_callTy (call_int1) (by rfl) b_int (by decide +kernel) (pa_cons (pe_op op_sub (pv 7) (pv 4)) pa_nil)) (pv 6)) pe_int (nomark _))))) (pss_one (ps_ret (pe_op op_add (pv 3) pe_int))) pss_nil)))))
      (pss_one (ps_ret pe_non))))))), def_run (N := N__law_fault) (b := b__law_fault)
    (sim_seq (by exact (sim_set (sim_call (sim_cons (sim_op so_ix sim_var sim_int) sim_nil))))
      (sim_seq (by exact (sim_if (by exact (sim_B (sim_isN nonfa sim_var))) (by exact (sim_ret sim_int)) (by exact sim_next)))
      (sim_seq (by exact (sim_set (sim_call (sim_cons sim_var sim_nil))))
      (sim_seq (by exact (sim_frz (sim_if (by exact (sim_test (sim_op so_ne (sim_CB sb_len (sim_cons sim_var sim_nil)) (sim_op so_sub (sim_CB sb_len (sim_cons sim_var sim_nil)) sim_int)))) (by exact (sim_ret sim_int)) (by exact sim_next))))
      (sim_seq (by exact (sim_for (by exact (sim_rng1 (sim_cons (sim_CB sb_len (sim_cons sim_var sim_nil)) sim_nil))) sim_gName (by exact (sim_seq (by exact (sim_asg (sim_call (sim_cons (sim_op so_ix sim_var sim_var) sim_nil)) (sim_gTup (sim_gCons sim_gName (sim_gCons sim_gName (sim_gCons sim_gName sim_gNil))))))
      (sim_seq (by exact (sim_set (sim_op so_ix sim_var (sim_op so_add sim_var sim_int))))
      (sim_if (by exact (sim_or (sim_not (sim_test (sim_chain so_le so_le sim_var sim_var sim_var))) (sim_test (sim_op so_ne (sim_op so_mod (sim_CB sb_int (sim_cons (sim_op so_sub sim_var sim_var) sim_nil)) sim_var) sim_int)))) (by exact (sim_ret (sim_op so_add sim_var sim_int))) (by exact sim_next)))))))
      (sim_ret sim_non)))))) h⟩
theorem ok_fields_of {f : Addr} {fd : FuncData} (F : Fun K "fields_of" "fields_of" s_fields_of f fd) {d_FORMS : Addr} {es_FORMS : Array DictEntry} {n_FORMS : Nat} (D_FORMS : KDict K w d_FORMS es_FORMS n_FORMS) (g_FORMS : mg "FORMS" = some (.ref d_FORMS)) (hf_FORMS : fa "FORMS" = .ref d_FORMS) (kr_FORMS : KRows (M.Env.mk K ca fa none) d_FORMS rows_FORMS) {d_ROWS : Addr} {es_ROWS : Array DictEntry} {n_ROWS : Nat} (D_ROWS : KDict K w d_ROWS es_ROWS n_ROWS) (g_ROWS : mg "ROWS" = some (.ref d_ROWS)) (hf_ROWS : fa "ROWS" = .ref d_ROWS) (kr_ROWS : KRows (M.Env.mk K ca fa none) d_ROWS rows_ROWS) (ka_ROWS : KAll (M.Env.mk K ca fa none) d_ROWS all_ROWS) (kf_ROWS : KFull (M.Env.mk K ca fa none) d_ROWS all_ROWS) : FnOk P w K mg base CX0 1 f fd ["name"] (spM (M.Env.mk K ca fa none) 1 m_fields_of) := by
  refine FnOk.imp (F.ok sc_fields_of (sp_len (G := (M.Env.mk K ca fa none)) (m := m_fields_of) rfl) (fun cdv A outer s H vs Q E hr h => ?_)) (fun _ _ _ _ h => h)
  have hu := hu_of hr
  exact ⟨_, (pss_one (ps_ret (pe_ix (x_kd (K := K) rfl rfl D_FORMS) (pe_glob (v := .ref d_FORMS) (by rfl) g_FORMS rfl) (pe_ix (x_ix (K := K) rfl) (pe_ix (x_kd (K := K) rfl rfl D_ROWS) (pe_glob (v := .ref d_ROWS) (by rfl) g_ROWS rfl) (pv 0) (fun _ _ => rfl)) pe_int (fun _ _ => rfl)) (fun _ _ => rfl)))), def_run (N := N_fields_of) (b := b_fields_of)
    (sim_ret (sim_op (so_kd hf_FORMS kr_FORMS) (sim_ref hf_FORMS) (sim_op so_ix (sim_op (so_kdA hf_ROWS kf_ROWS) (sim_ref hf_ROWS) sim_var) sim_int))) h⟩
theorem ok_wrong_entry {f : Addr} {fd : FuncData} (F : Fun K "wrong_entry" "wrong_entry" s_wrong_entry f fd) {d_ROWS : Addr} {es_ROWS : Array DictEntry} {n_ROWS : Nat} (D_ROWS : KDict K w d_ROWS es_ROWS n_ROWS) (g_ROWS : mg "ROWS" = some (.ref d_ROWS)) (hf_ROWS : fa "ROWS" = .ref d_ROWS) (kr_ROWS : KRows (M.Env.mk K ca fa none) d_ROWS rows_ROWS) (ka_ROWS : KAll (M.Env.mk K ca fa none) d_ROWS all_ROWS) (kf_ROWS : KFull (M.Env.mk K ca fa none) d_ROWS all_ROWS) {d_BOUNDS : Addr} {es_BOUNDS : Array DictEntry} {n_BOUNDS : Nat} (D_BOUNDS : KDict K w d_BOUNDS es_BOUNDS n_BOUNDS) (g_BOUNDS : mg "BOUNDS" = some (.ref d_BOUNDS)) (hf_BOUNDS : fa "BOUNDS" = .ref d_BOUNDS) (kr_BOUNDS : KRows (M.Env.mk K ca fa none) d_BOUNDS rows_BOUNDS) {f_fields_of : Addr} {fd_fields_of : FuncData} (C_fields_of : Callee P w K mg base 1 f_fields_of fd_fields_of "fields_of" ["name"] (spM (M.Env.mk K ca fa none) 1 m_fields_of)) (b_len : mg "len" = none) (b_enumerate : mg "enumerate" = none) : FnOk P w K mg base CX0 2 f fd ["row"] (spM (M.Env.mk K ca fa none) 1 m_wrong_entry) := by
  refine FnOk.imp (F.ok sc_wrong_entry (sp_len (G := (M.Env.mk K ca fa none)) (m := m_wrong_entry) rfl) (fun cdv A outer s H vs Q E hr h => ?_)) (fun _ _ _ _ h => h)
  have hu := hu_of hr
  exact ⟨_, (pss_cons (ps_if (PW.pt (pw_or (pt_cmpR (x_knin (K := K) rfl rfl D_ROWS) (pe_ix (x_ix (K := K) rfl) (pv 0) pe_int (fun _ _ => rfl)) (pe_glob (v := .ref d_ROWS) (by rfl) g_ROWS rfl) rfl) (pw_or1 (pt_cmpR (x_ne (K := K) rfl hr.units) (pe_callB (x_len (K := K) rfl) (by rfl) b_len (by decide +kernel) (pa_cons (pv 0) pa_nil)) (pe_op op_add (pe_callB (x_len (K := K) rfl) (by rfl) b_len (by decide +kernel) (pa_cons (pe_call C_fields_of.ok (hr.mono (by omega)) (by rfl) C_fields_of.g C_fields_of.kp C_fields_of.b .nil passT (pa_cons (pe_ix (x_ix (K := K) rfl) (pv 0) pe_int (fun _ _ => rfl)) pa_nil)) pa_nil)) pe_int) (nomark _))))) (pss_one (ps_ret pe_int)) pss_nil)
      (pss_cons (ps_for PassesOwn.never rfl (ENT.pi_enumT (by rfl) b_enumerate (pa_cons (pe_call C_fields_of.ok (hr.mono (by omega)) (by rfl) C_fields_of.g C_fields_of.kp C_fields_of.b .nil passT (pa_cons (pe_ix (x_ix (K := K) rfl) (pv 0) pe_int (fun _ _ => rfl)) pa_nil)) pa_nil)) (pg_tup rfl (pgs_cons (pg_name (i := 1) sc_wrong_entry.nd rfl (.inl rfl)) (pgs_cons (pg_name (i := 2) sc_wrong_entry.nd rfl (.inl rfl)) pgs_nil))) (pss_cons (ps_asg (pe_ix (x_kd (K := K) rfl rfl D_BOUNDS) (pe_glob (v := .ref d_BOUNDS) (by rfl) g_BOUNDS rfl) (pv 2) (fun _ _ => rfl)) (pg_tup rfl (pgs_cons (pg_name (i := 3) sc_wrong_entry.nd rfl (.inl rfl)) (pgs_cons (pg_name (i := 4) sc_wrong_entry.nd rfl (.inl rfl)) (pgs_cons (pg_name (i := 5) sc_wrong_entry.nd rfl (.inl rfl)) pgs_nil)))))
      (pss_cons (ps_set (i := 6) sc_wrong_entry.nd rfl (.inl rfl) (pe_ix (x_ix (K := K) rfl) (pv 0) (pe_op op_add (pv 1) pe_int) (fun _ _ => rfl)))
      (pss_one (ps_if (PW.pt (pw_or (pt_not (pt_chain op_le op_le (pv 3) (pv 6) (pv 4))) (pw_or1 (pt_cmpR (x_ne (K := K) rfl hr.units) (pe_op op_mod (pv 6) (pv 5)) pe_int (nomark _))))) (pss_one (ps_ret (pe_op op_add (pv 1) pe_int))) pss_nil)))))
      (pss_one (ps_ret pe_non)))), def_run (N := N_wrong_entry) (b := b_wrong_entry)
    (sim_seq (by exact (sim_if (by exact (sim_or (sim_test (sim_op (so_kninA hf_ROWS kf_ROWS) (sim_op so_ix sim_var sim_int) (sim_ref hf_ROWS))) (sim_test (sim_op so_ne (sim_CB sb_len (sim_cons sim_var sim_nil)) (sim_op so_add (sim_CB sb_len (sim_cons (sim_call (sim_cons (sim_op so_ix sim_var sim_int) sim_nil)) sim_nil)) sim_int))))) (by exact (sim_ret sim_int)) (by exact sim_next)))
      (sim_seq (by exact (sim_for (by exact (sim_enumT (sim_cons (sim_call (sim_cons (sim_op so_ix sim_var sim_int) sim_nil)) sim_nil))) (sim_gTup (sim_gCons sim_gName (sim_gCons sim_gName sim_gNil))) (by exact (sim_seq (by exact (sim_asg (sim_op (so_kd hf_BOUNDS kr_BOUNDS) (sim_ref hf_BOUNDS) sim_var) (sim_gTup (sim_gCons sim_gName (sim_gCons sim_gName (sim_gCons sim_gName sim_gNil))))))
      (sim_seq (by exact (sim_set (sim_op so_ix sim_var (sim_op so_add sim_var sim_int))))
      (sim_if (by exact (sim_or (sim_not (sim_test (sim_chain so_le so_le sim_var sim_var sim_var))) (sim_test (sim_op so_ne (sim_op so_mod sim_var sim_var) sim_int)))) (by exact (sim_ret (sim_op so_add sim_var sim_int))) (by exact sim_next)))))))
      (sim_ret sim_non))) h⟩
theorem ok_BadRow___init__ {f : Addr} {fd : FuncData} (F : Fun K "__init__" "BadRow.__init__" s_BadRow___init__ f fd) : FnOk P w K mg base CX0 1 f fd ["self", "index"] (spX1 (M.Env.mk K ca fa none).K "index") := by
  refine F.ok sc_BadRow___init__ (spX1_len rfl) (fun cdv A outer s H vs Q E hr h => ?_)
  exact ⟨_, (pss_one (ps_ost (pv 0) (pv 1))), x1_run h⟩
theorem ok_with_number {f : Addr} {fd : FuncData} (F : Fun K "with_number" "with_number" s_with_number f fd) {d_BITS : Addr} {es_BITS : Array DictEntry} {n_BITS : Nat} (D_BITS : KDict K w d_BITS es_BITS n_BITS) (g_BITS : mg "BITS" = some (.ref d_BITS)) (hf_BITS : fa "BITS" = .ref d_BITS) (kr_BITS : KRows (M.Env.mk K ca fa none) d_BITS rows_BITS) : FnOk P w K mg base CX0 1 f fd ["word", "field", "number"] (spM (M.Env.mk K ca fa none) 3 m_with_number) := by
  refine FnOk.imp (F.ok sc_with_number (sp_len (G := (M.Env.mk K ca fa none)) (m := m_with_number) rfl) (fun cdv A outer s H vs Q E hr h => ?_)) (fun _ _ _ _ h => h)
  have hu := hu_of hr
  exact ⟨_, (pss_cons (ps_for PassesOwn.never rfl (x_pit (K := K) rfl (pe_ix (x_kd (K := K) rfl rfl D_BITS) (pe_glob (v := .ref d_BITS) (by rfl) g_BITS rfl) (pv 1) (fun _ _ => rfl))) (pg_tup rfl (pgs_cons (pg_name (i := 3) sc_with_number.nd rfl (.inl rfl)) (pgs_cons (pg_name (i := 4) sc_with_number.nd rfl (.inl rfl)) (pgs_cons (pg_name (i := 5) sc_with_number.nd rfl (.inl rfl)) pgs_nil)))) (pss_cons (ps_set (i := 6) sc_with_number.nd rfl (.inl rfl) (pe_op op_sub (pe_op op_shl pe_int (pv 4)) pe_int))
      (pss_one (ps_set (i := 0) sc_with_number.nd rfl (.inl rfl) (pe_op op_or (pe_op op_and (pv 0) (pe_un un_inv (pe_op op_shl (pv 6) (pv 5)))) (pe_op op_shl (pe_op op_and (pe_op op_shr (pv 2) (pv 3)) (pv 6)) (pv 5)))))))
      (pss_one (ps_ret (pv 0)))), def_run (N := N_with_number) (b := b_with_number)
    (sim_seq (by exact (sim_for (by exact (sim_iTup (sim_op (so_kd hf_BITS kr_BITS) (sim_ref hf_BITS) sim_var))) (sim_gTup (sim_gCons sim_gName (sim_gCons sim_gName (sim_gCons sim_gName sim_gNil)))) (by exact (sim_seq (by exact (sim_set (sim_op so_sub (sim_op so_shl sim_int sim_var) sim_int)))
      (sim_set (sim_op so_or (sim_op so_and sim_var (sim_un so_inv (sim_op so_shl sim_var sim_var))) (sim_op so_shl (sim_op so_and (sim_op so_shr sim_var sim_var) sim_var) sim_var)))))))
      (sim_ret sim_var)) h⟩
theorem ok_encode {f : Addr} {fd : FuncData} (F : Fun K "encode" "encode" s_encode f fd) {C_BadRow : Addr} (hc_BadRow : ca "BadRow" = C_BadRow) (g_BadRow : mg "BadRow" = some (.ref C_BadRow)) {C_RunsError : Addr} (hc_RunsError : ca "RunsError" = C_RunsError) (g_RunsError : mg "RunsError" = some (.ref C_RunsError)) (nonfa : ∀ a, fa a ≠ .non) {d_ROWS : Addr} {es_ROWS : Array DictEntry} {n_ROWS : Nat} (D_ROWS : KDict K w d_ROWS es_ROWS n_ROWS) (g_ROWS : mg "ROWS" = some (.ref d_ROWS)) (hf_ROWS : fa "ROWS" = .ref d_ROWS) (kr_ROWS : KRows (M.Env.mk K ca fa none) d_ROWS rows_ROWS) (ka_ROWS : KAll (M.Env.mk K ca fa none) d_ROWS all_ROWS) (kf_ROWS : KFull (M.Env.mk K ca fa none) d_ROWS all_ROWS) {f_wrong_entry : Addr} {fd_wrong_entry : FuncData} (C_wrong_entry : Callee P w K mg base 2 f_wrong_entry fd_wrong_entry "wrong_entry" ["row"] (spM (M.Env.mk K ca fa none) 1 m_wrong_entry)) {f_BadRow___init__ : Addr} {fd_BadRow___init__ : FuncData} (C_BadRow___init__ : CalleeM P w K mg base 1 f_BadRow___init__ fd_BadRow___init__ ["self", "index"] (spX1 (M.Env.mk K ca fa none).K "index")) {f_fields_of : Addr} {fd_fields_of : FuncData} (C_fields_of : Callee P w K mg base 1 f_fields_of fd_fields_of "fields_of" ["name"] (spM (M.Env.mk K ca fa none) 1 m_fields_of)) {f_with_number : Addr} {fd_with_number : FuncData} (C_with_number : Callee P w K mg base 1 f_with_number fd_with_number "with_number" ["word", "field", "number"] (spM (M.Env.mk K ca fa none) 3 m_with_number)) (T_BadRow : TxE K C_BadRow ["index"]) (J_BadRow : MkX K C_BadRow f_BadRow___init__) (b_zip : mg "zip" = none) : FnOk P w K mg base (L2.CX P w) 3 f fd ["row"] (spM (M.Env.mk K ca fa none) 1 m_encode) := by
  refine FnOk.imp (F.okX sc_encode (sp_len (G := (M.Env.mk K ca fa none)) (m := m_encode) rfl) (fun cdv A outer s H vs Q E hr h => ?_)) (fun _ _ _ _ h => h)
  have hu := hu_of hr
  exact ⟨_, (pss_cons (ps_set (i := 1) sc_encode.nd rfl (.inl rfl) (pe_call C_wrong_entry.ok (hr.mono (by omega)) (by rfl) C_wrong_entry.g C_wrong_entry.kp C_wrong_entry.b .nil passT (pa_cons (pv 0) pa_nil)))
      (pss_cons (ps_if (pt_cmp (pc_notN (pv 1))) (pss_one (ps_raise rfl (takes_of rfl rfl rfl rfl) (pmk_oex T_BadRow.ox J_BadRow.iC J_BadRow.tI C_BadRow___init__.ok (hr.mono (by omega)) C_BadRow___init__.b .nil pass0 (by rfl) g_BadRow (pa_cons (pv 1) pa_nil)))) pss_nil)
      (pss_cons (ps_asg (pe_ix (x_kd (K := K) rfl rfl D_ROWS) (pe_glob (v := .ref d_ROWS) (by rfl) g_ROWS rfl) (pe_ix (x_ix (K := K) rfl) (pv 0) pe_int (fun _ _ => rfl)) (fun _ _ => rfl)) (pg_tup rfl (pgs_cons (pg_name (i := 2) sc_encode.nd rfl (.inl rfl)) (pgs_cons (pg_name (i := 3) sc_encode.nd rfl (.inl rfl)) (pgs_cons (pg_name (i := 4) sc_encode.nd rfl (.inl rfl)) (pgs_cons (pg_name (i := 5) sc_encode.nd rfl (.inl rfl)) pgs_nil))))))
      (pss_cons (ps_set (i := 6) sc_encode.nd rfl (.inl rfl) (pe_op op_or (pe_op op_or (pv 3) (pe_op op_shl (pv 4) pe_int)) (pe_op op_shl (pv 5) pe_int)))
      (pss_cons (ps_for (passes_of rfl) rfl (RZ.pi_zipA (by rfl) b_zip (pa_cons (pe_call C_fields_of.ok (hr.mono (by omega)) (by rfl) C_fields_of.g C_fields_of.kp C_fields_of.b .nil passT (pa_cons (pe_ix (x_ix (K := K) rfl) (pv 0) pe_int (fun _ _ => rfl)) pa_nil)) (pa_cons (pe_slice (x_slT (K := K) rfl) (pv 0) (po_some pe_int) po_none) pa_nil))) (pg_tup rfl (pgs_cons (pg_name (i := 7) sc_encode.nd rfl (.inl rfl)) (pgs_cons (pg_name (i := 8) sc_encode.nd rfl (.inl rfl)) pgs_nil))) (pss_one (ps_set (i := 6) sc_encode.nd rfl (.inl rfl) (pe_call C_with_number.ok (hr.mono (by omega)) (by rfl) C_with_number.g C_with_number.kp C_with_number.b .nil passT (pa_cons (pv 6) (pa_cons (pv 7) (pa_cons (pv 8) pa_nil)))))))
      (pss_one (ps_ret (pv 6)))))))), def_run (N := N_encode) (b := b_encode)
    (sim_seq (by exact (sim_set (sim_call (sim_cons sim_var sim_nil))))
      (sim_seq (by exact (sim_if (by exact (sim_B (sim_notN nonfa sim_var))) (by exact (sim_raise1 hc_BadRow T_BadRow (sim_cons sim_var sim_nil))) (by exact sim_next)))
      (sim_seq (by exact (sim_asg (sim_op (so_kdA hf_ROWS kf_ROWS) (sim_ref hf_ROWS) (sim_op so_ix sim_var sim_int)) (sim_gTup (sim_gCons sim_gName (sim_gCons sim_gName (sim_gCons sim_gName (sim_gCons sim_gName sim_gNil)))))))
      (sim_seq (by exact (sim_set (sim_op so_or (sim_op so_or sim_var (sim_op so_shl sim_var sim_int)) (sim_op so_shl sim_var sim_int))))
      (sim_seq (by exact (sim_for (by exact (sim_zip (sim_cons (sim_call (sim_cons (sim_op so_ix sim_var sim_int) sim_nil)) (sim_cons (sim_sl so_slT sim_var (sim_part sim_int) sim_noPart) sim_nil)))) (sim_gTup (sim_gCons sim_gName (sim_gCons sim_gName sim_gNil))) (by exact (sim_set (sim_call (sim_cons sim_var (sim_cons sim_var (sim_cons sim_var sim_nil))))))))
      (sim_ret sim_var)))))) h⟩
theorem ok__law_asked {f : Addr} {fd : FuncData} (F : Fun K "_law_asked" "_law_asked" s__law_asked f fd) {C_BadRow : Addr} (hc_BadRow : ca "BadRow" = C_BadRow) (g_BadRow : mg "BadRow" = some (.ref C_BadRow)) {C_RunsError : Addr} (hc_RunsError : ca "RunsError" = C_RunsError) (g_RunsError : mg "RunsError" = some (.ref C_RunsError)) {C_Unlike : Addr} (hc_Unlike : ca "Unlike" = C_Unlike) (g_Unlike : mg "Unlike" = some (.ref C_Unlike)) {C_Unknown : Addr} (hc_Unknown : ca "Unknown" = C_Unknown) (g_Unknown : mg "Unknown" = some (.ref C_Unknown)) {C_Stray : Addr} (hc_Stray : ca "Stray" = C_Stray) (g_Stray : mg "Stray" = some (.ref C_Stray)) {C_BadNumber : Addr} (hc_BadNumber : ca "BadNumber" = C_BadNumber) (g_BadNumber : mg "BadNumber" = some (.ref C_BadNumber)) {C_BadLength : Addr} (hc_BadLength : ca "BadLength" = C_BadLength) (g_BadLength : mg "BadLength" = some (.ref C_BadLength)) {C_Twice : Addr} (hc_Twice : ca "Twice" = C_Twice) (g_Twice : mg "Twice" = some (.ref C_Twice)) {C_BadName : Addr} (hc_BadName : ca "BadName" = C_BadName) (g_BadName : mg "BadName" = some (.ref C_BadName)) {C_BadText : Addr} (hc_BadText : ca "BadText" = C_BadText) (g_BadText : mg "BadText" = some (.ref C_BadText)) {C_BadDepth : Addr} (hc_BadDepth : ca "BadDepth" = C_BadDepth) (g_BadDepth : mg "BadDepth" = some (.ref C_BadDepth)) {C_BadLine : Addr} (hc_BadLine : ca "BadLine" = C_BadLine) (g_BadLine : mg "BadLine" = some (.ref C_BadLine)) {C_BadSite : Addr} (hc_BadSite : ca "BadSite" = C_BadSite) (g_BadSite : mg "BadSite" = some (.ref C_BadSite)) {C_BadSpot : Addr} (hc_BadSpot : ca "BadSpot" = C_BadSpot) (g_BadSpot : mg "BadSpot" = some (.ref C_BadSpot)) {C_BadFlow : Addr} (hc_BadFlow : ca "BadFlow" = C_BadFlow) (g_BadFlow : mg "BadFlow" = some (.ref C_BadFlow)) {C_NoMain : Addr} (hc_NoMain : ca "NoMain" = C_NoMain) (g_NoMain : mg "NoMain" = some (.ref C_NoMain)) {C_Missing : Addr} (hc_Missing : ca "Missing" = C_Missing) (g_Missing : mg "Missing" = some (.ref C_Missing)) {C_NoUnit : Addr} (hc_NoUnit : ca "NoUnit" = C_NoUnit) (g_NoUnit : mg "NoUnit" = some (.ref C_NoUnit)) {C_BadFree : Addr} (hc_BadFree : ca "BadFree" = C_BadFree) (g_BadFree : mg "BadFree" = some (.ref C_BadFree)) {C_TooMany : Addr} (hc_TooMany : ca "TooMany" = C_TooMany) (g_TooMany : mg "TooMany" = some (.ref C_TooMany)) {C_BadPass : Addr} (hc_BadPass : ca "BadPass" = C_BadPass) (g_BadPass : mg "BadPass" = some (.ref C_BadPass)) {C_BadBase : Addr} (hc_BadBase : ca "BadBase" = C_BadBase) (g_BadBase : mg "BadBase" = some (.ref C_BadBase)) {f_encode : Addr} {fd_encode : FuncData} (C_encode : CalleeX P w K mg base 3 f_encode fd_encode "encode" ["row"] (spM (M.Env.mk K ca fa none) 1 m_encode)) (exm_BadRow_BadRow : PySem.W.exmOne K (.ref C_BadRow) (.ref C_BadRow) = some true) (T_BadRow : TxE K C_BadRow ["index"]) (kit_BadRow_Unlike : PySem.W.kitOne K (.ref C_BadRow) (.ref C_Unlike) = some false) (kit_BadRow_Unknown : PySem.W.kitOne K (.ref C_BadRow) (.ref C_Unknown) = some false) (kit_BadRow_Stray : PySem.W.kitOne K (.ref C_BadRow) (.ref C_Stray) = some false) (kit_BadRow_BadNumber : PySem.W.kitOne K (.ref C_BadRow) (.ref C_BadNumber) = some false) (kit_BadRow_BadLength : PySem.W.kitOne K (.ref C_BadRow) (.ref C_BadLength) = some false) (kit_BadRow_Twice : PySem.W.kitOne K (.ref C_BadRow) (.ref C_Twice) = some false) (kit_BadRow_BadName : PySem.W.kitOne K (.ref C_BadRow) (.ref C_BadName) = some false) (kit_BadRow_BadText : PySem.W.kitOne K (.ref C_BadRow) (.ref C_BadText) = some false) (kit_BadRow_BadDepth : PySem.W.kitOne K (.ref C_BadRow) (.ref C_BadDepth) = some false) (kit_BadRow_BadLine : PySem.W.kitOne K (.ref C_BadRow) (.ref C_BadLine) = some false) (kit_BadRow_BadSite : PySem.W.kitOne K (.ref C_BadRow) (.ref C_BadSite) = some false) (kit_BadRow_BadSpot : PySem.W.kitOne K (.ref C_BadRow) (.ref C_BadSpot) = some false) (kit_BadRow_BadFlow : PySem.W.kitOne K (.ref C_BadRow) (.ref C_BadFlow) = some false) (kit_BadRow_NoMain : PySem.W.kitOne K (.ref C_BadRow) (.ref C_NoMain) = some false) (kit_BadRow_Missing : PySem.W.kitOne K (.ref C_BadRow) (.ref C_Missing) = some false) (kit_BadRow_NoUnit : PySem.W.kitOne K (.ref C_BadRow) (.ref C_NoUnit) = some false) (kit_BadRow_BadFree : PySem.W.kitOne K (.ref C_BadRow) (.ref C_BadFree) = some false) (kit_BadRow_TooMany : PySem.W.kitOne K (.ref C_BadRow) (.ref C_TooMany) = some false) (kit_BadRow_BadPass : PySem.W.kitOne K (.ref C_BadRow) (.ref C_BadPass) = some false) (kit_BadRow_BadBase : PySem.W.kitOne K (.ref C_BadRow) (.ref C_BadBase) = some false) (kit_BadRow_RunsError : PySem.W.kitOne K (.ref C_BadRow) (.ref C_RunsError) = some true) (kit_BadRow_ValueError : PySem.W.kitOne K (.ref C_BadRow) (.type "ValueError") = some true) (b_isinstance : mg "isinstance" = none) (b_ValueError : mg "ValueError" = none) : FnOk P w K mg base CX0 4 f fd ["row"] (spM (M.Env.mk K ca fa none) 1 m__law_asked) := by
  refine FnOk.imp (F.ok sc__law_asked (sp_len (G := (M.Env.mk K ca fa none)) (m := m__law_asked) rfl) (fun cdv A outer s H vs Q E hr h => ?_)) (fun _ _ _ _ h => h)
  have hu := hu_of hr
  exact ⟨_, (pss_one (ps_tryT (i := 1) (K := K) rfl rfl rfl sc__law_asked.nd rfl rfl ⟨rfl, by decide, .inl g_BadRow⟩ takes0 (fun W pn xe tk po => (pss_one (ps_ret (pe_tup (pa_cons pe_str (pa_cons (pe_callS C_encode.ok (hr.mono (by omega)) (by rfl) C_encode.g C_encode.kp C_encode.b (fun σ => passAt tk σ) (pa_cons (pv 0) pa_nil)) (pa_cons pe_bl pa_nil))))))) (fun a oe cls d pn hz hf => (pss_cons (ps_set (i := 2) sc__law_asked.nd rfl (.inl rfl) (pe_callB (call_isX T_BadRow.ie hz hf) (by rfl) b_isinstance (by decide +kernel) (pa_cons (pv 1) (pa_cons (pe_tup (pa_cons (pe_glob (v := .ref C_BadText) (by rfl) g_BadText rfl) (pa_cons (pe_glob (v := .ref C_BadName) (by rfl) g_BadName rfl) (pa_cons (pe_glob (v := .ref C_Twice) (by rfl) g_Twice rfl) (pa_cons (pe_glob (v := .ref C_BadLength) (by rfl) g_BadLength rfl) (pa_cons (pe_glob (v := .ref C_BadNumber) (by rfl) g_BadNumber rfl) (pa_cons (pe_glob (v := .ref C_Stray) (by rfl) g_Stray rfl) (pa_cons (pe_glob (v := .ref C_Unknown) (by rfl) g_Unknown rfl) (pa_cons (pe_glob (v := .ref C_Unlike) (by rfl) g_Unlike rfl) pa_nil))))))))) pa_nil))))
      (pss_cons (ps_set (i := 2) sc__law_asked.nd rfl (.inl rfl) (pe_or (pv 2) (pe_one (pe_callB (call_isX T_BadRow.ie hz hf) (by rfl) b_isinstance (by decide +kernel) (pa_cons (pv 1) (pa_cons (pe_tup (pa_cons (pe_glob (v := .ref C_Missing) (by rfl) g_Missing rfl) (pa_cons (pe_glob (v := .ref C_NoMain) (by rfl) g_NoMain rfl) (pa_cons (pe_glob (v := .ref C_BadFlow) (by rfl) g_BadFlow rfl) (pa_cons (pe_glob (v := .ref C_BadSpot) (by rfl) g_BadSpot rfl) (pa_cons (pe_glob (v := .ref C_BadSite) (by rfl) g_BadSite rfl) (pa_cons (pe_glob (v := .ref C_BadLine) (by rfl) g_BadLine rfl) (pa_cons (pe_glob (v := .ref C_BadDepth) (by rfl) g_BadDepth rfl) pa_nil)))))))) pa_nil))))))
      (pss_cons (ps_set (i := 2) sc__law_asked.nd rfl (.inl rfl) (pe_or (pv 2) (pe_one (pe_callB (call_isX T_BadRow.ie hz hf) (by rfl) b_isinstance (by decide +kernel) (pa_cons (pv 1) (pa_cons (pe_tup (pa_cons (pe_glob (v := .ref C_BadBase) (by rfl) g_BadBase rfl) (pa_cons (pe_glob (v := .ref C_BadPass) (by rfl) g_BadPass rfl) (pa_cons (pe_glob (v := .ref C_TooMany) (by rfl) g_TooMany rfl) (pa_cons (pe_glob (v := .ref C_BadFree) (by rfl) g_BadFree rfl) (pa_cons (pe_glob (v := .ref C_NoUnit) (by rfl) g_NoUnit rfl) pa_nil)))))) pa_nil))))))
      (pss_cons (ps_set (i := 3) sc__law_asked.nd rfl (.inl rfl) (pe_and (pe_callB (call_isX T_BadRow.ie hz hf) (by rfl) b_isinstance (by decide +kernel) (pa_cons (pv 1) (pa_cons (pe_glob (v := .ref C_RunsError) (by rfl) g_RunsError rfl) pa_nil))) (pe_one (pe_callB (call_isX T_BadRow.ie hz hf) (by rfl) b_isinstance (by decide +kernel) (pa_cons (pv 1) (pa_cons (pe_bltn (v := .ty "ValueError") (by rfl) b_ValueError (by decide +kernel) rfl) pa_nil))))))
      (pss_one (ps_ret (pe_tup (pa_cons pe_str (pa_cons (pe_xf T_BadRow.xf (T_BadRow.no _ (by simp)) hz hf (pv 1)) (pa_cons (pe_and (pv 3) (pe_one (pe_not (pv 2)))) pa_nil))))))))))))), def_run (N := N__law_asked) (b := b__law_asked)
    (sim_try0 (W0 := fun _ _ _ _ => True) (xm_cons hc_BadRow exm_BadRow_BadRow xm_nil) (fun W' => by exact (sim_ret (sim_tup (sim_cons sim_str (sim_cons (sim_callS (sim_cons sim_var sim_nil)) (sim_cons sim_bl sim_nil)))))) (fun a cls d e => by exact (sim_seq (by exact (sim_set (sim_isXt hc_BadRow (.cons (.cons (.cons (.cons (.cons (.cons (.cons (.cons .nil)))))))) (Nat.le_of_ble_eq_true rfl) (.cons (.own _) (.cons (.own _) (.cons (.own _) (.cons (.own _) (.cons (.own _) (.cons (.own _) (.cons (.own _) (.cons (.own _) .nil)))))))) (kitAny_cons kit_BadRow_BadText (fun _ => (kitAny_cons kit_BadRow_BadName (fun _ => (kitAny_cons kit_BadRow_Twice (fun _ => (kitAny_cons kit_BadRow_BadLength (fun _ => (kitAny_cons kit_BadRow_BadNumber (fun _ => (kitAny_cons kit_BadRow_Stray (fun _ => (kitAny_cons kit_BadRow_Unknown (fun _ => (kitAny_cons kit_BadRow_Unlike (fun _ => kitAny_nil) (fun z => Bool.noConfusion z))) (fun z => Bool.noConfusion z))) (fun z => Bool.noConfusion z))) (fun z => Bool.noConfusion z))) (fun z => Bool.noConfusion z))) (fun z => Bool.noConfusion z))) (fun z => Bool.noConfusion z))) (fun z => Bool.noConfusion z)))))
      (sim_seq (by exact (sim_set (sim_orV sim_var (sim_isXt hc_BadRow (.cons (.cons (.cons (.cons (.cons (.cons (.cons .nil))))))) (Nat.le_of_ble_eq_true rfl) (.cons (.own _) (.cons (.own _) (.cons (.own _) (.cons (.own _) (.cons (.own _) (.cons (.own _) (.cons (.own _) .nil))))))) (kitAny_cons kit_BadRow_Missing (fun _ => (kitAny_cons kit_BadRow_NoMain (fun _ => (kitAny_cons kit_BadRow_BadFlow (fun _ => (kitAny_cons kit_BadRow_BadSpot (fun _ => (kitAny_cons kit_BadRow_BadSite (fun _ => (kitAny_cons kit_BadRow_BadLine (fun _ => (kitAny_cons kit_BadRow_BadDepth (fun _ => kitAny_nil) (fun z => Bool.noConfusion z))) (fun z => Bool.noConfusion z))) (fun z => Bool.noConfusion z))) (fun z => Bool.noConfusion z))) (fun z => Bool.noConfusion z))) (fun z => Bool.noConfusion z))) (fun z => Bool.noConfusion z))))))
      (sim_seq (by exact (sim_set (sim_orV sim_var (sim_isXt hc_BadRow (.cons (.cons (.cons (.cons (.cons .nil))))) (Nat.le_of_ble_eq_true rfl) (.cons (.own _) (.cons (.own _) (.cons (.own _) (.cons (.own _) (.cons (.own _) .nil))))) (kitAny_cons kit_BadRow_BadBase (fun _ => (kitAny_cons kit_BadRow_BadPass (fun _ => (kitAny_cons kit_BadRow_TooMany (fun _ => (kitAny_cons kit_BadRow_BadFree (fun _ => (kitAny_cons kit_BadRow_NoUnit (fun _ => kitAny_nil) (fun z => Bool.noConfusion z))) (fun z => Bool.noConfusion z))) (fun z => Bool.noConfusion z))) (fun z => Bool.noConfusion z))) (fun z => Bool.noConfusion z))))))
      (sim_seq (by exact (sim_set (sim_andV (sim_isX1 hc_BadRow (.own _) kit_BadRow_RunsError) (sim_isX1 hc_BadRow (.ty _) kit_BadRow_ValueError))))
      (sim_ret (sim_tup (sim_cons sim_str (sim_cons (sim_xf hc_BadRow) (sim_cons (sim_andV sim_var (sim_notV sim_var)) sim_nil))))))))))) h⟩
theorem ok__law_jump_code {f : Addr} {fd : FuncData} (F : Fun K "_law_jump_code" "_law_jump_code" s__law_jump_code f fd) (b_int : mg "int" = none) : FnOk P w K mg base CX0 1 f fd ["row"] (spM (M.Env.mk K ca fa none) 1 m__law_jump_code) := by
  refine FnOk.imp (F.ok sc__law_jump_code (sp_len (G := (M.Env.mk K ca fa none)) (m := m__law_jump_code) rfl) (fun cdv A outer s H vs Q E hr h => ?_)) (fun _ _ _ _ h => h)
  have hu := hu_of hr
  exact ⟨_, (pss_cons (ps_set (i := 1) sc__law_jump_code.nd rfl (.inl rfl) (pe_op op_mod (pe_callTy (call_int1) (by rfl) b_int (by decide +kernel) (pa_cons (pe_ix (x_ix (K := K) rfl) (pv 0) pe_int (fun _ _ => rfl)) pa_nil)) pe_int))
      (pss_cons (ps_set (i := 2) sc__law_jump_code.nd rfl (.inl rfl) (pe_op op_add (pe_op op_mulW (pe_op op_fdivW (pv 1) pe_int) pe_int) (pe_op op_mulW (pe_op op_mod (pe_callTy (call_int1) (by rfl) b_int (by decide +kernel) (pa_cons (pe_op op_fdivW (pv 1) pe_int) pa_nil)) pe_int) pe_int)))
      (pss_cons (ps_set (i := 2) sc__law_jump_code.nd rfl (.inl rfl) (pe_op op_add (pe_op op_add (pv 2) (pe_op op_mulW (pe_op op_mod (pe_callTy (call_int1) (by rfl) b_int (by decide +kernel) (pa_cons (pe_op op_fdivW (pv 1) pe_int) pa_nil)) pe_int) pe_int)) (pe_op op_mulW (pe_op op_mod (pe_callTy (call_int1) (by rfl) b_int (by decide +kernel) (pa_cons (pe_op op_fdivW (pv 1) pe_int) pa_nil)) pe_int) pe_int)))
      (pss_one (ps_ret (pe_op op_add (pe_op op_add (pv 2) (pe_op op_mulW (pe_ix (x_ix (K := K) rfl) (pv 0) pe_int (fun _ _ => rfl)) pe_int)) pe_int)))))), def_run (N := N__law_jump_code) (b := b__law_jump_code)
    (sim_seq (by exact (sim_set (sim_op so_mod (sim_CB sb_int (sim_cons (sim_op so_ix sim_var sim_int) sim_nil)) sim_int)))
      (sim_seq (by exact (sim_set (sim_op so_add (sim_op so_mul (sim_op so_div sim_var sim_int) sim_int) (sim_op so_mul (sim_op so_mod (sim_CB sb_int (sim_cons (sim_op so_div sim_var sim_int) sim_nil)) sim_int) sim_int))))
      (sim_seq (by exact (sim_set (sim_op so_add (sim_op so_add sim_var (sim_op so_mul (sim_op so_mod (sim_CB sb_int (sim_cons (sim_op so_div sim_var sim_int) sim_nil)) sim_int) sim_int)) (sim_op so_mul (sim_op so_mod (sim_CB sb_int (sim_cons (sim_op so_div sim_var sim_int) sim_nil)) sim_int) sim_int))))
      (sim_ret (sim_op so_add (sim_op so_add sim_var (sim_op so_mul (sim_op so_ix sim_var sim_int) sim_int)) sim_int))))) h⟩
theorem ok__law_branch_code {f : Addr} {fd : FuncData} (F : Fun K "_law_branch_code" "_law_branch_code" s__law_branch_code f fd) (b_int : mg "int" = none) : FnOk P w K mg base CX0 1 f fd ["form", "row"] (spM (M.Env.mk K ca fa none) 2 m__law_branch_code) := by
  refine FnOk.imp (F.ok sc__law_branch_code (sp_len (G := (M.Env.mk K ca fa none)) (m := m__law_branch_code) rfl) (fun cdv A outer s H vs Q E hr h => ?_)) (fun _ _ _ _ h => h)
  have hu := hu_of hr
  exact ⟨_, (pss_cons (ps_set (i := 2) sc__law_branch_code.nd rfl (.inl rfl) (pe_op op_mod (pe_callTy (call_int1) (by rfl) b_int (by decide +kernel) (pa_cons (pe_ix (x_ix (K := K) rfl) (pv 1) pe_int (fun _ _ => rfl)) pa_nil)) pe_int))
      (pss_cons (ps_set (i := 3) sc__law_branch_code.nd rfl (.inl rfl) (pe_op op_add (pe_op op_add (pe_op op_add (pe_op op_mulW (pe_ix (x_ix (K := K) rfl) (pv 0) pe_int (fun _ _ => rfl)) pe_int) pe_int) (pe_op op_mulW (pe_ix (x_ix (K := K) rfl) (pv 1) pe_int (fun _ _ => rfl)) pe_int)) (pe_op op_mulW (pe_ix (x_ix (K := K) rfl) (pv 1) pe_int (fun _ _ => rfl)) pe_int)))
      (pss_cons (ps_set (i := 3) sc__law_branch_code.nd rfl (.inl rfl) (pe_op op_add (pe_op op_add (pv 3) (pe_op op_mulW (pe_op op_fdivW (pv 2) pe_int) pe_int)) (pe_op op_mulW (pe_op op_mod (pe_callTy (call_int1) (by rfl) b_int (by decide +kernel) (pa_cons (pe_op op_fdivW (pv 2) pe_int) pa_nil)) pe_int) pe_int)))
      (pss_one (ps_ret (pe_op op_add (pe_op op_add (pv 3) (pe_op op_mulW (pe_op op_mod (pe_callTy (call_int1) (by rfl) b_int (by decide +kernel) (pa_cons (pe_op op_fdivW (pv 2) pe_int) pa_nil)) pe_int) pe_int)) (pe_op op_mulW (pe_op op_mod (pe_callTy (call_int1) (by rfl) b_int (by decide +kernel) (pa_cons (pe_op op_fdivW (pv 2) pe_int) pa_nil)) pe_int) pe_int))))))), def_run (N := N__law_branch_code) (b := b__law_branch_code)
    (sim_seq (by exact (sim_set (sim_op so_mod (sim_CB sb_int (sim_cons (sim_op so_ix sim_var sim_int) sim_nil)) sim_int)))
      (sim_seq (by exact (sim_set (sim_op so_add (sim_op so_add (sim_op so_add (sim_op so_mul (sim_op so_ix sim_var sim_int) sim_int) sim_int) (sim_op so_mul (sim_op so_ix sim_var sim_int) sim_int)) (sim_op so_mul (sim_op so_ix sim_var sim_int) sim_int))))
      (sim_seq (by exact (sim_set (sim_op so_add (sim_op so_add sim_var (sim_op so_mul (sim_op so_div sim_var sim_int) sim_int)) (sim_op so_mul (sim_op so_mod (sim_CB sb_int (sim_cons (sim_op so_div sim_var sim_int) sim_nil)) sim_int) sim_int))))
      (sim_ret (sim_op so_add (sim_op so_add sim_var (sim_op so_mul (sim_op so_mod (sim_CB sb_int (sim_cons (sim_op so_div sim_var sim_int) sim_nil)) sim_int) sim_int)) (sim_op so_mul (sim_op so_mod (sim_CB sb_int (sim_cons (sim_op so_div sim_var sim_int) sim_nil)) sim_int) sim_int)))))) h⟩
theorem ok__law_code {f : Addr} {fd : FuncData} (F : Fun K "_law_code" "_law_code" s__law_code f fd) {f__law_jump_code : Addr} {fd__law_jump_code : FuncData} (C__law_jump_code : Callee P w K mg base 1 f__law_jump_code fd__law_jump_code "_law_jump_code" ["row"] (spM (M.Env.mk K ca fa none) 1 m__law_jump_code)) {f__law_branch_code : Addr} {fd__law_branch_code : FuncData} (C__law_branch_code : Callee P w K mg base 1 f__law_branch_code fd__law_branch_code "_law_branch_code" ["form", "row"] (spM (M.Env.mk K ca fa none) 2 m__law_branch_code)) (b_int : mg "int" = none) : FnOk P w K mg base CX0 2 f fd ["form", "row"] (spM (M.Env.mk K ca fa none) 2 m__law_code) := by
  refine FnOk.imp (F.ok sc__law_code (sp_len (G := (M.Env.mk K ca fa none)) (m := m__law_code) rfl) (fun cdv A outer s H vs Q E hr h => ?_)) (fun _ _ _ _ h => h)
  have hu := hu_of hr
  exact ⟨_, (pss_cons (ps_if (pt_cmpR (x_eq (K := K) rfl hr.units) (pe_ix (x_ix (K := K) rfl) (pv 0) pe_int (fun _ _ => rfl)) pe_str (nomark _)) (pss_one (ps_ret (pe_ifExp (pt_cmpR (x_eq (K := K) rfl hr.units) (pe_ix (x_ix (K := K) rfl) (pv 1) pe_int (fun _ _ => rfl)) pe_str (nomark _)) pe_int pe_int))) pss_nil)
      (pss_cons (ps_if (pt_cmpR (x_eq (K := K) rfl hr.units) (pe_ix (x_ix (K := K) rfl) (pv 0) pe_int (fun _ _ => rfl)) pe_str (nomark _)) (pss_one (ps_ret (pe_op op_add (pe_op op_add (pe_op op_mulW (pe_ix (x_ix (K := K) rfl) (pv 1) pe_int (fun _ _ => rfl)) pe_int) (pe_op op_mulW (pe_ix (x_ix (K := K) rfl) (pv 1) pe_int (fun _ _ => rfl)) pe_int)) (pe_ix (x_ix (K := K) rfl) (pv 0) pe_int (fun _ _ => rfl))))) pss_nil)
      (pss_cons (ps_if (pt_cmpR (x_eq (K := K) rfl hr.units) (pe_ix (x_ix (K := K) rfl) (pv 0) pe_int (fun _ _ => rfl)) pe_str (nomark _)) (pss_one (ps_ret (pe_call C__law_jump_code.ok (hr.mono (by omega)) (by rfl) C__law_jump_code.g C__law_jump_code.kp C__law_jump_code.b .nil passT (pa_cons (pv 1) pa_nil)))) pss_nil)
      (pss_cons (ps_if (pt_cmpR (x_eq (K := K) rfl hr.units) (pe_ix (x_ix (K := K) rfl) (pv 0) pe_int (fun _ _ => rfl)) pe_str (nomark _)) (pss_one (ps_ret (pe_call C__law_branch_code.ok (hr.mono (by omega)) (by rfl) C__law_branch_code.g C__law_branch_code.kp C__law_branch_code.b .nil passT (pa_cons (pv 0) (pa_cons (pv 1) pa_nil))))) pss_nil)
      (pss_cons (ps_set (i := 2) sc__law_code.nd rfl (.inl rfl) (pe_op op_add (pe_op op_add (pe_op op_mulW (pe_ix (x_ix (K := K) rfl) (pv 0) pe_int (fun _ _ => rfl)) pe_int) (pe_ix (x_ix (K := K) rfl) (pv 0) pe_int (fun _ _ => rfl))) (pe_op op_mulW (pe_ix (x_ix (K := K) rfl) (pv 1) pe_int (fun _ _ => rfl)) pe_int)))
      (pss_cons (ps_set (i := 3) sc__law_code.nd rfl (.inl rfl) (pe_op op_mod (pe_callTy (call_int1) (by rfl) b_int (by decide +kernel) (pa_cons (pe_ix (x_ix (K := K) rfl) (pv 1) pe_int (fun _ _ => rfl)) pa_nil)) pe_int))
      (pss_cons (ps_if (pt_cmpR (x_eq (K := K) rfl hr.units) (pe_ix (x_ix (K := K) rfl) (pv 0) pe_int (fun _ _ => rfl)) pe_str (nomark _)) (pss_one (ps_ret (pe_op op_add (pe_op op_add (pe_op op_add (pv 2) (pe_op op_mulW (pe_ix (x_ix (K := K) rfl) (pv 1) pe_int (fun _ _ => rfl)) pe_int)) (pe_op op_mulW (pe_op op_fdivW (pv 3) pe_int) pe_int)) (pe_op op_mulW (pe_op op_mod (pe_callTy (call_int1) (by rfl) b_int (by decide +kernel) (pa_cons (pv 3) pa_nil)) pe_int) pe_int)))) pss_nil)
      (pss_cons (ps_if (pt_cmpR (x_eq (K := K) rfl hr.units) (pe_ix (x_ix (K := K) rfl) (pv 0) pe_int (fun _ _ => rfl)) pe_str (nomark _)) (pss_one (ps_ret (pe_op op_add (pe_op op_add (pv 2) (pe_op op_mulW (pe_ix (x_ix (K := K) rfl) (pv 1) pe_int (fun _ _ => rfl)) pe_int)) (pe_op op_mulW (pv 3) pe_int)))) pss_nil)
      (pss_one (ps_ret (pe_op op_add (pe_op op_add (pe_op op_add (pv 2) (pe_op op_mulW (pe_ix (x_ix (K := K) rfl) (pv 1) pe_int (fun _ _ => rfl)) pe_int)) (pe_op op_mulW (pe_ix (x_ix (K := K) rfl) (pv 1) pe_int (fun _ _ => rfl)) pe_int)) (pe_op op_mulW (pe_ix (x_ix (K := K) rfl) (pv 0) pe_int (fun _ _ => rfl)) pe_int)))))))))))), def_run (N := N__law_code) (b := b__law_code)
    (sim_seq (by exact (sim_if (by exact (sim_test (sim_op so_eq (sim_op so_ix sim_var sim_int) sim_str))) (by exact (sim_ret (sim_ifE (sim_test (sim_op so_eq (sim_op so_ix sim_var sim_int) sim_str)) sim_int sim_int))) (by exact sim_next)))
      (sim_seq (by exact (sim_if (by exact (sim_test (sim_op so_eq (sim_op so_ix sim_var sim_int) sim_str))) (by exact (sim_ret (sim_op so_add (sim_op so_add (sim_op so_mul (sim_op so_ix sim_var sim_int) sim_int) (sim_op so_mul (sim_op so_ix sim_var sim_int) sim_int)) (sim_op so_ix sim_var sim_int)))) (by exact sim_next)))
      (sim_seq (by exact (sim_if (by exact (sim_test (sim_op so_eq (sim_op so_ix sim_var sim_int) sim_str))) (by exact (sim_ret (sim_call (sim_cons sim_var sim_nil)))) (by exact sim_next)))
      (sim_seq (by exact (sim_if (by exact (sim_test (sim_op so_eq (sim_op so_ix sim_var sim_int) sim_str))) (by exact (sim_ret (sim_call (sim_cons sim_var (sim_cons sim_var sim_nil))))) (by exact sim_next)))
      (sim_seq (by exact (sim_set (sim_op so_add (sim_op so_add (sim_op so_mul (sim_op so_ix sim_var sim_int) sim_int) (sim_op so_ix sim_var sim_int)) (sim_op so_mul (sim_op so_ix sim_var sim_int) sim_int))))
      (sim_seq (by exact (sim_set (sim_op so_mod (sim_CB sb_int (sim_cons (sim_op so_ix sim_var sim_int) sim_nil)) sim_int)))
      (sim_seq (by exact (sim_if (by exact (sim_test (sim_op so_eq (sim_op so_ix sim_var sim_int) sim_str))) (by exact (sim_ret (sim_op so_add (sim_op so_add (sim_op so_add sim_var (sim_op so_mul (sim_op so_ix sim_var sim_int) sim_int)) (sim_op so_mul (sim_op so_div sim_var sim_int) sim_int)) (sim_op so_mul (sim_op so_mod (sim_CB sb_int (sim_cons sim_var sim_nil)) sim_int) sim_int)))) (by exact sim_next)))
      (sim_seq (by exact (sim_if (by exact (sim_test (sim_op so_eq (sim_op so_ix sim_var sim_int) sim_str))) (by exact (sim_ret (sim_op so_add (sim_op so_add sim_var (sim_op so_mul (sim_op so_ix sim_var sim_int) sim_int)) (sim_op so_mul sim_var sim_int)))) (by exact sim_next)))
      (sim_ret (sim_op so_add (sim_op so_add (sim_op so_add sim_var (sim_op so_mul (sim_op so_ix sim_var sim_int) sim_int)) (sim_op so_mul (sim_op so_ix sim_var sim_int) sim_int)) (sim_op so_mul (sim_op so_ix sim_var sim_int) sim_int))))))))))) h⟩
theorem ok__law_right {f : Addr} {fd : FuncData} (F : Fun K "_law_right" "_law_right" s__law_right f fd) (nonfa : ∀ a, fa a ≠ .non) {f__law_fault : Addr} {fd__law_fault : FuncData} (C__law_fault : Callee P w K mg base 3 f__law_fault fd__law_fault "_law_fault" ["row"] (spM (M.Env.mk K ca fa none) 1 m__law_fault)) {f__law_asked : Addr} {fd__law_asked : FuncData} (C__law_asked : Callee P w K mg base 4 f__law_asked fd__law_asked "_law_asked" ["row"] (spM (M.Env.mk K ca fa none) 1 m__law_asked)) {f__law_code : Addr} {fd__law_code : FuncData} (C__law_code : Callee P w K mg base 2 f__law_code fd__law_code "_law_code" ["form", "row"] (spM (M.Env.mk K ca fa none) 2 m__law_code)) {f__law_form_of : Addr} {fd__law_form_of : FuncData} (C__law_form_of : Callee P w K mg base 2 f__law_form_of fd__law_form_of "_law_form_of" ["first"] (spM (M.Env.mk K ca fa none) 1 m__law_form_of)) (b_isinstance : mg "isinstance" = none) (b_int : mg "int" = none) (b_bool : mg "bool" = none) : FnOk P w K mg base CX0 5 f fd ["row"] (spM (M.Env.mk K ca fa none) 1 m__law_right) := by
  refine FnOk.imp (F.ok sc__law_right (sp_len (G := (M.Env.mk K ca fa none)) (m := m__law_right) rfl) (fun cdv A outer s H vs Q E hr h => ?_)) (fun _ _ _ _ h => h)
  have hu := hu_of hr
  exact ⟨_, (pss_cons (ps_set (i := 1) sc__law_right.nd rfl (.inl rfl) (pe_call C__law_fault.ok (hr.mono (by omega)) (by rfl) C__law_fault.g C__law_fault.kp C__law_fault.b .nil passT (pa_cons (pv 0) pa_nil)))
      (pss_cons (ps_set (i := 2) sc__law_right.nd rfl (.inl rfl) (pe_call C__law_asked.ok (hr.mono (by omega)) (by rfl) C__law_asked.g C__law_asked.kp C__law_asked.b .nil passT (pa_cons (pv 0) pa_nil)))
      (pss_cons (ps_if (PW.pt (pw_or (pt_not (x_tru (K := K) rfl (pe_callB (x_isi (K := K) rfl) (by rfl) b_isinstance (by decide +kernel) (pa_cons (pe_ix (x_ix (K := K) rfl) (pv 2) pe_int (fun _ _ => rfl)) (pa_cons (pe_bltn (v := .ty "int") (by rfl) b_int (by decide +kernel) rfl) pa_nil))) (by intro _; rfl))) (pw_or1 (x_tru (K := K) rfl (pe_callB (x_isi (K := K) rfl) (by rfl) b_isinstance (by decide +kernel) (pa_cons (pe_ix (x_ix (K := K) rfl) (pv 2) pe_int (fun _ _ => rfl)) (pa_cons (pe_bltn (v := .ty "bool") (by rfl) b_bool (by decide +kernel) rfl) pa_nil))) (by intro _; rfl))))) (pss_one (ps_ret pe_bl)) pss_nil)
      (pss_cons (ps_if (pt_cmp (pc_notN (pv 1))) (pss_one (ps_ret (pe_and (pe_cmpR (x_eq (K := K) rfl hr.units) (pe_ix (x_ix (K := K) rfl) (pv 2) pe_int (fun _ _ => rfl)) pe_str (nomark _)) (pe_and (pe_cmpR (x_eq (K := K) rfl hr.units) (pe_ix (x_ix (K := K) rfl) (pv 2) pe_int (fun _ _ => rfl)) (pv 1) (nomark _)) (pe_one (pe_ix (x_ix (K := K) rfl) (pv 2) pe_int (fun _ _ => rfl))))))) pss_nil)
      (pss_one (ps_ret (pe_and (pe_cmpR (x_eq (K := K) rfl hr.units) (pe_ix (x_ix (K := K) rfl) (pv 2) pe_int (fun _ _ => rfl)) pe_str (nomark _)) (pe_one (pe_cmpR (x_eq (K := K) rfl hr.units) (pe_ix (x_ix (K := K) rfl) (pv 2) pe_int (fun _ _ => rfl)) (pe_call C__law_code.ok (hr.mono (by omega)) (by rfl) C__law_code.g C__law_code.kp C__law_code.b .nil passT (pa_cons (pe_call C__law_form_of.ok (hr.mono (by omega)) (by rfl) C__law_form_of.g C__law_form_of.kp C__law_form_of.b .nil passT (pa_cons (pe_ix (x_ix (K := K) rfl) (pv 0) pe_int (fun _ _ => rfl)) pa_nil)) (pa_cons (pv 0) pa_nil))) (nomark _)))))))))), def_run (N := N__law_right) (b := b__law_right)
    (sim_seq (by exact (sim_set (sim_call (sim_cons sim_var sim_nil))))
      (sim_seq (by exact (sim_set (sim_call (sim_cons sim_var sim_nil))))
      (sim_seq (by exact (sim_if (by exact (sim_or (sim_not (sim_tru (sim_isi (sim_op so_ix sim_var sim_int)))) (sim_tru (sim_isi (sim_op so_ix sim_var sim_int))))) (by exact (sim_ret sim_bl)) (by exact sim_next)))
      (sim_seq (by exact (sim_if (by exact (sim_B (sim_notN nonfa sim_var))) (by exact (sim_ret (sim_andV (sim_op so_eq (sim_op so_ix sim_var sim_int) sim_str) (sim_andV (sim_op so_eq (sim_op so_ix sim_var sim_int) sim_var) (sim_op so_ix sim_var sim_int))))) (by exact sim_next)))
      (sim_ret (sim_andV (sim_op so_eq (sim_op so_ix sim_var sim_int) sim_str) (sim_op so_eq (sim_op so_ix sim_var sim_int) (sim_call (sim_cons (sim_call (sim_cons (sim_op so_ix sim_var sim_int) sim_nil)) (sim_cons sim_var sim_nil)))))))))) h⟩
theorem ok__law_base_told {f : Addr} {fd : FuncData} (F : Fun K "_law_base_told" "_law_base_told" s__law_base_told f fd) {C_RunsError : Addr} (hc_RunsError : ca "RunsError" = C_RunsError) (g_RunsError : mg "RunsError" = some (.ref C_RunsError)) {C_BadRow : Addr} (hc_BadRow : ca "BadRow" = C_BadRow) (g_BadRow : mg "BadRow" = some (.ref C_BadRow)) {f_encode : Addr} {fd_encode : FuncData} (C_encode : CalleeX P w K mg base 3 f_encode fd_encode "encode" ["row"] (spM (M.Env.mk K ca fa none) 1 m_encode)) (exm_BadRow_RunsError : PySem.W.exmOne K (.ref C_BadRow) (.ref C_RunsError) = some true) (T_BadRow : TxE K C_BadRow ["index"]) (kit_BadRow_BadRow : PySem.W.kitOne K (.ref C_BadRow) (.ref C_BadRow) = some true) (b_isinstance : mg "isinstance" = none) : FnOk P w K mg base CX0 4 f fd ["row"] (spM (M.Env.mk K ca fa none) 1 m__law_base_told) := by
  refine FnOk.imp (F.ok sc__law_base_told (sp_len (G := (M.Env.mk K ca fa none)) (m := m__law_base_told) rfl) (fun cdv A outer s H vs Q E hr h => ?_)) (fun _ _ _ _ h => h)
  have hu := hu_of hr
  exact ⟨_, (pss_cons (ps_tryT (i := 1) (K := K) rfl rfl rfl sc__law_base_told.nd rfl rfl ⟨rfl, by decide, .inl g_RunsError⟩ takes0 (fun W pn xe tk po => (pss_one (ps_expr (pe_callS C_encode.ok (hr.mono (by omega)) (by rfl) C_encode.g C_encode.kp C_encode.b (fun σ => passAt tk σ) (pa_cons (pv 0) pa_nil))))) (fun a oe cls d pn hz hf => (pss_one (ps_ret (pe_callB (call_isX T_BadRow.ie hz hf) (by rfl) b_isinstance (by decide +kernel) (pa_cons (pv 1) (pa_cons (pe_glob (v := .ref C_BadRow) (by rfl) g_BadRow rfl) pa_nil)))))))
      (pss_one (ps_ret pe_bl))), def_run (N := N__law_base_told) (b := b__law_base_told)
    (sim_seq (by exact (sim_try0 (W0 := fun _ _ _ _ => True) (xm_cons hc_BadRow exm_BadRow_RunsError xm_nil) (fun W' => by exact (sim_drop (sim_callS (sim_cons sim_var sim_nil)))) (fun a cls d e => by exact (sim_ret (sim_isX1 hc_BadRow (.own _) kit_BadRow_BadRow)))))
      (sim_ret sim_bl)) h⟩
theorem ok_law {f : Addr} {fd : FuncData} (F : Fun K "law" "law" s_law f fd) {f__law_pool : Addr} {fd__law_pool : FuncData} (C__law_pool : Callee P w K mg base 1 f__law_pool fd__law_pool "_law_pool" ["script"] (spM (M.Env.mk K ca fa none) 1 m__law_pool)) {f__law_pick : Addr} {fd__law_pick : FuncData} (C__law_pick : Callee P w K mg base 2 f__law_pick fd__law_pick "_law_pick" ["pool", "things"] (spM (M.Env.mk K ca fa none) 2 m__law_pick)) {f__law_table : Addr} {fd__law_table : FuncData} (C__law_table : Callee P w K mg base 1 f__law_table fd__law_table "_law_table" [] (spM (M.Env.mk K ca fa none) 0 m__law_table)) {f__law_drawn_row : Addr} {fd__law_drawn_row : FuncData} (C__law_drawn_row : Callee P w K mg base 4 f__law_drawn_row fd__law_drawn_row "_law_drawn_row" ["pool", "form"] (spM (M.Env.mk K ca fa none) 2 m__law_drawn_row)) {f__law_spoilt : Addr} {fd__law_spoilt : FuncData} (C__law_spoilt : Callee P w K mg base 3 f__law_spoilt fd__law_spoilt "_law_spoilt" ["pool", "form", "row"] (spM (M.Env.mk K ca fa none) 3 m__law_spoilt)) {f__law_ends : Addr} {fd__law_ends : FuncData} (C__law_ends : Callee P w K mg base 2 f__law_ends fd__law_ends "_law_ends" ["form", "row"] (spM (M.Env.mk K ca fa none) 2 m__law_ends)) {f__law_kin : Addr} {fd__law_kin : FuncData} (C__law_kin : Callee P w K mg base 5 f__law_kin fd__law_kin "_law_kin" ["pool", "row"] (spM (M.Env.mk K ca fa none) 2 m__law_kin)) {f__law_right : Addr} {fd__law_right : FuncData} (C__law_right : Callee P w K mg base 5 f__law_right fd__law_right "_law_right" ["row"] (spM (M.Env.mk K ca fa none) 1 m__law_right)) {f__law_base_told : Addr} {fd__law_base_told : FuncData} (C__law_base_told : Callee P w K mg base 4 f__law_base_told fd__law_base_told "_law_base_told" ["row"] (spM (M.Env.mk K ca fa none) 1 m__law_base_told)) : FnOk P w K mg base CX0 6 f fd ["script"] (spM (M.Env.mk K ca fa none) 1 m_law) := by
  refine FnOk.imp (F.ok sc_law (sp_len (G := (M.Env.mk K ca fa none)) (m := m_law) rfl) (fun cdv A outer s H vs Q E hr h => ?_)) (fun _ _ _ _ h => h)
  have hu := hu_of hr
  exact ⟨_, (pss_cons (ps_set (i := 1) sc_law.nd rfl (.inl rfl) (pe_call C__law_pool.ok (hr.mono (by omega)) (by rfl) C__law_pool.g C__law_pool.kp C__law_pool.b .nil passT (pa_cons (pv 0) pa_nil)))
      (pss_cons (ps_set (i := 2) sc_law.nd rfl (.inl rfl) (pe_call C__law_pick.ok (hr.mono (by omega)) (by rfl) C__law_pick.g C__law_pick.kp C__law_pick.b .nil passT (pa_cons (pv 1) (pa_cons (pe_call0 C__law_table.ok (hr.mono (by omega)) (by rfl) C__law_table.g C__law_table.kp C__law_table.b .nil passT) pa_nil))))
      (pss_cons (ps_set (i := 3) sc_law.nd rfl (.inl rfl) (pe_call C__law_drawn_row.ok (hr.mono (by omega)) (by rfl) C__law_drawn_row.g C__law_drawn_row.kp C__law_drawn_row.b .nil passT (pa_cons (pv 1) (pa_cons (pv 2) pa_nil))))
      (pss_cons (ps_set (i := 4) sc_law.nd rfl (.inl rfl) (pe_call C__law_spoilt.ok (hr.mono (by omega)) (by rfl) C__law_spoilt.g C__law_spoilt.kp C__law_spoilt.b .nil passT (pa_cons (pv 1) (pa_cons (pv 2) (pa_cons (pv 3) pa_nil)))))
      (pss_cons (ps_set (i := 5) sc_law.nd rfl (.inl rfl) (pe_call C__law_spoilt.ok (hr.mono (by omega)) (by rfl) C__law_spoilt.g C__law_spoilt.kp C__law_spoilt.b .nil passT (pa_cons (pv 1) (pa_cons (pv 2) (pa_cons (pv 3) pa_nil)))))
      (pss_cons (ps_set (i := 6) sc_law.nd rfl (.inl rfl) (pe_op op_cat (pe_lst (pa_cons (pv 3) (pa_cons (pv 4) (pa_cons (pv 5) pa_nil)))) (pe_call C__law_ends.ok (hr.mono (by omega)) (by rfl) C__law_ends.g C__law_ends.kp C__law_ends.b .nil passT (pa_cons (pv 2) (pa_cons (pv 3) pa_nil)))))
      (pss_cons (ps_set (i := 6) sc_law.nd rfl (.inl rfl) (pe_op op_cat (pe_op op_cat (pv 6) (pe_call C__law_kin.ok (hr.mono (by omega)) (by rfl) C__law_kin.g C__law_kin.kp C__law_kin.b .nil passT (pa_cons (pv 1) (pa_cons (pv 3) pa_nil)))) (pe_call C__law_kin.ok (hr.mono (by omega)) (by rfl) C__law_kin.g C__law_kin.kp C__law_kin.b .nil passT (pa_cons (pv 1) (pa_cons (pv 4) pa_nil)))))
      (pss_cons (ps_for PassesOwn.never rfl (x_pil (K := K) rfl (pe_op op_cat (pv 6) (pe_lst (pa_cons (pv 3) pa_nil)))) (pg_name (i := 7) sc_law.nd rfl (.inl rfl)) (pss_one (ps_if (pt_not (x_tru (K := K) rfl (pe_call C__law_right.ok (hr.mono (by omega)) (by rfl) C__law_right.g C__law_right.kp C__law_right.b .nil passT (pa_cons (pv 7) pa_nil)) (by intro _; rfl))) (pss_one (ps_ret pe_bl)) pss_nil)))
      (pss_one (ps_ret (pe_call C__law_base_told.ok (hr.mono (by omega)) (by rfl) C__law_base_told.g C__law_base_told.kp C__law_base_told.b .nil passT (pa_cons (pe_op (x_catA (K := K) rfl) (pe_tup (pa_cons pe_str pa_nil)) (pe_slice (x_slT (K := K) rfl) (pv 3) (po_some pe_int) po_none)) pa_nil)))))))))))), def_run (N := N_law) (b := b_law)
    (sim_seq (by exact (sim_set (sim_call (sim_cons sim_var sim_nil))))
      (sim_seq (by exact (sim_set (sim_call (sim_cons sim_var (sim_cons (sim_call sim_nil) sim_nil)))))
      (sim_seq (by exact (sim_set (sim_call (sim_cons sim_var (sim_cons sim_var sim_nil)))))
      (sim_seq (by exact (sim_set (sim_call (sim_cons sim_var (sim_cons sim_var (sim_cons sim_var sim_nil))))))
      (sim_seq (by exact (sim_set (sim_call (sim_cons sim_var (sim_cons sim_var (sim_cons sim_var sim_nil))))))
      (sim_seq (by exact (sim_set (sim_op so_cat (sim_lst (sim_cons sim_var (sim_cons sim_var (sim_cons sim_var sim_nil)))) (sim_call (sim_cons sim_var (sim_cons sim_var sim_nil))))))
      (sim_seq (by exact (sim_frz (sim_set (sim_op so_cat (sim_op so_cat sim_var (sim_call (sim_cons sim_var (sim_cons sim_var sim_nil)))) (sim_call (sim_cons sim_var (sim_cons sim_var sim_nil)))))))
      (sim_seq (by exact (sim_frz (sim_for (by exact (sim_iLst (sim_op so_cat sim_var (sim_lst (sim_cons sim_var sim_nil))))) sim_gName (by exact (sim_if (by exact (sim_not (sim_tru (sim_call (sim_cons sim_var sim_nil))))) (by exact (sim_ret sim_bl)) (by exact sim_next))))))
      (sim_ret (sim_call (sim_cons (sim_op so_catA (sim_tup (sim_cons sim_str sim_nil)) (sim_sl so_slT sim_var (sim_part sim_int) sim_noPart)) sim_nil))))))))))) h⟩
end
theorem all_mk {l : PySem.W.OpenLaw} {w : World} {K : PySem.W.Frag} {h : Heap} {mg : Str → Option Value} {fa0 f0 f1 f2 f3 f4 f5 f6 f7 f8 f9 f10 f11 f12 f13 f14 f15 f16 f17 f18 f19 f20 f21 f22 f23 f24 f25 f26 f27 : Addr} (X : K.In h) (G : h.Ns mainGlobals mg) (hfa : mg "law" = some (.ref fa0))
    {od0 an0 od1 an1 od2 an2 od3 an3 od4 an4 od5 an5 od6 an6 od7 an7 od8 an8 od9 an9 od10 an10 od11 an11 od12 an12 od13 an13 od14 an14 od15 an15 od16 an16 od17 an17 od18 an18 od19 an19 od20 an20 od21 an21 od22 an22 od23 an23 od24 an24 od25 an25 od26 an26 od27 an27 : Option Addr} {sl0 sl1 sl2 sl3 sl4 sl5 sl6 sl7 sl8 sl9 sl10 sl11 sl12 sl13 sl14 sl15 sl16 sl17 sl18 sl19 sl20 sl21 sl22 sl23 sl24 sl25 sl26 sl27 : Array (Option Value)} {oc0 kV0 dc0 pm0 cd0 ct0 oc1 kV1 dc1 pm1 cd1 ct1 oc2 kV2 dc2 pm2 cd2 ct2 oc3 kV3 dc3 pm3 cd3 ct3 oc4 kV4 dc4 pm4 cd4 ct4 oc5 kV5 dc5 pm5 cd5 ct5 oc6 kV6 dc6 pm6 cd6 ct6 oc7 kV7 dc7 pm7 cd7 ct7 oc8 kV8 dc8 pm8 cd8 ct8 oc9 kV9 dc9 pm9 cd9 ct9 oc10 kV10 dc10 pm10 cd10 ct10 oc11 kV11 dc11 pm11 cd11 ct11 oc12 kV12 dc12 pm12 cd12 ct12 oc13 kV13 dc13 pm13 cd13 ct13 oc14 kV14 dc14 pm14 cd14 ct14 oc15 kV15 dc15 pm15 cd15 ct15 oc16 kV16 dc16 pm16 cd16 ct16 oc17 kV17 dc17 pm17 cd17 ct17 oc18 kV18 dc18 pm18 cd18 ct18 oc19 kV19 dc19 pm19 cd19 ct19 oc20 kV20 dc20 pm20 cd20 ct20 oc21 kV21 dc21 pm21 cd21 ct21 oc22 kV22 dc22 pm22 cd22 ct22 oc23 kV23 dc23 pm23 cd23 ct23 oc24 kV24 dc24 pm24 cd24 ct24 oc25 kV25 dc25 pm25 cd25 ct25 oc26 kV26 dc26 pm26 cd26 ct26 oc27 kV27 dc27 pm27 cd27 ct27 : Value}
    {C_BadRow : Addr} (zc_BadRow : PySem.W.nsIn K mainGlobals "BadRow" = some (some (.ref C_BadRow)))
    {C_RunsError : Addr} (zc_RunsError : PySem.W.nsIn K mainGlobals "RunsError" = some (some (.ref C_RunsError)))
    {C_Unlike : Addr} (zc_Unlike : PySem.W.nsIn K mainGlobals "Unlike" = some (some (.ref C_Unlike)))
    {C_Unknown : Addr} (zc_Unknown : PySem.W.nsIn K mainGlobals "Unknown" = some (some (.ref C_Unknown)))
    {C_Stray : Addr} (zc_Stray : PySem.W.nsIn K mainGlobals "Stray" = some (some (.ref C_Stray)))
    {C_BadNumber : Addr} (zc_BadNumber : PySem.W.nsIn K mainGlobals "BadNumber" = some (some (.ref C_BadNumber)))
    {C_BadLength : Addr} (zc_BadLength : PySem.W.nsIn K mainGlobals "BadLength" = some (some (.ref C_BadLength)))
    {C_Twice : Addr} (zc_Twice : PySem.W.nsIn K mainGlobals "Twice" = some (some (.ref C_Twice)))
    {C_BadName : Addr} (zc_BadName : PySem.W.nsIn K mainGlobals "BadName" = some (some (.ref C_BadName)))
    {C_BadText : Addr} (zc_BadText : PySem.W.nsIn K mainGlobals "BadText" = some (some (.ref C_BadText)))
    {C_BadDepth : Addr} (zc_BadDepth : PySem.W.nsIn K mainGlobals "BadDepth" = some (some (.ref C_BadDepth)))
    {C_BadLine : Addr} (zc_BadLine : PySem.W.nsIn K mainGlobals "BadLine" = some (some (.ref C_BadLine)))
    {C_BadSite : Addr} (zc_BadSite : PySem.W.nsIn K mainGlobals "BadSite" = some (some (.ref C_BadSite)))
    {C_BadSpot : Addr} (zc_BadSpot : PySem.W.nsIn K mainGlobals "BadSpot" = some (some (.ref C_BadSpot)))
    {C_BadFlow : Addr} (zc_BadFlow : PySem.W.nsIn K mainGlobals "BadFlow" = some (some (.ref C_BadFlow)))
    {C_NoMain : Addr} (zc_NoMain : PySem.W.nsIn K mainGlobals "NoMain" = some (some (.ref C_NoMain)))
    {C_Missing : Addr} (zc_Missing : PySem.W.nsIn K mainGlobals "Missing" = some (some (.ref C_Missing)))
    {C_NoUnit : Addr} (zc_NoUnit : PySem.W.nsIn K mainGlobals "NoUnit" = some (some (.ref C_NoUnit)))
    {C_BadFree : Addr} (zc_BadFree : PySem.W.nsIn K mainGlobals "BadFree" = some (some (.ref C_BadFree)))
    {C_TooMany : Addr} (zc_TooMany : PySem.W.nsIn K mainGlobals "TooMany" = some (some (.ref C_TooMany)))
    {C_BadPass : Addr} (zc_BadPass : PySem.W.nsIn K mainGlobals "BadPass" = some (some (.ref C_BadPass)))
    {C_BadBase : Addr} (zc_BadBase : PySem.W.nsIn K mainGlobals "BadBase" = some (some (.ref C_BadBase)))
    (a0 : PySem.W.nsIn K mainGlobals "_law_pool" = some (some (.ref f0))) (l0 : K.lookup f0 = some ⟨oc0, od0, .func (PySem.W.fnOf "_law_pool" "_law_pool" (defArgs s__law_pool) (defBody s__law_pool) (defScope s__law_pool) .none kV0 dc0 pm0 an0 cd0 ct0), sl0⟩) (c0 : PySem.W.codeIn K cd0 "_law_pool" = true) (k0 : PySem.W.keepIn K (.ref f0) = true)
    (a1 : PySem.W.nsIn K mainGlobals "_law_draw" = some (some (.ref f1))) (l1 : K.lookup f1 = some ⟨oc1, od1, .func (PySem.W.fnOf "_law_draw" "_law_draw" (defArgs s__law_draw) (defBody s__law_draw) (defScope s__law_draw) .none kV1 dc1 pm1 an1 cd1 ct1), sl1⟩) (c1 : PySem.W.codeIn K cd1 "_law_draw" = true) (k1 : PySem.W.keepIn K (.ref f1) = true)
    (a2 : PySem.W.nsIn K mainGlobals "_law_pick" = some (some (.ref f2))) (l2 : K.lookup f2 = some ⟨oc2, od2, .func (PySem.W.fnOf "_law_pick" "_law_pick" (defArgs s__law_pick) (defBody s__law_pick) (defScope s__law_pick) .none kV2 dc2 pm2 an2 cd2 ct2), sl2⟩) (c2 : PySem.W.codeIn K cd2 "_law_pick" = true) (k2 : PySem.W.keepIn K (.ref f2) = true)
    (a3 : PySem.W.nsIn K mainGlobals "_law_table" = some (some (.ref f3))) (l3 : K.lookup f3 = some ⟨oc3, od3, .func (PySem.W.fnOf "_law_table" "_law_table" (defArgs s__law_table) (defBody s__law_table) (defScope s__law_table) .none kV3 dc3 pm3 an3 cd3 ct3), sl3⟩) (c3 : PySem.W.codeIn K cd3 "_law_table" = true) (k3 : PySem.W.keepIn K (.ref f3) = true)
    (a4 : PySem.W.nsIn K mainGlobals "_law_kinds_of" = some (some (.ref f4))) (l4 : K.lookup f4 = some ⟨oc4, od4, .func (PySem.W.fnOf "_law_kinds_of" "_law_kinds_of" (defArgs s__law_kinds_of) (defBody s__law_kinds_of) (defScope s__law_kinds_of) .none kV4 dc4 pm4 an4 cd4 ct4), sl4⟩) (c4 : PySem.W.codeIn K cd4 "_law_kinds_of" = true) (k4 : PySem.W.keepIn K (.ref f4) = true)
    (a5 : PySem.W.nsIn K mainGlobals "_law_range_of" = some (some (.ref f5))) (l5 : K.lookup f5 = some ⟨oc5, od5, .func (PySem.W.fnOf "_law_range_of" "_law_range_of" (defArgs s__law_range_of) (defBody s__law_range_of) (defScope s__law_range_of) .none kV5 dc5 pm5 an5 cd5 ct5), sl5⟩) (c5 : PySem.W.codeIn K cd5 "_law_range_of" = true) (k5 : PySem.W.keepIn K (.ref f5) = true)
    (a6 : PySem.W.nsIn K mainGlobals "_law_entry" = some (some (.ref f6))) (l6 : K.lookup f6 = some ⟨oc6, od6, .func (PySem.W.fnOf "_law_entry" "_law_entry" (defArgs s__law_entry) (defBody s__law_entry) (defScope s__law_entry) .none kV6 dc6 pm6 an6 cd6 ct6), sl6⟩) (c6 : PySem.W.codeIn K cd6 "_law_entry" = true) (k6 : PySem.W.keepIn K (.ref f6) = true)
    (a7 : PySem.W.nsIn K mainGlobals "_law_drawn_row" = some (some (.ref f7))) (l7 : K.lookup f7 = some ⟨oc7, od7, .func (PySem.W.fnOf "_law_drawn_row" "_law_drawn_row" (defArgs s__law_drawn_row) (defBody s__law_drawn_row) (defScope s__law_drawn_row) .none kV7 dc7 pm7 an7 cd7 ct7), sl7⟩) (c7 : PySem.W.codeIn K cd7 "_law_drawn_row" = true) (k7 : PySem.W.keepIn K (.ref f7) = true)
    (a8 : PySem.W.nsIn K mainGlobals "_law_exchanged" = some (some (.ref f8))) (l8 : K.lookup f8 = some ⟨oc8, od8, .func (PySem.W.fnOf "_law_exchanged" "_law_exchanged" (defArgs s__law_exchanged) (defBody s__law_exchanged) (defScope s__law_exchanged) .none kV8 dc8 pm8 an8 cd8 ct8), sl8⟩) (c8 : PySem.W.codeIn K cd8 "_law_exchanged" = true) (k8 : PySem.W.keepIn K (.ref f8) = true)
    (a9 : PySem.W.nsIn K mainGlobals "_law_spoilt" = some (some (.ref f9))) (l9 : K.lookup f9 = some ⟨oc9, od9, .func (PySem.W.fnOf "_law_spoilt" "_law_spoilt" (defArgs s__law_spoilt) (defBody s__law_spoilt) (defScope s__law_spoilt) .none kV9 dc9 pm9 an9 cd9 ct9), sl9⟩) (c9 : PySem.W.codeIn K cd9 "_law_spoilt" = true) (k9 : PySem.W.keepIn K (.ref f9) = true)
    (a10 : PySem.W.nsIn K mainGlobals "_law_ends" = some (some (.ref f10))) (l10 : K.lookup f10 = some ⟨oc10, od10, .func (PySem.W.fnOf "_law_ends" "_law_ends" (defArgs s__law_ends) (defBody s__law_ends) (defScope s__law_ends) .none kV10 dc10 pm10 an10 cd10 ct10), sl10⟩) (c10 : PySem.W.codeIn K cd10 "_law_ends" = true) (k10 : PySem.W.keepIn K (.ref f10) = true)
    (a11 : PySem.W.nsIn K mainGlobals "_law_letters" = some (some (.ref f11))) (l11 : K.lookup f11 = some ⟨oc11, od11, .func (PySem.W.fnOf "_law_letters" "_law_letters" (defArgs s__law_letters) (defBody s__law_letters) (defScope s__law_letters) .none kV11 dc11 pm11 an11 cd11 ct11), sl11⟩) (c11 : PySem.W.codeIn K cd11 "_law_letters" = true) (k11 : PySem.W.keepIn K (.ref f11) = true)
    (a12 : PySem.W.nsIn K mainGlobals "_law_heads" = some (some (.ref f12))) (l12 : K.lookup f12 = some ⟨oc12, od12, .func (PySem.W.fnOf "_law_heads" "_law_heads" (defArgs s__law_heads) (defBody s__law_heads) (defScope s__law_heads) .none kV12 dc12 pm12 an12 cd12 ct12), sl12⟩) (c12 : PySem.W.codeIn K cd12 "_law_heads" = true) (k12 : PySem.W.keepIn K (.ref f12) = true)
    (a13 : PySem.W.nsIn K mainGlobals "_law_kin" = some (some (.ref f13))) (l13 : K.lookup f13 = some ⟨oc13, od13, .func (PySem.W.fnOf "_law_kin" "_law_kin" (defArgs s__law_kin) (defBody s__law_kin) (defScope s__law_kin) .none kV13 dc13 pm13 an13 cd13 ct13), sl13⟩) (c13 : PySem.W.codeIn K cd13 "_law_kin" = true) (k13 : PySem.W.keepIn K (.ref f13) = true)
    (a14 : PySem.W.nsIn K mainGlobals "_law_form_of" = some (some (.ref f14))) (l14 : K.lookup f14 = some ⟨oc14, od14, .func (PySem.W.fnOf "_law_form_of" "_law_form_of" (defArgs s__law_form_of) (defBody s__law_form_of) (defScope s__law_form_of) .none kV14 dc14 pm14 an14 cd14 ct14), sl14⟩) (c14 : PySem.W.codeIn K cd14 "_law_form_of" = true) (k14 : PySem.W.keepIn K (.ref f14) = true)
    (a15 : PySem.W.nsIn K mainGlobals "_law_fault" = some (some (.ref f15))) (l15 : K.lookup f15 = some ⟨oc15, od15, .func (PySem.W.fnOf "_law_fault" "_law_fault" (defArgs s__law_fault) (defBody s__law_fault) (defScope s__law_fault) .none kV15 dc15 pm15 an15 cd15 ct15), sl15⟩) (c15 : PySem.W.codeIn K cd15 "_law_fault" = true) (k15 : PySem.W.keepIn K (.ref f15) = true)
    (a16 : PySem.W.nsIn K mainGlobals "fields_of" = some (some (.ref f16))) (l16 : K.lookup f16 = some ⟨oc16, od16, .func (PySem.W.fnOf "fields_of" "fields_of" (defArgs s_fields_of) (defBody s_fields_of) (defScope s_fields_of) .none kV16 dc16 pm16 an16 cd16 ct16), sl16⟩) (c16 : PySem.W.codeIn K cd16 "fields_of" = true) (k16 : PySem.W.keepIn K (.ref f16) = true)
    (a17 : PySem.W.nsIn K mainGlobals "wrong_entry" = some (some (.ref f17))) (l17 : K.lookup f17 = some ⟨oc17, od17, .func (PySem.W.fnOf "wrong_entry" "wrong_entry" (defArgs s_wrong_entry) (defBody s_wrong_entry) (defScope s_wrong_entry) .none kV17 dc17 pm17 an17 cd17 ct17), sl17⟩) (c17 : PySem.W.codeIn K cd17 "wrong_entry" = true) (k17 : PySem.W.keepIn K (.ref f17) = true)
    (a18 : PySem.W.findIn K (.ref C_BadRow) "__init__" = some (some (.ref f18))) (l18 : K.lookup f18 = some ⟨oc18, od18, .func (PySem.W.fnOf "__init__" "BadRow.__init__" (defArgs s_BadRow___init__) (defBody s_BadRow___init__) (defScope s_BadRow___init__) .none kV18 dc18 pm18 an18 cd18 ct18), sl18⟩) (c18 : PySem.W.codeIn K cd18 "BadRow.__init__" = true) (k18 : PySem.W.keepIn K (.ref f18) = true)
    (a19 : PySem.W.nsIn K mainGlobals "with_number" = some (some (.ref f19))) (l19 : K.lookup f19 = some ⟨oc19, od19, .func (PySem.W.fnOf "with_number" "with_number" (defArgs s_with_number) (defBody s_with_number) (defScope s_with_number) .none kV19 dc19 pm19 an19 cd19 ct19), sl19⟩) (c19 : PySem.W.codeIn K cd19 "with_number" = true) (k19 : PySem.W.keepIn K (.ref f19) = true)
    (a20 : PySem.W.nsIn K mainGlobals "encode" = some (some (.ref f20))) (l20 : K.lookup f20 = some ⟨oc20, od20, .func (PySem.W.fnOf "encode" "encode" (defArgs s_encode) (defBody s_encode) (defScope s_encode) .none kV20 dc20 pm20 an20 cd20 ct20), sl20⟩) (c20 : PySem.W.codeIn K cd20 "encode" = true) (k20 : PySem.W.keepIn K (.ref f20) = true)
    (a21 : PySem.W.nsIn K mainGlobals "_law_asked" = some (some (.ref f21))) (l21 : K.lookup f21 = some ⟨oc21, od21, .func (PySem.W.fnOf "_law_asked" "_law_asked" (defArgs s__law_asked) (defBody s__law_asked) (defScope s__law_asked) .none kV21 dc21 pm21 an21 cd21 ct21), sl21⟩) (c21 : PySem.W.codeIn K cd21 "_law_asked" = true) (k21 : PySem.W.keepIn K (.ref f21) = true)
    (a22 : PySem.W.nsIn K mainGlobals "_law_jump_code" = some (some (.ref f22))) (l22 : K.lookup f22 = some ⟨oc22, od22, .func (PySem.W.fnOf "_law_jump_code" "_law_jump_code" (defArgs s__law_jump_code) (defBody s__law_jump_code) (defScope s__law_jump_code) .none kV22 dc22 pm22 an22 cd22 ct22), sl22⟩) (c22 : PySem.W.codeIn K cd22 "_law_jump_code" = true) (k22 : PySem.W.keepIn K (.ref f22) = true)
    (a23 : PySem.W.nsIn K mainGlobals "_law_branch_code" = some (some (.ref f23))) (l23 : K.lookup f23 = some ⟨oc23, od23, .func (PySem.W.fnOf "_law_branch_code" "_law_branch_code" (defArgs s__law_branch_code) (defBody s__law_branch_code) (defScope s__law_branch_code) .none kV23 dc23 pm23 an23 cd23 ct23), sl23⟩) (c23 : PySem.W.codeIn K cd23 "_law_branch_code" = true) (k23 : PySem.W.keepIn K (.ref f23) = true)
    (a24 : PySem.W.nsIn K mainGlobals "_law_code" = some (some (.ref f24))) (l24 : K.lookup f24 = some ⟨oc24, od24, .func (PySem.W.fnOf "_law_code" "_law_code" (defArgs s__law_code) (defBody s__law_code) (defScope s__law_code) .none kV24 dc24 pm24 an24 cd24 ct24), sl24⟩) (c24 : PySem.W.codeIn K cd24 "_law_code" = true) (k24 : PySem.W.keepIn K (.ref f24) = true)
    (a25 : PySem.W.nsIn K mainGlobals "_law_right" = some (some (.ref f25))) (l25 : K.lookup f25 = some ⟨oc25, od25, .func (PySem.W.fnOf "_law_right" "_law_right" (defArgs s__law_right) (defBody s__law_right) (defScope s__law_right) .none kV25 dc25 pm25 an25 cd25 ct25), sl25⟩) (c25 : PySem.W.codeIn K cd25 "_law_right" = true) (k25 : PySem.W.keepIn K (.ref f25) = true)
    (a26 : PySem.W.nsIn K mainGlobals "_law_base_told" = some (some (.ref f26))) (l26 : K.lookup f26 = some ⟨oc26, od26, .func (PySem.W.fnOf "_law_base_told" "_law_base_told" (defArgs s__law_base_told) (defBody s__law_base_told) (defScope s__law_base_told) .none kV26 dc26 pm26 an26 cd26 ct26), sl26⟩) (c26 : PySem.W.codeIn K cd26 "_law_base_told" = true) (k26 : PySem.W.keepIn K (.ref f26) = true)
    (a27 : PySem.W.nsIn K mainGlobals "law" = some (some (.ref f27))) (l27 : K.lookup f27 = some ⟨oc27, od27, .func (PySem.W.fnOf "law" "law" (defArgs s_law) (defBody s_law) (defScope s_law) .none kV27 dc27 pm27 an27 cd27 ct27), sl27⟩) (c27 : PySem.W.codeIn K cd27 "law" = true) (k27 : PySem.W.keepIn K (.ref f27) = true)
    (z_list : PySem.W.nsIn K mainGlobals "list" = some none)
    (z_len : PySem.W.nsIn K mainGlobals "len" = some none)
    (z_abs : PySem.W.nsIn K mainGlobals "abs" = some none)
    (z_int : PySem.W.nsIn K mainGlobals "int" = some none)
    (z_max : PySem.W.nsIn K mainGlobals "max" = some none)
    (z_tuple : PySem.W.nsIn K mainGlobals "tuple" = some none)
    (z_range : PySem.W.nsIn K mainGlobals "range" = some none)
    (z_enumerate : PySem.W.nsIn K mainGlobals "enumerate" = some none)
    (z_zip : PySem.W.nsIn K mainGlobals "zip" = some none)
    (z_isinstance : PySem.W.nsIn K mainGlobals "isinstance" = some none)
    (z_ValueError : PySem.W.nsIn K mainGlobals "ValueError" = some none)
    (z_bool : PySem.W.nsIn K mainGlobals "bool" = some none)
    
    {d_FORMS : Addr} (zA_FORMS : PySem.W.nsIn K mainGlobals "FORMS" = some (some (.ref d_FORMS))) {es_FORMS : Array DictEntry} {n_FORMS : Nat} (zD_FORMS : K.lookup d_FORMS = some ⟨.type "dict", none, .dict es_FORMS n_FORMS, #[]⟩) (zL_FORMS : PySem.W.KeysLit w.params es_FORMS.toList) (zS_FORMS : (d_FORMS == sysModules) = false) {p_FORMS_k0 : Addr} (ze_FORMS_k0 : PySem.W.nsIn K d_FORMS "three" = some (some (.ref p_FORMS_k0))) {td_FORMS_k0 : Option Addr} {ti_FORMS_k0 : Array Value} {tn_FORMS_k0 : Nat} {ts_FORMS_k0 : Array (Option Value)} (zy_FORMS_k0 : K.lookup p_FORMS_k0 = some ⟨.type "tuple", td_FORMS_k0, .seq ti_FORMS_k0 tn_FORMS_k0, ts_FORMS_k0⟩) (zx_FORMS_k0 : ti_FORMS_k0.size ≤ sizeLine) (zw_FORMS_k0 : Vals ([(.str "rd"), (.str "rs1"), (.str "rs2")] : List V) ti_FORMS_k0.toList) {p_FORMS_k1 : Addr} (ze_FORMS_k1 : PySem.W.nsIn K d_FORMS "near" = some (some (.ref p_FORMS_k1))) {td_FORMS_k1 : Option Addr} {ti_FORMS_k1 : Array Value} {tn_FORMS_k1 : Nat} {ts_FORMS_k1 : Array (Option Value)} (zy_FORMS_k1 : K.lookup p_FORMS_k1 = some ⟨.type "tuple", td_FORMS_k1, .seq ti_FORMS_k1 tn_FORMS_k1, ts_FORMS_k1⟩) (zx_FORMS_k1 : ti_FORMS_k1.size ≤ sizeLine) (zw_FORMS_k1 : Vals ([(.str "rd"), (.str "rs1"), (.str "imm")] : List V) ti_FORMS_k1.toList) {p_FORMS_k2 : Addr} (ze_FORMS_k2 : PySem.W.nsIn K d_FORMS "shift" = some (some (.ref p_FORMS_k2))) {td_FORMS_k2 : Option Addr} {ti_FORMS_k2 : Array Value} {tn_FORMS_k2 : Nat} {ts_FORMS_k2 : Array (Option Value)} (zy_FORMS_k2 : K.lookup p_FORMS_k2 = some ⟨.type "tuple", td_FORMS_k2, .seq ti_FORMS_k2 tn_FORMS_k2, ts_FORMS_k2⟩) (zx_FORMS_k2 : ti_FORMS_k2.size ≤ sizeLine) (zw_FORMS_k2 : Vals ([(.str "rd"), (.str "rs1"), (.str "amount")] : List V) ti_FORMS_k2.toList) {p_FORMS_k3 : Addr} (ze_FORMS_k3 : PySem.W.nsIn K d_FORMS "store" = some (some (.ref p_FORMS_k3))) {td_FORMS_k3 : Option Addr} {ti_FORMS_k3 : Array Value} {tn_FORMS_k3 : Nat} {ts_FORMS_k3 : Array (Option Value)} (zy_FORMS_k3 : K.lookup p_FORMS_k3 = some ⟨.type "tuple", td_FORMS_k3, .seq ti_FORMS_k3 tn_FORMS_k3, ts_FORMS_k3⟩) (zx_FORMS_k3 : ti_FORMS_k3.size ≤ sizeLine) (zw_FORMS_k3 : Vals ([(.str "rs2"), (.str "rs1"), (.str "parted")] : List V) ti_FORMS_k3.toList) {p_FORMS_k4 : Addr} (ze_FORMS_k4 : PySem.W.nsIn K d_FORMS "branch" = some (some (.ref p_FORMS_k4))) {td_FORMS_k4 : Option Addr} {ti_FORMS_k4 : Array Value} {tn_FORMS_k4 : Nat} {ts_FORMS_k4 : Array (Option Value)} (zy_FORMS_k4 : K.lookup p_FORMS_k4 = some ⟨.type "tuple", td_FORMS_k4, .seq ti_FORMS_k4 tn_FORMS_k4, ts_FORMS_k4⟩) (zx_FORMS_k4 : ti_FORMS_k4.size ≤ sizeLine) (zw_FORMS_k4 : Vals ([(.str "rs1"), (.str "rs2"), (.str "way")] : List V) ti_FORMS_k4.toList) {p_FORMS_k5 : Addr} (ze_FORMS_k5 : PySem.W.nsIn K d_FORMS "upper" = some (some (.ref p_FORMS_k5))) {td_FORMS_k5 : Option Addr} {ti_FORMS_k5 : Array Value} {tn_FORMS_k5 : Nat} {ts_FORMS_k5 : Array (Option Value)} (zy_FORMS_k5 : K.lookup p_FORMS_k5 = some ⟨.type "tuple", td_FORMS_k5, .seq ti_FORMS_k5 tn_FORMS_k5, ts_FORMS_k5⟩) (zx_FORMS_k5 : ti_FORMS_k5.size ≤ sizeLine) (zw_FORMS_k5 : Vals ([(.str "rd"), (.str "value")] : List V) ti_FORMS_k5.toList) {p_FORMS_k6 : Addr} (ze_FORMS_k6 : PySem.W.nsIn K d_FORMS "jump" = some (some (.ref p_FORMS_k6))) {td_FORMS_k6 : Option Addr} {ti_FORMS_k6 : Array Value} {tn_FORMS_k6 : Nat} {ts_FORMS_k6 : Array (Option Value)} (zy_FORMS_k6 : K.lookup p_FORMS_k6 = some ⟨.type "tuple", td_FORMS_k6, .seq ti_FORMS_k6 tn_FORMS_k6, ts_FORMS_k6⟩) (zx_FORMS_k6 : ti_FORMS_k6.size ≤ sizeLine) (zw_FORMS_k6 : Vals ([(.str "rd"), (.str "far")] : List V) ti_FORMS_k6.toList) {p_FORMS_k7 : Addr} (ze_FORMS_k7 : PySem.W.nsIn K d_FORMS "alone" = some (some (.ref p_FORMS_k7))) {td_FORMS_k7 : Option Addr} {ti_FORMS_k7 : Array Value} {tn_FORMS_k7 : Nat} {ts_FORMS_k7 : Array (Option Value)} (zy_FORMS_k7 : K.lookup p_FORMS_k7 = some ⟨.type "tuple", td_FORMS_k7, .seq ti_FORMS_k7 tn_FORMS_k7, ts_FORMS_k7⟩) (zx_FORMS_k7 : ti_FORMS_k7.size ≤ sizeLine) (zw_FORMS_k7 : Vals ([] : List V) ti_FORMS_k7.toList)
    {d_ROWS : Addr} (zA_ROWS : PySem.W.nsIn K mainGlobals "ROWS" = some (some (.ref d_ROWS))) {es_ROWS : Array DictEntry} {n_ROWS : Nat} (zD_ROWS : K.lookup d_ROWS = some ⟨.type "dict", none, .dict es_ROWS n_ROWS, #[]⟩) (zL_ROWS : PySem.W.KeysLit w.params es_ROWS.toList) (zS_ROWS : (d_ROWS == sysModules) = false) {p_ROWS_k0 : Addr} (ze_ROWS_k0 : PySem.W.nsIn K d_ROWS "add" = some (some (.ref p_ROWS_k0))) {td_ROWS_k0 : Option Addr} {ti_ROWS_k0 : Array Value} {tn_ROWS_k0 : Nat} {ts_ROWS_k0 : Array (Option Value)} (zy_ROWS_k0 : K.lookup p_ROWS_k0 = some ⟨.type "tuple", td_ROWS_k0, .seq ti_ROWS_k0 tn_ROWS_k0, ts_ROWS_k0⟩) (zx_ROWS_k0 : ti_ROWS_k0.size ≤ sizeLine) (zw_ROWS_k0 : Vals ([(.str "three"), (.int (51)), (.int (0)), (.int (0))] : List V) ti_ROWS_k0.toList) {p_ROWS_k1 : Addr} (ze_ROWS_k1 : PySem.W.nsIn K d_ROWS "sub" = some (some (.ref p_ROWS_k1))) {td_ROWS_k1 : Option Addr} {ti_ROWS_k1 : Array Value} {tn_ROWS_k1 : Nat} {ts_ROWS_k1 : Array (Option Value)} (zy_ROWS_k1 : K.lookup p_ROWS_k1 = some ⟨.type "tuple", td_ROWS_k1, .seq ti_ROWS_k1 tn_ROWS_k1, ts_ROWS_k1⟩) (zx_ROWS_k1 : ti_ROWS_k1.size ≤ sizeLine) (zw_ROWS_k1 : Vals ([(.str "three"), (.int (51)), (.int (0)), (.int (32))] : List V) ti_ROWS_k1.toList) {p_ROWS_k2 : Addr} (ze_ROWS_k2 : PySem.W.nsIn K d_ROWS "sll" = some (some (.ref p_ROWS_k2))) {td_ROWS_k2 : Option Addr} {ti_ROWS_k2 : Array Value} {tn_ROWS_k2 : Nat} {ts_ROWS_k2 : Array (Option Value)} (zy_ROWS_k2 : K.lookup p_ROWS_k2 = some ⟨.type "tuple", td_ROWS_k2, .seq ti_ROWS_k2 tn_ROWS_k2, ts_ROWS_k2⟩) (zx_ROWS_k2 : ti_ROWS_k2.size ≤ sizeLine) (zw_ROWS_k2 : Vals ([(.str "three"), (.int (51)), (.int (1)), (.int (0))] : List V) ti_ROWS_k2.toList) {p_ROWS_k3 : Addr} (ze_ROWS_k3 : PySem.W.nsIn K d_ROWS "slt" = some (some (.ref p_ROWS_k3))) {td_ROWS_k3 : Option Addr} {ti_ROWS_k3 : Array Value} {tn_ROWS_k3 : Nat} {ts_ROWS_k3 : Array (Option Value)} (zy_ROWS_k3 : K.lookup p_ROWS_k3 = some ⟨.type "tuple", td_ROWS_k3, .seq ti_ROWS_k3 tn_ROWS_k3, ts_ROWS_k3⟩) (zx_ROWS_k3 : ti_ROWS_k3.size ≤ sizeLine) (zw_ROWS_k3 : Vals ([(.str "three"), (.int (51)), (.int (2)), (.int (0))] : List V) ti_ROWS_k3.toList) {p_ROWS_k4 : Addr} (ze_ROWS_k4 : PySem.W.nsIn K d_ROWS "sltu" = some (some (.ref p_ROWS_k4))) {td_ROWS_k4 : Option Addr} {ti_ROWS_k4 : Array Value} {tn_ROWS_k4 : Nat} {ts_ROWS_k4 : Array (Option Value)} (zy_ROWS_k4 : K.lookup p_ROWS_k4 = some ⟨.type "tuple", td_ROWS_k4, .seq ti_ROWS_k4 tn_ROWS_k4, ts_ROWS_k4⟩) (zx_ROWS_k4 : ti_ROWS_k4.size ≤ sizeLine) (zw_ROWS_k4 : Vals ([(.str "three"), (.int (51)), (.int (3)), (.int (0))] : List V) ti_ROWS_k4.toList) {p_ROWS_k5 : Addr} (ze_ROWS_k5 : PySem.W.nsIn K d_ROWS "xor" = some (some (.ref p_ROWS_k5))) {td_ROWS_k5 : Option Addr} {ti_ROWS_k5 : Array Value} {tn_ROWS_k5 : Nat} {ts_ROWS_k5 : Array (Option Value)} (zy_ROWS_k5 : K.lookup p_ROWS_k5 = some ⟨.type "tuple", td_ROWS_k5, .seq ti_ROWS_k5 tn_ROWS_k5, ts_ROWS_k5⟩) (zx_ROWS_k5 : ti_ROWS_k5.size ≤ sizeLine) (zw_ROWS_k5 : Vals ([(.str "three"), (.int (51)), (.int (4)), (.int (0))] : List V) ti_ROWS_k5.toList) {p_ROWS_k6 : Addr} (ze_ROWS_k6 : PySem.W.nsIn K d_ROWS "srl" = some (some (.ref p_ROWS_k6))) {td_ROWS_k6 : Option Addr} {ti_ROWS_k6 : Array Value} {tn_ROWS_k6 : Nat} {ts_ROWS_k6 : Array (Option Value)} (zy_ROWS_k6 : K.lookup p_ROWS_k6 = some ⟨.type "tuple", td_ROWS_k6, .seq ti_ROWS_k6 tn_ROWS_k6, ts_ROWS_k6⟩) (zx_ROWS_k6 : ti_ROWS_k6.size ≤ sizeLine) (zw_ROWS_k6 : Vals ([(.str "three"), (.int (51)), (.int (5)), (.int (0))] : List V) ti_ROWS_k6.toList) {p_ROWS_k7 : Addr} (ze_ROWS_k7 : PySem.W.nsIn K d_ROWS "sra" = some (some (.ref p_ROWS_k7))) {td_ROWS_k7 : Option Addr} {ti_ROWS_k7 : Array Value} {tn_ROWS_k7 : Nat} {ts_ROWS_k7 : Array (Option Value)} (zy_ROWS_k7 : K.lookup p_ROWS_k7 = some ⟨.type "tuple", td_ROWS_k7, .seq ti_ROWS_k7 tn_ROWS_k7, ts_ROWS_k7⟩) (zx_ROWS_k7 : ti_ROWS_k7.size ≤ sizeLine) (zw_ROWS_k7 : Vals ([(.str "three"), (.int (51)), (.int (5)), (.int (32))] : List V) ti_ROWS_k7.toList) {p_ROWS_k8 : Addr} (ze_ROWS_k8 : PySem.W.nsIn K d_ROWS "or" = some (some (.ref p_ROWS_k8))) {td_ROWS_k8 : Option Addr} {ti_ROWS_k8 : Array Value} {tn_ROWS_k8 : Nat} {ts_ROWS_k8 : Array (Option Value)} (zy_ROWS_k8 : K.lookup p_ROWS_k8 = some ⟨.type "tuple", td_ROWS_k8, .seq ti_ROWS_k8 tn_ROWS_k8, ts_ROWS_k8⟩) (zx_ROWS_k8 : ti_ROWS_k8.size ≤ sizeLine) (zw_ROWS_k8 : Vals ([(.str "three"), (.int (51)), (.int (6)), (.int (0))] : List V) ti_ROWS_k8.toList) {p_ROWS_k9 : Addr} (ze_ROWS_k9 : PySem.W.nsIn K d_ROWS "and" = some (some (.ref p_ROWS_k9))) {td_ROWS_k9 : Option Addr} {ti_ROWS_k9 : Array Value} {tn_ROWS_k9 : Nat} {ts_ROWS_k9 : Array (Option Value)} (zy_ROWS_k9 : K.lookup p_ROWS_k9 = some ⟨.type "tuple", td_ROWS_k9, .seq ti_ROWS_k9 tn_ROWS_k9, ts_ROWS_k9⟩) (zx_ROWS_k9 : ti_ROWS_k9.size ≤ sizeLine) (zw_ROWS_k9 : Vals ([(.str "three"), (.int (51)), (.int (7)), (.int (0))] : List V) ti_ROWS_k9.toList) {p_ROWS_k10 : Addr} (ze_ROWS_k10 : PySem.W.nsIn K d_ROWS "mul" = some (some (.ref p_ROWS_k10))) {td_ROWS_k10 : Option Addr} {ti_ROWS_k10 : Array Value} {tn_ROWS_k10 : Nat} {ts_ROWS_k10 : Array (Option Value)} (zy_ROWS_k10 : K.lookup p_ROWS_k10 = some ⟨.type "tuple", td_ROWS_k10, .seq ti_ROWS_k10 tn_ROWS_k10, ts_ROWS_k10⟩) (zx_ROWS_k10 : ti_ROWS_k10.size ≤ sizeLine) (zw_ROWS_k10 : Vals ([(.str "three"), (.int (51)), (.int (0)), (.int (1))] : List V) ti_ROWS_k10.toList) {p_ROWS_k11 : Addr} (ze_ROWS_k11 : PySem.W.nsIn K d_ROWS "mulh" = some (some (.ref p_ROWS_k11))) {td_ROWS_k11 : Option Addr} {ti_ROWS_k11 : Array Value} {tn_ROWS_k11 : Nat} {ts_ROWS_k11 : Array (Option Value)} (zy_ROWS_k11 : K.lookup p_ROWS_k11 = some ⟨.type "tuple", td_ROWS_k11, .seq ti_ROWS_k11 tn_ROWS_k11, ts_ROWS_k11⟩) (zx_ROWS_k11 : ti_ROWS_k11.size ≤ sizeLine) (zw_ROWS_k11 : Vals ([(.str "three"), (.int (51)), (.int (1)), (.int (1))] : List V) ti_ROWS_k11.toList) {p_ROWS_k12 : Addr} (ze_ROWS_k12 : PySem.W.nsIn K d_ROWS "mulhsu" = some (some (.ref p_ROWS_k12))) {td_ROWS_k12 : Option Addr} {ti_ROWS_k12 : Array Value} {tn_ROWS_k12 : Nat} {ts_ROWS_k12 : Array (Option Value)} (zy_ROWS_k12 : K.lookup p_ROWS_k12 = some ⟨.type "tuple", td_ROWS_k12, .seq ti_ROWS_k12 tn_ROWS_k12, ts_ROWS_k12⟩) (zx_ROWS_k12 : ti_ROWS_k12.size ≤ sizeLine) (zw_ROWS_k12 : Vals ([(.str "three"), (.int (51)), (.int (2)), (.int (1))] : List V) ti_ROWS_k12.toList) {p_ROWS_k13 : Addr} (ze_ROWS_k13 : PySem.W.nsIn K d_ROWS "mulhu" = some (some (.ref p_ROWS_k13))) {td_ROWS_k13 : Option Addr} {ti_ROWS_k13 : Array Value} {tn_ROWS_k13 : Nat} {ts_ROWS_k13 : Array (Option Value)} (zy_ROWS_k13 : K.lookup p_ROWS_k13 = some ⟨.type "tuple", td_ROWS_k13, .seq ti_ROWS_k13 tn_ROWS_k13, ts_ROWS_k13⟩) (zx_ROWS_k13 : ti_ROWS_k13.size ≤ sizeLine) (zw_ROWS_k13 : Vals ([(.str "three"), (.int (51)), (.int (3)), (.int (1))] : List V) ti_ROWS_k13.toList) {p_ROWS_k14 : Addr} (ze_ROWS_k14 : PySem.W.nsIn K d_ROWS "div" = some (some (.ref p_ROWS_k14))) {td_ROWS_k14 : Option Addr} {ti_ROWS_k14 : Array Value} {tn_ROWS_k14 : Nat} {ts_ROWS_k14 : Array (Option Value)} (zy_ROWS_k14 : K.lookup p_ROWS_k14 = some ⟨.type "tuple", td_ROWS_k14, .seq ti_ROWS_k14 tn_ROWS_k14, ts_ROWS_k14⟩) (zx_ROWS_k14 : ti_ROWS_k14.size ≤ sizeLine) (zw_ROWS_k14 : Vals ([(.str "three"), (.int (51)), (.int (4)), (.int (1))] : List V) ti_ROWS_k14.toList) {p_ROWS_k15 : Addr} (ze_ROWS_k15 : PySem.W.nsIn K d_ROWS "divu" = some (some (.ref p_ROWS_k15))) {td_ROWS_k15 : Option Addr} {ti_ROWS_k15 : Array Value} {tn_ROWS_k15 : Nat} {ts_ROWS_k15 : Array (Option Value)} (zy_ROWS_k15 : K.lookup p_ROWS_k15 = some ⟨.type "tuple", td_ROWS_k15, .seq ti_ROWS_k15 tn_ROWS_k15, ts_ROWS_k15⟩) (zx_ROWS_k15 : ti_ROWS_k15.size ≤ sizeLine) (zw_ROWS_k15 : Vals ([(.str "three"), (.int (51)), (.int (5)), (.int (1))] : List V) ti_ROWS_k15.toList) {p_ROWS_k16 : Addr} (ze_ROWS_k16 : PySem.W.nsIn K d_ROWS "rem" = some (some (.ref p_ROWS_k16))) {td_ROWS_k16 : Option Addr} {ti_ROWS_k16 : Array Value} {tn_ROWS_k16 : Nat} {ts_ROWS_k16 : Array (Option Value)} (zy_ROWS_k16 : K.lookup p_ROWS_k16 = some ⟨.type "tuple", td_ROWS_k16, .seq ti_ROWS_k16 tn_ROWS_k16, ts_ROWS_k16⟩) (zx_ROWS_k16 : ti_ROWS_k16.size ≤ sizeLine) (zw_ROWS_k16 : Vals ([(.str "three"), (.int (51)), (.int (6)), (.int (1))] : List V) ti_ROWS_k16.toList) {p_ROWS_k17 : Addr} (ze_ROWS_k17 : PySem.W.nsIn K d_ROWS "remu" = some (some (.ref p_ROWS_k17))) {td_ROWS_k17 : Option Addr} {ti_ROWS_k17 : Array Value} {tn_ROWS_k17 : Nat} {ts_ROWS_k17 : Array (Option Value)} (zy_ROWS_k17 : K.lookup p_ROWS_k17 = some ⟨.type "tuple", td_ROWS_k17, .seq ti_ROWS_k17 tn_ROWS_k17, ts_ROWS_k17⟩) (zx_ROWS_k17 : ti_ROWS_k17.size ≤ sizeLine) (zw_ROWS_k17 : Vals ([(.str "three"), (.int (51)), (.int (7)), (.int (1))] : List V) ti_ROWS_k17.toList) {p_ROWS_k18 : Addr} (ze_ROWS_k18 : PySem.W.nsIn K d_ROWS "addi" = some (some (.ref p_ROWS_k18))) {td_ROWS_k18 : Option Addr} {ti_ROWS_k18 : Array Value} {tn_ROWS_k18 : Nat} {ts_ROWS_k18 : Array (Option Value)} (zy_ROWS_k18 : K.lookup p_ROWS_k18 = some ⟨.type "tuple", td_ROWS_k18, .seq ti_ROWS_k18 tn_ROWS_k18, ts_ROWS_k18⟩) (zx_ROWS_k18 : ti_ROWS_k18.size ≤ sizeLine) (zw_ROWS_k18 : Vals ([(.str "near"), (.int (19)), (.int (0)), (.int (0))] : List V) ti_ROWS_k18.toList) {p_ROWS_k19 : Addr} (ze_ROWS_k19 : PySem.W.nsIn K d_ROWS "slti" = some (some (.ref p_ROWS_k19))) {td_ROWS_k19 : Option Addr} {ti_ROWS_k19 : Array Value} {tn_ROWS_k19 : Nat} {ts_ROWS_k19 : Array (Option Value)} (zy_ROWS_k19 : K.lookup p_ROWS_k19 = some ⟨.type "tuple", td_ROWS_k19, .seq ti_ROWS_k19 tn_ROWS_k19, ts_ROWS_k19⟩) (zx_ROWS_k19 : ti_ROWS_k19.size ≤ sizeLine) (zw_ROWS_k19 : Vals ([(.str "near"), (.int (19)), (.int (2)), (.int (0))] : List V) ti_ROWS_k19.toList) {p_ROWS_k20 : Addr} (ze_ROWS_k20 : PySem.W.nsIn K d_ROWS "sltiu" = some (some (.ref p_ROWS_k20))) {td_ROWS_k20 : Option Addr} {ti_ROWS_k20 : Array Value} {tn_ROWS_k20 : Nat} {ts_ROWS_k20 : Array (Option Value)} (zy_ROWS_k20 : K.lookup p_ROWS_k20 = some ⟨.type "tuple", td_ROWS_k20, .seq ti_ROWS_k20 tn_ROWS_k20, ts_ROWS_k20⟩) (zx_ROWS_k20 : ti_ROWS_k20.size ≤ sizeLine) (zw_ROWS_k20 : Vals ([(.str "near"), (.int (19)), (.int (3)), (.int (0))] : List V) ti_ROWS_k20.toList) {p_ROWS_k21 : Addr} (ze_ROWS_k21 : PySem.W.nsIn K d_ROWS "xori" = some (some (.ref p_ROWS_k21))) {td_ROWS_k21 : Option Addr} {ti_ROWS_k21 : Array Value} {tn_ROWS_k21 : Nat} {ts_ROWS_k21 : Array (Option Value)} (zy_ROWS_k21 : K.lookup p_ROWS_k21 = some ⟨.type "tuple", td_ROWS_k21, .seq ti_ROWS_k21 tn_ROWS_k21, ts_ROWS_k21⟩) (zx_ROWS_k21 : ti_ROWS_k21.size ≤ sizeLine) (zw_ROWS_k21 : Vals ([(.str "near"), (.int (19)), (.int (4)), (.int (0))] : List V) ti_ROWS_k21.toList) {p_ROWS_k22 : Addr} (ze_ROWS_k22 : PySem.W.nsIn K d_ROWS "ori" = some (some (.ref p_ROWS_k22))) {td_ROWS_k22 : Option Addr} {ti_ROWS_k22 : Array Value} {tn_ROWS_k22 : Nat} {ts_ROWS_k22 : Array (Option Value)} (zy_ROWS_k22 : K.lookup p_ROWS_k22 = some ⟨.type "tuple", td_ROWS_k22, .seq ti_ROWS_k22 tn_ROWS_k22, ts_ROWS_k22⟩) (zx_ROWS_k22 : ti_ROWS_k22.size ≤ sizeLine) (zw_ROWS_k22 : Vals ([(.str "near"), (.int (19)), (.int (6)), (.int (0))] : List V) ti_ROWS_k22.toList) {p_ROWS_k23 : Addr} (ze_ROWS_k23 : PySem.W.nsIn K d_ROWS "andi" = some (some (.ref p_ROWS_k23))) {td_ROWS_k23 : Option Addr} {ti_ROWS_k23 : Array Value} {tn_ROWS_k23 : Nat} {ts_ROWS_k23 : Array (Option Value)} (zy_ROWS_k23 : K.lookup p_ROWS_k23 = some ⟨.type "tuple", td_ROWS_k23, .seq ti_ROWS_k23 tn_ROWS_k23, ts_ROWS_k23⟩) (zx_ROWS_k23 : ti_ROWS_k23.size ≤ sizeLine) (zw_ROWS_k23 : Vals ([(.str "near"), (.int (19)), (.int (7)), (.int (0))] : List V) ti_ROWS_k23.toList) {p_ROWS_k24 : Addr} (ze_ROWS_k24 : PySem.W.nsIn K d_ROWS "slli" = some (some (.ref p_ROWS_k24))) {td_ROWS_k24 : Option Addr} {ti_ROWS_k24 : Array Value} {tn_ROWS_k24 : Nat} {ts_ROWS_k24 : Array (Option Value)} (zy_ROWS_k24 : K.lookup p_ROWS_k24 = some ⟨.type "tuple", td_ROWS_k24, .seq ti_ROWS_k24 tn_ROWS_k24, ts_ROWS_k24⟩) (zx_ROWS_k24 : ti_ROWS_k24.size ≤ sizeLine) (zw_ROWS_k24 : Vals ([(.str "shift"), (.int (19)), (.int (1)), (.int (0))] : List V) ti_ROWS_k24.toList) {p_ROWS_k25 : Addr} (ze_ROWS_k25 : PySem.W.nsIn K d_ROWS "srli" = some (some (.ref p_ROWS_k25))) {td_ROWS_k25 : Option Addr} {ti_ROWS_k25 : Array Value} {tn_ROWS_k25 : Nat} {ts_ROWS_k25 : Array (Option Value)} (zy_ROWS_k25 : K.lookup p_ROWS_k25 = some ⟨.type "tuple", td_ROWS_k25, .seq ti_ROWS_k25 tn_ROWS_k25, ts_ROWS_k25⟩) (zx_ROWS_k25 : ti_ROWS_k25.size ≤ sizeLine) (zw_ROWS_k25 : Vals ([(.str "shift"), (.int (19)), (.int (5)), (.int (0))] : List V) ti_ROWS_k25.toList) {p_ROWS_k26 : Addr} (ze_ROWS_k26 : PySem.W.nsIn K d_ROWS "srai" = some (some (.ref p_ROWS_k26))) {td_ROWS_k26 : Option Addr} {ti_ROWS_k26 : Array Value} {tn_ROWS_k26 : Nat} {ts_ROWS_k26 : Array (Option Value)} (zy_ROWS_k26 : K.lookup p_ROWS_k26 = some ⟨.type "tuple", td_ROWS_k26, .seq ti_ROWS_k26 tn_ROWS_k26, ts_ROWS_k26⟩) (zx_ROWS_k26 : ti_ROWS_k26.size ≤ sizeLine) (zw_ROWS_k26 : Vals ([(.str "shift"), (.int (19)), (.int (5)), (.int (32))] : List V) ti_ROWS_k26.toList) {p_ROWS_k27 : Addr} (ze_ROWS_k27 : PySem.W.nsIn K d_ROWS "jalr" = some (some (.ref p_ROWS_k27))) {td_ROWS_k27 : Option Addr} {ti_ROWS_k27 : Array Value} {tn_ROWS_k27 : Nat} {ts_ROWS_k27 : Array (Option Value)} (zy_ROWS_k27 : K.lookup p_ROWS_k27 = some ⟨.type "tuple", td_ROWS_k27, .seq ti_ROWS_k27 tn_ROWS_k27, ts_ROWS_k27⟩) (zx_ROWS_k27 : ti_ROWS_k27.size ≤ sizeLine) (zw_ROWS_k27 : Vals ([(.str "near"), (.int (103)), (.int (0)), (.int (0))] : List V) ti_ROWS_k27.toList) {p_ROWS_k28 : Addr} (ze_ROWS_k28 : PySem.W.nsIn K d_ROWS "lw" = some (some (.ref p_ROWS_k28))) {td_ROWS_k28 : Option Addr} {ti_ROWS_k28 : Array Value} {tn_ROWS_k28 : Nat} {ts_ROWS_k28 : Array (Option Value)} (zy_ROWS_k28 : K.lookup p_ROWS_k28 = some ⟨.type "tuple", td_ROWS_k28, .seq ti_ROWS_k28 tn_ROWS_k28, ts_ROWS_k28⟩) (zx_ROWS_k28 : ti_ROWS_k28.size ≤ sizeLine) (zw_ROWS_k28 : Vals ([(.str "near"), (.int (3)), (.int (2)), (.int (0))] : List V) ti_ROWS_k28.toList) {p_ROWS_k29 : Addr} (ze_ROWS_k29 : PySem.W.nsIn K d_ROWS "sw" = some (some (.ref p_ROWS_k29))) {td_ROWS_k29 : Option Addr} {ti_ROWS_k29 : Array Value} {tn_ROWS_k29 : Nat} {ts_ROWS_k29 : Array (Option Value)} (zy_ROWS_k29 : K.lookup p_ROWS_k29 = some ⟨.type "tuple", td_ROWS_k29, .seq ti_ROWS_k29 tn_ROWS_k29, ts_ROWS_k29⟩) (zx_ROWS_k29 : ti_ROWS_k29.size ≤ sizeLine) (zw_ROWS_k29 : Vals ([(.str "store"), (.int (35)), (.int (2)), (.int (0))] : List V) ti_ROWS_k29.toList) {p_ROWS_k30 : Addr} (ze_ROWS_k30 : PySem.W.nsIn K d_ROWS "beq" = some (some (.ref p_ROWS_k30))) {td_ROWS_k30 : Option Addr} {ti_ROWS_k30 : Array Value} {tn_ROWS_k30 : Nat} {ts_ROWS_k30 : Array (Option Value)} (zy_ROWS_k30 : K.lookup p_ROWS_k30 = some ⟨.type "tuple", td_ROWS_k30, .seq ti_ROWS_k30 tn_ROWS_k30, ts_ROWS_k30⟩) (zx_ROWS_k30 : ti_ROWS_k30.size ≤ sizeLine) (zw_ROWS_k30 : Vals ([(.str "branch"), (.int (99)), (.int (0)), (.int (0))] : List V) ti_ROWS_k30.toList) {p_ROWS_k31 : Addr} (ze_ROWS_k31 : PySem.W.nsIn K d_ROWS "bne" = some (some (.ref p_ROWS_k31))) {td_ROWS_k31 : Option Addr} {ti_ROWS_k31 : Array Value} {tn_ROWS_k31 : Nat} {ts_ROWS_k31 : Array (Option Value)} (zy_ROWS_k31 : K.lookup p_ROWS_k31 = some ⟨.type "tuple", td_ROWS_k31, .seq ti_ROWS_k31 tn_ROWS_k31, ts_ROWS_k31⟩) (zx_ROWS_k31 : ti_ROWS_k31.size ≤ sizeLine) (zw_ROWS_k31 : Vals ([(.str "branch"), (.int (99)), (.int (1)), (.int (0))] : List V) ti_ROWS_k31.toList) {p_ROWS_k32 : Addr} (ze_ROWS_k32 : PySem.W.nsIn K d_ROWS "blt" = some (some (.ref p_ROWS_k32))) {td_ROWS_k32 : Option Addr} {ti_ROWS_k32 : Array Value} {tn_ROWS_k32 : Nat} {ts_ROWS_k32 : Array (Option Value)} (zy_ROWS_k32 : K.lookup p_ROWS_k32 = some ⟨.type "tuple", td_ROWS_k32, .seq ti_ROWS_k32 tn_ROWS_k32, ts_ROWS_k32⟩) (zx_ROWS_k32 : ti_ROWS_k32.size ≤ sizeLine) (zw_ROWS_k32 : Vals ([(.str "branch"), (.int (99)), (.int (4)), (.int (0))] : List V) ti_ROWS_k32.toList) {p_ROWS_k33 : Addr} (ze_ROWS_k33 : PySem.W.nsIn K d_ROWS "bge" = some (some (.ref p_ROWS_k33))) {td_ROWS_k33 : Option Addr} {ti_ROWS_k33 : Array Value} {tn_ROWS_k33 : Nat} {ts_ROWS_k33 : Array (Option Value)} (zy_ROWS_k33 : K.lookup p_ROWS_k33 = some ⟨.type "tuple", td_ROWS_k33, .seq ti_ROWS_k33 tn_ROWS_k33, ts_ROWS_k33⟩) (zx_ROWS_k33 : ti_ROWS_k33.size ≤ sizeLine) (zw_ROWS_k33 : Vals ([(.str "branch"), (.int (99)), (.int (5)), (.int (0))] : List V) ti_ROWS_k33.toList) {p_ROWS_k34 : Addr} (ze_ROWS_k34 : PySem.W.nsIn K d_ROWS "bltu" = some (some (.ref p_ROWS_k34))) {td_ROWS_k34 : Option Addr} {ti_ROWS_k34 : Array Value} {tn_ROWS_k34 : Nat} {ts_ROWS_k34 : Array (Option Value)} (zy_ROWS_k34 : K.lookup p_ROWS_k34 = some ⟨.type "tuple", td_ROWS_k34, .seq ti_ROWS_k34 tn_ROWS_k34, ts_ROWS_k34⟩) (zx_ROWS_k34 : ti_ROWS_k34.size ≤ sizeLine) (zw_ROWS_k34 : Vals ([(.str "branch"), (.int (99)), (.int (6)), (.int (0))] : List V) ti_ROWS_k34.toList) {p_ROWS_k35 : Addr} (ze_ROWS_k35 : PySem.W.nsIn K d_ROWS "bgeu" = some (some (.ref p_ROWS_k35))) {td_ROWS_k35 : Option Addr} {ti_ROWS_k35 : Array Value} {tn_ROWS_k35 : Nat} {ts_ROWS_k35 : Array (Option Value)} (zy_ROWS_k35 : K.lookup p_ROWS_k35 = some ⟨.type "tuple", td_ROWS_k35, .seq ti_ROWS_k35 tn_ROWS_k35, ts_ROWS_k35⟩) (zx_ROWS_k35 : ti_ROWS_k35.size ≤ sizeLine) (zw_ROWS_k35 : Vals ([(.str "branch"), (.int (99)), (.int (7)), (.int (0))] : List V) ti_ROWS_k35.toList) {p_ROWS_k36 : Addr} (ze_ROWS_k36 : PySem.W.nsIn K d_ROWS "lui" = some (some (.ref p_ROWS_k36))) {td_ROWS_k36 : Option Addr} {ti_ROWS_k36 : Array Value} {tn_ROWS_k36 : Nat} {ts_ROWS_k36 : Array (Option Value)} (zy_ROWS_k36 : K.lookup p_ROWS_k36 = some ⟨.type "tuple", td_ROWS_k36, .seq ti_ROWS_k36 tn_ROWS_k36, ts_ROWS_k36⟩) (zx_ROWS_k36 : ti_ROWS_k36.size ≤ sizeLine) (zw_ROWS_k36 : Vals ([(.str "upper"), (.int (55)), (.int (0)), (.int (0))] : List V) ti_ROWS_k36.toList) {p_ROWS_k37 : Addr} (ze_ROWS_k37 : PySem.W.nsIn K d_ROWS "auipc" = some (some (.ref p_ROWS_k37))) {td_ROWS_k37 : Option Addr} {ti_ROWS_k37 : Array Value} {tn_ROWS_k37 : Nat} {ts_ROWS_k37 : Array (Option Value)} (zy_ROWS_k37 : K.lookup p_ROWS_k37 = some ⟨.type "tuple", td_ROWS_k37, .seq ti_ROWS_k37 tn_ROWS_k37, ts_ROWS_k37⟩) (zx_ROWS_k37 : ti_ROWS_k37.size ≤ sizeLine) (zw_ROWS_k37 : Vals ([(.str "upper"), (.int (23)), (.int (0)), (.int (0))] : List V) ti_ROWS_k37.toList) {p_ROWS_k38 : Addr} (ze_ROWS_k38 : PySem.W.nsIn K d_ROWS "jal" = some (some (.ref p_ROWS_k38))) {td_ROWS_k38 : Option Addr} {ti_ROWS_k38 : Array Value} {tn_ROWS_k38 : Nat} {ts_ROWS_k38 : Array (Option Value)} (zy_ROWS_k38 : K.lookup p_ROWS_k38 = some ⟨.type "tuple", td_ROWS_k38, .seq ti_ROWS_k38 tn_ROWS_k38, ts_ROWS_k38⟩) (zx_ROWS_k38 : ti_ROWS_k38.size ≤ sizeLine) (zw_ROWS_k38 : Vals ([(.str "jump"), (.int (111)), (.int (0)), (.int (0))] : List V) ti_ROWS_k38.toList) {p_ROWS_k39 : Addr} (ze_ROWS_k39 : PySem.W.nsIn K d_ROWS "ecall" = some (some (.ref p_ROWS_k39))) {td_ROWS_k39 : Option Addr} {ti_ROWS_k39 : Array Value} {tn_ROWS_k39 : Nat} {ts_ROWS_k39 : Array (Option Value)} (zy_ROWS_k39 : K.lookup p_ROWS_k39 = some ⟨.type "tuple", td_ROWS_k39, .seq ti_ROWS_k39 tn_ROWS_k39, ts_ROWS_k39⟩) (zx_ROWS_k39 : ti_ROWS_k39.size ≤ sizeLine) (zw_ROWS_k39 : Vals ([(.str "alone"), (.int (115)), (.int (0)), (.int (0))] : List V) ti_ROWS_k39.toList) {p_ROWS_k40 : Addr} (ze_ROWS_k40 : PySem.W.nsIn K d_ROWS "ebreak" = some (some (.ref p_ROWS_k40))) {td_ROWS_k40 : Option Addr} {ti_ROWS_k40 : Array Value} {tn_ROWS_k40 : Nat} {ts_ROWS_k40 : Array (Option Value)} (zy_ROWS_k40 : K.lookup p_ROWS_k40 = some ⟨.type "tuple", td_ROWS_k40, .seq ti_ROWS_k40 tn_ROWS_k40, ts_ROWS_k40⟩) (zx_ROWS_k40 : ti_ROWS_k40.size ≤ sizeLine) (zw_ROWS_k40 : Vals ([(.str "alone"), (.int (1048691)), (.int (0)), (.int (0))] : List V) ti_ROWS_k40.toList) (zI_ROWS : EsR es_ROWS.toList [(.str "add", .ref p_ROWS_k0), (.str "sub", .ref p_ROWS_k1), (.str "sll", .ref p_ROWS_k2), (.str "slt", .ref p_ROWS_k3), (.str "sltu", .ref p_ROWS_k4), (.str "xor", .ref p_ROWS_k5), (.str "srl", .ref p_ROWS_k6), (.str "sra", .ref p_ROWS_k7), (.str "or", .ref p_ROWS_k8), (.str "and", .ref p_ROWS_k9), (.str "mul", .ref p_ROWS_k10), (.str "mulh", .ref p_ROWS_k11), (.str "mulhsu", .ref p_ROWS_k12), (.str "mulhu", .ref p_ROWS_k13), (.str "div", .ref p_ROWS_k14), (.str "divu", .ref p_ROWS_k15), (.str "rem", .ref p_ROWS_k16), (.str "remu", .ref p_ROWS_k17), (.str "addi", .ref p_ROWS_k18), (.str "slti", .ref p_ROWS_k19), (.str "sltiu", .ref p_ROWS_k20), (.str "xori", .ref p_ROWS_k21), (.str "ori", .ref p_ROWS_k22), (.str "andi", .ref p_ROWS_k23), (.str "slli", .ref p_ROWS_k24), (.str "srli", .ref p_ROWS_k25), (.str "srai", .ref p_ROWS_k26), (.str "jalr", .ref p_ROWS_k27), (.str "lw", .ref p_ROWS_k28), (.str "sw", .ref p_ROWS_k29), (.str "beq", .ref p_ROWS_k30), (.str "bne", .ref p_ROWS_k31), (.str "blt", .ref p_ROWS_k32), (.str "bge", .ref p_ROWS_k33), (.str "bltu", .ref p_ROWS_k34), (.str "bgeu", .ref p_ROWS_k35), (.str "lui", .ref p_ROWS_k36), (.str "auipc", .ref p_ROWS_k37), (.str "jal", .ref p_ROWS_k38), (.str "ecall", .ref p_ROWS_k39), (.str "ebreak", .ref p_ROWS_k40)])
    {d_BOUNDS : Addr} (zA_BOUNDS : PySem.W.nsIn K mainGlobals "BOUNDS" = some (some (.ref d_BOUNDS))) {es_BOUNDS : Array DictEntry} {n_BOUNDS : Nat} (zD_BOUNDS : K.lookup d_BOUNDS = some ⟨.type "dict", none, .dict es_BOUNDS n_BOUNDS, #[]⟩) (zL_BOUNDS : PySem.W.KeysLit w.params es_BOUNDS.toList) (zS_BOUNDS : (d_BOUNDS == sysModules) = false) {p_BOUNDS_k0 : Addr} (ze_BOUNDS_k0 : PySem.W.nsIn K d_BOUNDS "rd" = some (some (.ref p_BOUNDS_k0))) {td_BOUNDS_k0 : Option Addr} {ti_BOUNDS_k0 : Array Value} {tn_BOUNDS_k0 : Nat} {ts_BOUNDS_k0 : Array (Option Value)} (zy_BOUNDS_k0 : K.lookup p_BOUNDS_k0 = some ⟨.type "tuple", td_BOUNDS_k0, .seq ti_BOUNDS_k0 tn_BOUNDS_k0, ts_BOUNDS_k0⟩) (zx_BOUNDS_k0 : ti_BOUNDS_k0.size ≤ sizeLine) (zw_BOUNDS_k0 : Vals ([(.int (0)), (.int (31)), (.int (1))] : List V) ti_BOUNDS_k0.toList) {p_BOUNDS_k1 : Addr} (ze_BOUNDS_k1 : PySem.W.nsIn K d_BOUNDS "rs1" = some (some (.ref p_BOUNDS_k1))) {td_BOUNDS_k1 : Option Addr} {ti_BOUNDS_k1 : Array Value} {tn_BOUNDS_k1 : Nat} {ts_BOUNDS_k1 : Array (Option Value)} (zy_BOUNDS_k1 : K.lookup p_BOUNDS_k1 = some ⟨.type "tuple", td_BOUNDS_k1, .seq ti_BOUNDS_k1 tn_BOUNDS_k1, ts_BOUNDS_k1⟩) (zx_BOUNDS_k1 : ti_BOUNDS_k1.size ≤ sizeLine) (zw_BOUNDS_k1 : Vals ([(.int (0)), (.int (31)), (.int (1))] : List V) ti_BOUNDS_k1.toList) {p_BOUNDS_k2 : Addr} (ze_BOUNDS_k2 : PySem.W.nsIn K d_BOUNDS "rs2" = some (some (.ref p_BOUNDS_k2))) {td_BOUNDS_k2 : Option Addr} {ti_BOUNDS_k2 : Array Value} {tn_BOUNDS_k2 : Nat} {ts_BOUNDS_k2 : Array (Option Value)} (zy_BOUNDS_k2 : K.lookup p_BOUNDS_k2 = some ⟨.type "tuple", td_BOUNDS_k2, .seq ti_BOUNDS_k2 tn_BOUNDS_k2, ts_BOUNDS_k2⟩) (zx_BOUNDS_k2 : ti_BOUNDS_k2.size ≤ sizeLine) (zw_BOUNDS_k2 : Vals ([(.int (0)), (.int (31)), (.int (1))] : List V) ti_BOUNDS_k2.toList) {p_BOUNDS_k3 : Addr} (ze_BOUNDS_k3 : PySem.W.nsIn K d_BOUNDS "amount" = some (some (.ref p_BOUNDS_k3))) {td_BOUNDS_k3 : Option Addr} {ti_BOUNDS_k3 : Array Value} {tn_BOUNDS_k3 : Nat} {ts_BOUNDS_k3 : Array (Option Value)} (zy_BOUNDS_k3 : K.lookup p_BOUNDS_k3 = some ⟨.type "tuple", td_BOUNDS_k3, .seq ti_BOUNDS_k3 tn_BOUNDS_k3, ts_BOUNDS_k3⟩) (zx_BOUNDS_k3 : ti_BOUNDS_k3.size ≤ sizeLine) (zw_BOUNDS_k3 : Vals ([(.int (0)), (.int (31)), (.int (1))] : List V) ti_BOUNDS_k3.toList) {p_BOUNDS_k4 : Addr} (ze_BOUNDS_k4 : PySem.W.nsIn K d_BOUNDS "imm" = some (some (.ref p_BOUNDS_k4))) {td_BOUNDS_k4 : Option Addr} {ti_BOUNDS_k4 : Array Value} {tn_BOUNDS_k4 : Nat} {ts_BOUNDS_k4 : Array (Option Value)} (zy_BOUNDS_k4 : K.lookup p_BOUNDS_k4 = some ⟨.type "tuple", td_BOUNDS_k4, .seq ti_BOUNDS_k4 tn_BOUNDS_k4, ts_BOUNDS_k4⟩) (zx_BOUNDS_k4 : ti_BOUNDS_k4.size ≤ sizeLine) (zw_BOUNDS_k4 : Vals ([(.int (-2048)), (.int (2047)), (.int (1))] : List V) ti_BOUNDS_k4.toList) {p_BOUNDS_k5 : Addr} (ze_BOUNDS_k5 : PySem.W.nsIn K d_BOUNDS "parted" = some (some (.ref p_BOUNDS_k5))) {td_BOUNDS_k5 : Option Addr} {ti_BOUNDS_k5 : Array Value} {tn_BOUNDS_k5 : Nat} {ts_BOUNDS_k5 : Array (Option Value)} (zy_BOUNDS_k5 : K.lookup p_BOUNDS_k5 = some ⟨.type "tuple", td_BOUNDS_k5, .seq ti_BOUNDS_k5 tn_BOUNDS_k5, ts_BOUNDS_k5⟩) (zx_BOUNDS_k5 : ti_BOUNDS_k5.size ≤ sizeLine) (zw_BOUNDS_k5 : Vals ([(.int (-2048)), (.int (2047)), (.int (1))] : List V) ti_BOUNDS_k5.toList) {p_BOUNDS_k6 : Addr} (ze_BOUNDS_k6 : PySem.W.nsIn K d_BOUNDS "value" = some (some (.ref p_BOUNDS_k6))) {td_BOUNDS_k6 : Option Addr} {ti_BOUNDS_k6 : Array Value} {tn_BOUNDS_k6 : Nat} {ts_BOUNDS_k6 : Array (Option Value)} (zy_BOUNDS_k6 : K.lookup p_BOUNDS_k6 = some ⟨.type "tuple", td_BOUNDS_k6, .seq ti_BOUNDS_k6 tn_BOUNDS_k6, ts_BOUNDS_k6⟩) (zx_BOUNDS_k6 : ti_BOUNDS_k6.size ≤ sizeLine) (zw_BOUNDS_k6 : Vals ([(.int (0)), (.int (1048575)), (.int (1))] : List V) ti_BOUNDS_k6.toList) {p_BOUNDS_k7 : Addr} (ze_BOUNDS_k7 : PySem.W.nsIn K d_BOUNDS "way" = some (some (.ref p_BOUNDS_k7))) {td_BOUNDS_k7 : Option Addr} {ti_BOUNDS_k7 : Array Value} {tn_BOUNDS_k7 : Nat} {ts_BOUNDS_k7 : Array (Option Value)} (zy_BOUNDS_k7 : K.lookup p_BOUNDS_k7 = some ⟨.type "tuple", td_BOUNDS_k7, .seq ti_BOUNDS_k7 tn_BOUNDS_k7, ts_BOUNDS_k7⟩) (zx_BOUNDS_k7 : ti_BOUNDS_k7.size ≤ sizeLine) (zw_BOUNDS_k7 : Vals ([(.int (-4096)), (.int (4094)), (.int (2))] : List V) ti_BOUNDS_k7.toList) {p_BOUNDS_k8 : Addr} (ze_BOUNDS_k8 : PySem.W.nsIn K d_BOUNDS "far" = some (some (.ref p_BOUNDS_k8))) {td_BOUNDS_k8 : Option Addr} {ti_BOUNDS_k8 : Array Value} {tn_BOUNDS_k8 : Nat} {ts_BOUNDS_k8 : Array (Option Value)} (zy_BOUNDS_k8 : K.lookup p_BOUNDS_k8 = some ⟨.type "tuple", td_BOUNDS_k8, .seq ti_BOUNDS_k8 tn_BOUNDS_k8, ts_BOUNDS_k8⟩) (zx_BOUNDS_k8 : ti_BOUNDS_k8.size ≤ sizeLine) (zw_BOUNDS_k8 : Vals ([(.int (-1048576)), (.int (1048574)), (.int (2))] : List V) ti_BOUNDS_k8.toList)
    {d_BITS : Addr} (zA_BITS : PySem.W.nsIn K mainGlobals "BITS" = some (some (.ref d_BITS))) {es_BITS : Array DictEntry} {n_BITS : Nat} (zD_BITS : K.lookup d_BITS = some ⟨.type "dict", none, .dict es_BITS n_BITS, #[]⟩) (zL_BITS : PySem.W.KeysLit w.params es_BITS.toList) (zS_BITS : (d_BITS == sysModules) = false) {p_BITS_k0 : Addr} (ze_BITS_k0 : PySem.W.nsIn K d_BITS "rd" = some (some (.ref p_BITS_k0))) {p_BITS_k0_0 : Addr} {td_BITS_k0 : Option Addr} {ti_BITS_k0 : Array Value} {tn_BITS_k0 : Nat} {ts_BITS_k0 : Array (Option Value)} (zy_BITS_k0 : K.lookup p_BITS_k0 = some ⟨.type "tuple", td_BITS_k0, .seq ti_BITS_k0 tn_BITS_k0, ts_BITS_k0⟩) (zx_BITS_k0 : ti_BITS_k0.size ≤ sizeLine) (zw_BITS_k0 : Vals ([(.ref p_BITS_k0_0)] : List V) ti_BITS_k0.toList) {td_BITS_k0_0 : Option Addr} {ti_BITS_k0_0 : Array Value} {tn_BITS_k0_0 : Nat} {ts_BITS_k0_0 : Array (Option Value)} (zy_BITS_k0_0 : K.lookup p_BITS_k0_0 = some ⟨.type "tuple", td_BITS_k0_0, .seq ti_BITS_k0_0 tn_BITS_k0_0, ts_BITS_k0_0⟩) (zx_BITS_k0_0 : ti_BITS_k0_0.size ≤ sizeLine) (zw_BITS_k0_0 : Vals ([(.int (0)), (.int (5)), (.int (7))] : List V) ti_BITS_k0_0.toList) {p_BITS_k1 : Addr} (ze_BITS_k1 : PySem.W.nsIn K d_BITS "rs1" = some (some (.ref p_BITS_k1))) {p_BITS_k1_0 : Addr} {td_BITS_k1 : Option Addr} {ti_BITS_k1 : Array Value} {tn_BITS_k1 : Nat} {ts_BITS_k1 : Array (Option Value)} (zy_BITS_k1 : K.lookup p_BITS_k1 = some ⟨.type "tuple", td_BITS_k1, .seq ti_BITS_k1 tn_BITS_k1, ts_BITS_k1⟩) (zx_BITS_k1 : ti_BITS_k1.size ≤ sizeLine) (zw_BITS_k1 : Vals ([(.ref p_BITS_k1_0)] : List V) ti_BITS_k1.toList) {td_BITS_k1_0 : Option Addr} {ti_BITS_k1_0 : Array Value} {tn_BITS_k1_0 : Nat} {ts_BITS_k1_0 : Array (Option Value)} (zy_BITS_k1_0 : K.lookup p_BITS_k1_0 = some ⟨.type "tuple", td_BITS_k1_0, .seq ti_BITS_k1_0 tn_BITS_k1_0, ts_BITS_k1_0⟩) (zx_BITS_k1_0 : ti_BITS_k1_0.size ≤ sizeLine) (zw_BITS_k1_0 : Vals ([(.int (0)), (.int (5)), (.int (15))] : List V) ti_BITS_k1_0.toList) {p_BITS_k2 : Addr} (ze_BITS_k2 : PySem.W.nsIn K d_BITS "rs2" = some (some (.ref p_BITS_k2))) {p_BITS_k2_0 : Addr} {td_BITS_k2 : Option Addr} {ti_BITS_k2 : Array Value} {tn_BITS_k2 : Nat} {ts_BITS_k2 : Array (Option Value)} (zy_BITS_k2 : K.lookup p_BITS_k2 = some ⟨.type "tuple", td_BITS_k2, .seq ti_BITS_k2 tn_BITS_k2, ts_BITS_k2⟩) (zx_BITS_k2 : ti_BITS_k2.size ≤ sizeLine) (zw_BITS_k2 : Vals ([(.ref p_BITS_k2_0)] : List V) ti_BITS_k2.toList) {td_BITS_k2_0 : Option Addr} {ti_BITS_k2_0 : Array Value} {tn_BITS_k2_0 : Nat} {ts_BITS_k2_0 : Array (Option Value)} (zy_BITS_k2_0 : K.lookup p_BITS_k2_0 = some ⟨.type "tuple", td_BITS_k2_0, .seq ti_BITS_k2_0 tn_BITS_k2_0, ts_BITS_k2_0⟩) (zx_BITS_k2_0 : ti_BITS_k2_0.size ≤ sizeLine) (zw_BITS_k2_0 : Vals ([(.int (0)), (.int (5)), (.int (20))] : List V) ti_BITS_k2_0.toList) {p_BITS_k3 : Addr} (ze_BITS_k3 : PySem.W.nsIn K d_BITS "amount" = some (some (.ref p_BITS_k3))) {p_BITS_k3_0 : Addr} {td_BITS_k3 : Option Addr} {ti_BITS_k3 : Array Value} {tn_BITS_k3 : Nat} {ts_BITS_k3 : Array (Option Value)} (zy_BITS_k3 : K.lookup p_BITS_k3 = some ⟨.type "tuple", td_BITS_k3, .seq ti_BITS_k3 tn_BITS_k3, ts_BITS_k3⟩) (zx_BITS_k3 : ti_BITS_k3.size ≤ sizeLine) (zw_BITS_k3 : Vals ([(.ref p_BITS_k3_0)] : List V) ti_BITS_k3.toList) {td_BITS_k3_0 : Option Addr} {ti_BITS_k3_0 : Array Value} {tn_BITS_k3_0 : Nat} {ts_BITS_k3_0 : Array (Option Value)} (zy_BITS_k3_0 : K.lookup p_BITS_k3_0 = some ⟨.type "tuple", td_BITS_k3_0, .seq ti_BITS_k3_0 tn_BITS_k3_0, ts_BITS_k3_0⟩) (zx_BITS_k3_0 : ti_BITS_k3_0.size ≤ sizeLine) (zw_BITS_k3_0 : Vals ([(.int (0)), (.int (5)), (.int (20))] : List V) ti_BITS_k3_0.toList) {p_BITS_k4 : Addr} (ze_BITS_k4 : PySem.W.nsIn K d_BITS "imm" = some (some (.ref p_BITS_k4))) {p_BITS_k4_0 : Addr} {td_BITS_k4 : Option Addr} {ti_BITS_k4 : Array Value} {tn_BITS_k4 : Nat} {ts_BITS_k4 : Array (Option Value)} (zy_BITS_k4 : K.lookup p_BITS_k4 = some ⟨.type "tuple", td_BITS_k4, .seq ti_BITS_k4 tn_BITS_k4, ts_BITS_k4⟩) (zx_BITS_k4 : ti_BITS_k4.size ≤ sizeLine) (zw_BITS_k4 : Vals ([(.ref p_BITS_k4_0)] : List V) ti_BITS_k4.toList) {td_BITS_k4_0 : Option Addr} {ti_BITS_k4_0 : Array Value} {tn_BITS_k4_0 : Nat} {ts_BITS_k4_0 : Array (Option Value)} (zy_BITS_k4_0 : K.lookup p_BITS_k4_0 = some ⟨.type "tuple", td_BITS_k4_0, .seq ti_BITS_k4_0 tn_BITS_k4_0, ts_BITS_k4_0⟩) (zx_BITS_k4_0 : ti_BITS_k4_0.size ≤ sizeLine) (zw_BITS_k4_0 : Vals ([(.int (0)), (.int (12)), (.int (20))] : List V) ti_BITS_k4_0.toList) {p_BITS_k5 : Addr} (ze_BITS_k5 : PySem.W.nsIn K d_BITS "parted" = some (some (.ref p_BITS_k5))) {p_BITS_k5_0 : Addr} {p_BITS_k5_1 : Addr} {td_BITS_k5 : Option Addr} {ti_BITS_k5 : Array Value} {tn_BITS_k5 : Nat} {ts_BITS_k5 : Array (Option Value)} (zy_BITS_k5 : K.lookup p_BITS_k5 = some ⟨.type "tuple", td_BITS_k5, .seq ti_BITS_k5 tn_BITS_k5, ts_BITS_k5⟩) (zx_BITS_k5 : ti_BITS_k5.size ≤ sizeLine) (zw_BITS_k5 : Vals ([(.ref p_BITS_k5_0), (.ref p_BITS_k5_1)] : List V) ti_BITS_k5.toList) {td_BITS_k5_0 : Option Addr} {ti_BITS_k5_0 : Array Value} {tn_BITS_k5_0 : Nat} {ts_BITS_k5_0 : Array (Option Value)} (zy_BITS_k5_0 : K.lookup p_BITS_k5_0 = some ⟨.type "tuple", td_BITS_k5_0, .seq ti_BITS_k5_0 tn_BITS_k5_0, ts_BITS_k5_0⟩) (zx_BITS_k5_0 : ti_BITS_k5_0.size ≤ sizeLine) (zw_BITS_k5_0 : Vals ([(.int (0)), (.int (5)), (.int (7))] : List V) ti_BITS_k5_0.toList) {td_BITS_k5_1 : Option Addr} {ti_BITS_k5_1 : Array Value} {tn_BITS_k5_1 : Nat} {ts_BITS_k5_1 : Array (Option Value)} (zy_BITS_k5_1 : K.lookup p_BITS_k5_1 = some ⟨.type "tuple", td_BITS_k5_1, .seq ti_BITS_k5_1 tn_BITS_k5_1, ts_BITS_k5_1⟩) (zx_BITS_k5_1 : ti_BITS_k5_1.size ≤ sizeLine) (zw_BITS_k5_1 : Vals ([(.int (5)), (.int (7)), (.int (25))] : List V) ti_BITS_k5_1.toList) {p_BITS_k6 : Addr} (ze_BITS_k6 : PySem.W.nsIn K d_BITS "value" = some (some (.ref p_BITS_k6))) {p_BITS_k6_0 : Addr} {td_BITS_k6 : Option Addr} {ti_BITS_k6 : Array Value} {tn_BITS_k6 : Nat} {ts_BITS_k6 : Array (Option Value)} (zy_BITS_k6 : K.lookup p_BITS_k6 = some ⟨.type "tuple", td_BITS_k6, .seq ti_BITS_k6 tn_BITS_k6, ts_BITS_k6⟩) (zx_BITS_k6 : ti_BITS_k6.size ≤ sizeLine) (zw_BITS_k6 : Vals ([(.ref p_BITS_k6_0)] : List V) ti_BITS_k6.toList) {td_BITS_k6_0 : Option Addr} {ti_BITS_k6_0 : Array Value} {tn_BITS_k6_0 : Nat} {ts_BITS_k6_0 : Array (Option Value)} (zy_BITS_k6_0 : K.lookup p_BITS_k6_0 = some ⟨.type "tuple", td_BITS_k6_0, .seq ti_BITS_k6_0 tn_BITS_k6_0, ts_BITS_k6_0⟩) (zx_BITS_k6_0 : ti_BITS_k6_0.size ≤ sizeLine) (zw_BITS_k6_0 : Vals ([(.int (0)), (.int (20)), (.int (12))] : List V) ti_BITS_k6_0.toList) {p_BITS_k7 : Addr} (ze_BITS_k7 : PySem.W.nsIn K d_BITS "way" = some (some (.ref p_BITS_k7))) {p_BITS_k7_0 : Addr} {p_BITS_k7_1 : Addr} {p_BITS_k7_2 : Addr} {p_BITS_k7_3 : Addr} {td_BITS_k7 : Option Addr} {ti_BITS_k7 : Array Value} {tn_BITS_k7 : Nat} {ts_BITS_k7 : Array (Option Value)} (zy_BITS_k7 : K.lookup p_BITS_k7 = some ⟨.type "tuple", td_BITS_k7, .seq ti_BITS_k7 tn_BITS_k7, ts_BITS_k7⟩) (zx_BITS_k7 : ti_BITS_k7.size ≤ sizeLine) (zw_BITS_k7 : Vals ([(.ref p_BITS_k7_0), (.ref p_BITS_k7_1), (.ref p_BITS_k7_2), (.ref p_BITS_k7_3)] : List V) ti_BITS_k7.toList) {td_BITS_k7_0 : Option Addr} {ti_BITS_k7_0 : Array Value} {tn_BITS_k7_0 : Nat} {ts_BITS_k7_0 : Array (Option Value)} (zy_BITS_k7_0 : K.lookup p_BITS_k7_0 = some ⟨.type "tuple", td_BITS_k7_0, .seq ti_BITS_k7_0 tn_BITS_k7_0, ts_BITS_k7_0⟩) (zx_BITS_k7_0 : ti_BITS_k7_0.size ≤ sizeLine) (zw_BITS_k7_0 : Vals ([(.int (11)), (.int (1)), (.int (7))] : List V) ti_BITS_k7_0.toList) {td_BITS_k7_1 : Option Addr} {ti_BITS_k7_1 : Array Value} {tn_BITS_k7_1 : Nat} {ts_BITS_k7_1 : Array (Option Value)} (zy_BITS_k7_1 : K.lookup p_BITS_k7_1 = some ⟨.type "tuple", td_BITS_k7_1, .seq ti_BITS_k7_1 tn_BITS_k7_1, ts_BITS_k7_1⟩) (zx_BITS_k7_1 : ti_BITS_k7_1.size ≤ sizeLine) (zw_BITS_k7_1 : Vals ([(.int (1)), (.int (4)), (.int (8))] : List V) ti_BITS_k7_1.toList) {td_BITS_k7_2 : Option Addr} {ti_BITS_k7_2 : Array Value} {tn_BITS_k7_2 : Nat} {ts_BITS_k7_2 : Array (Option Value)} (zy_BITS_k7_2 : K.lookup p_BITS_k7_2 = some ⟨.type "tuple", td_BITS_k7_2, .seq ti_BITS_k7_2 tn_BITS_k7_2, ts_BITS_k7_2⟩) (zx_BITS_k7_2 : ti_BITS_k7_2.size ≤ sizeLine) (zw_BITS_k7_2 : Vals ([(.int (5)), (.int (6)), (.int (25))] : List V) ti_BITS_k7_2.toList) {td_BITS_k7_3 : Option Addr} {ti_BITS_k7_3 : Array Value} {tn_BITS_k7_3 : Nat} {ts_BITS_k7_3 : Array (Option Value)} (zy_BITS_k7_3 : K.lookup p_BITS_k7_3 = some ⟨.type "tuple", td_BITS_k7_3, .seq ti_BITS_k7_3 tn_BITS_k7_3, ts_BITS_k7_3⟩) (zx_BITS_k7_3 : ti_BITS_k7_3.size ≤ sizeLine) (zw_BITS_k7_3 : Vals ([(.int (12)), (.int (1)), (.int (31))] : List V) ti_BITS_k7_3.toList) {p_BITS_k8 : Addr} (ze_BITS_k8 : PySem.W.nsIn K d_BITS "far" = some (some (.ref p_BITS_k8))) {p_BITS_k8_0 : Addr} {p_BITS_k8_1 : Addr} {p_BITS_k8_2 : Addr} {p_BITS_k8_3 : Addr} {td_BITS_k8 : Option Addr} {ti_BITS_k8 : Array Value} {tn_BITS_k8 : Nat} {ts_BITS_k8 : Array (Option Value)} (zy_BITS_k8 : K.lookup p_BITS_k8 = some ⟨.type "tuple", td_BITS_k8, .seq ti_BITS_k8 tn_BITS_k8, ts_BITS_k8⟩) (zx_BITS_k8 : ti_BITS_k8.size ≤ sizeLine) (zw_BITS_k8 : Vals ([(.ref p_BITS_k8_0), (.ref p_BITS_k8_1), (.ref p_BITS_k8_2), (.ref p_BITS_k8_3)] : List V) ti_BITS_k8.toList) {td_BITS_k8_0 : Option Addr} {ti_BITS_k8_0 : Array Value} {tn_BITS_k8_0 : Nat} {ts_BITS_k8_0 : Array (Option Value)} (zy_BITS_k8_0 : K.lookup p_BITS_k8_0 = some ⟨.type "tuple", td_BITS_k8_0, .seq ti_BITS_k8_0 tn_BITS_k8_0, ts_BITS_k8_0⟩) (zx_BITS_k8_0 : ti_BITS_k8_0.size ≤ sizeLine) (zw_BITS_k8_0 : Vals ([(.int (12)), (.int (8)), (.int (12))] : List V) ti_BITS_k8_0.toList) {td_BITS_k8_1 : Option Addr} {ti_BITS_k8_1 : Array Value} {tn_BITS_k8_1 : Nat} {ts_BITS_k8_1 : Array (Option Value)} (zy_BITS_k8_1 : K.lookup p_BITS_k8_1 = some ⟨.type "tuple", td_BITS_k8_1, .seq ti_BITS_k8_1 tn_BITS_k8_1, ts_BITS_k8_1⟩) (zx_BITS_k8_1 : ti_BITS_k8_1.size ≤ sizeLine) (zw_BITS_k8_1 : Vals ([(.int (11)), (.int (1)), (.int (20))] : List V) ti_BITS_k8_1.toList) {td_BITS_k8_2 : Option Addr} {ti_BITS_k8_2 : Array Value} {tn_BITS_k8_2 : Nat} {ts_BITS_k8_2 : Array (Option Value)} (zy_BITS_k8_2 : K.lookup p_BITS_k8_2 = some ⟨.type "tuple", td_BITS_k8_2, .seq ti_BITS_k8_2 tn_BITS_k8_2, ts_BITS_k8_2⟩) (zx_BITS_k8_2 : ti_BITS_k8_2.size ≤ sizeLine) (zw_BITS_k8_2 : Vals ([(.int (1)), (.int (10)), (.int (21))] : List V) ti_BITS_k8_2.toList) {td_BITS_k8_3 : Option Addr} {ti_BITS_k8_3 : Array Value} {tn_BITS_k8_3 : Nat} {ts_BITS_k8_3 : Array (Option Value)} (zy_BITS_k8_3 : K.lookup p_BITS_k8_3 = some ⟨.type "tuple", td_BITS_k8_3, .seq ti_BITS_k8_3 tn_BITS_k8_3, ts_BITS_k8_3⟩) (zx_BITS_k8_3 : ti_BITS_k8_3.size ≤ sizeLine) (zw_BITS_k8_3 : Vals ([(.int (20)), (.int (1)), (.int (31))] : List V) ti_BITS_k8_3.toList)
    {nm_BadRow q_BadRow : Str} {N_BadRow : Addr} {bs_BadRow : List Value} {sn_BadRow : List Str} {sub_BadRow : List Value} {ab_BadRow : Bool} {col_BadRow : Option Bool} {dd_BadRow : Option Addr} {k0_BadRow k1_BadRow k2_BadRow k3_BadRow k5_BadRow : Option Value} (xL_BadRow : K.lookup C_BadRow = some (excClassObj nm_BadRow q_BadRow C_BadRow N_BadRow bs_BadRow [(.ref C_RunsError), (.type "ValueError"), (.type "Exception"), (.type "BaseException"), (.type "object")] true sn_BadRow sub_BadRow ab_BadRow col_BadRow dd_BadRow k0_BadRow k1_BadRow k2_BadRow k3_BadRow k5_BadRow "ValueError.__new__")) (xs_BadRow : PySem.W.findIn K (.ref C_BadRow) "__setattr__" = some (some (.builtin "object.__setattr__"))) (xe_BadRow : PySem.W.subIn K (.ref C_BadRow) (.type "BaseException") = some true) (xt_BadRow : PySem.W.typeIn K (.ref C_BadRow) = some (.type "type")) (xk_BadRow : PySem.W.keepIn K (.ref C_BadRow) = true) (xg_BadRow : PySem.W.findIn K (.ref C_BadRow) "__getattribute__" = some (some (.builtin "BaseException.__getattribute__"))) (xh_BadRow : PySem.W.findIn K (.ref C_BadRow) "__getattr__" = some none) (xd_BadRow : PySem.W.hasDictIn K C_BadRow = true) (xa_BadRow : PySem.W.findIn K (.ref C_BadRow) "__class__" = some (some (.builtin "object.__class__"))) (xn_BadRow : PySem.W.specialIn K (.builtin "object.__class__") "__get__" = some (some (.builtin "getset_descriptor.__get__"))) (xq_BadRow : PySem.W.takesIn K (.builtin "object.__class__") = some true) (xm_BadRow : PySem.W.mroIn K C_BadRow (.type "object") = some true) (xf_index_BadRow : PySem.W.findIn K (.ref C_BadRow) "index" = some none)
    (jt_BadRow : PySem.W.typeIn K (.ref f18) = some (.type "function"))
    (ze1_BadRow_BadRow : PySem.W.isClsIn K C_BadRow = true) (ze2_BadRow_BadRow : PySem.W.typeIn K (.ref C_BadRow) = some (.type "type")) (ze3_BadRow_BadRow : PySem.W.subIn K (.ref C_BadRow) (.type "BaseException") = some true) (ze4_BadRow_BadRow : PySem.W.subIn K (.ref C_BadRow) (.ref C_BadRow) = some true)
    (zk1_BadRow_Unlike : PySem.W.isClsIn K C_Unlike = true) (zk2_BadRow_Unlike : PySem.W.typeIn K (.ref C_Unlike) = some (.type "type")) (zk3_BadRow_Unlike : PySem.W.subIn K (.ref C_BadRow) (.ref C_Unlike) = some false) (zk4_BadRow_Unlike : (C_BadRow == C_Unlike) = false)
    (zk1_BadRow_Unknown : PySem.W.isClsIn K C_Unknown = true) (zk2_BadRow_Unknown : PySem.W.typeIn K (.ref C_Unknown) = some (.type "type")) (zk3_BadRow_Unknown : PySem.W.subIn K (.ref C_BadRow) (.ref C_Unknown) = some false) (zk4_BadRow_Unknown : (C_BadRow == C_Unknown) = false)
    (zk1_BadRow_Stray : PySem.W.isClsIn K C_Stray = true) (zk2_BadRow_Stray : PySem.W.typeIn K (.ref C_Stray) = some (.type "type")) (zk3_BadRow_Stray : PySem.W.subIn K (.ref C_BadRow) (.ref C_Stray) = some false) (zk4_BadRow_Stray : (C_BadRow == C_Stray) = false)
    (zk1_BadRow_BadNumber : PySem.W.isClsIn K C_BadNumber = true) (zk2_BadRow_BadNumber : PySem.W.typeIn K (.ref C_BadNumber) = some (.type "type")) (zk3_BadRow_BadNumber : PySem.W.subIn K (.ref C_BadRow) (.ref C_BadNumber) = some false) (zk4_BadRow_BadNumber : (C_BadRow == C_BadNumber) = false)
    (zk1_BadRow_BadLength : PySem.W.isClsIn K C_BadLength = true) (zk2_BadRow_BadLength : PySem.W.typeIn K (.ref C_BadLength) = some (.type "type")) (zk3_BadRow_BadLength : PySem.W.subIn K (.ref C_BadRow) (.ref C_BadLength) = some false) (zk4_BadRow_BadLength : (C_BadRow == C_BadLength) = false)
    (zk1_BadRow_Twice : PySem.W.isClsIn K C_Twice = true) (zk2_BadRow_Twice : PySem.W.typeIn K (.ref C_Twice) = some (.type "type")) (zk3_BadRow_Twice : PySem.W.subIn K (.ref C_BadRow) (.ref C_Twice) = some false) (zk4_BadRow_Twice : (C_BadRow == C_Twice) = false)
    (zk1_BadRow_BadName : PySem.W.isClsIn K C_BadName = true) (zk2_BadRow_BadName : PySem.W.typeIn K (.ref C_BadName) = some (.type "type")) (zk3_BadRow_BadName : PySem.W.subIn K (.ref C_BadRow) (.ref C_BadName) = some false) (zk4_BadRow_BadName : (C_BadRow == C_BadName) = false)
    (zk1_BadRow_BadText : PySem.W.isClsIn K C_BadText = true) (zk2_BadRow_BadText : PySem.W.typeIn K (.ref C_BadText) = some (.type "type")) (zk3_BadRow_BadText : PySem.W.subIn K (.ref C_BadRow) (.ref C_BadText) = some false) (zk4_BadRow_BadText : (C_BadRow == C_BadText) = false)
    (zk1_BadRow_BadDepth : PySem.W.isClsIn K C_BadDepth = true) (zk2_BadRow_BadDepth : PySem.W.typeIn K (.ref C_BadDepth) = some (.type "type")) (zk3_BadRow_BadDepth : PySem.W.subIn K (.ref C_BadRow) (.ref C_BadDepth) = some false) (zk4_BadRow_BadDepth : (C_BadRow == C_BadDepth) = false)
    (zk1_BadRow_BadLine : PySem.W.isClsIn K C_BadLine = true) (zk2_BadRow_BadLine : PySem.W.typeIn K (.ref C_BadLine) = some (.type "type")) (zk3_BadRow_BadLine : PySem.W.subIn K (.ref C_BadRow) (.ref C_BadLine) = some false) (zk4_BadRow_BadLine : (C_BadRow == C_BadLine) = false)
    (zk1_BadRow_BadSite : PySem.W.isClsIn K C_BadSite = true) (zk2_BadRow_BadSite : PySem.W.typeIn K (.ref C_BadSite) = some (.type "type")) (zk3_BadRow_BadSite : PySem.W.subIn K (.ref C_BadRow) (.ref C_BadSite) = some false) (zk4_BadRow_BadSite : (C_BadRow == C_BadSite) = false)
    (zk1_BadRow_BadSpot : PySem.W.isClsIn K C_BadSpot = true) (zk2_BadRow_BadSpot : PySem.W.typeIn K (.ref C_BadSpot) = some (.type "type")) (zk3_BadRow_BadSpot : PySem.W.subIn K (.ref C_BadRow) (.ref C_BadSpot) = some false) (zk4_BadRow_BadSpot : (C_BadRow == C_BadSpot) = false)
    (zk1_BadRow_BadFlow : PySem.W.isClsIn K C_BadFlow = true) (zk2_BadRow_BadFlow : PySem.W.typeIn K (.ref C_BadFlow) = some (.type "type")) (zk3_BadRow_BadFlow : PySem.W.subIn K (.ref C_BadRow) (.ref C_BadFlow) = some false) (zk4_BadRow_BadFlow : (C_BadRow == C_BadFlow) = false)
    (zk1_BadRow_NoMain : PySem.W.isClsIn K C_NoMain = true) (zk2_BadRow_NoMain : PySem.W.typeIn K (.ref C_NoMain) = some (.type "type")) (zk3_BadRow_NoMain : PySem.W.subIn K (.ref C_BadRow) (.ref C_NoMain) = some false) (zk4_BadRow_NoMain : (C_BadRow == C_NoMain) = false)
    (zk1_BadRow_Missing : PySem.W.isClsIn K C_Missing = true) (zk2_BadRow_Missing : PySem.W.typeIn K (.ref C_Missing) = some (.type "type")) (zk3_BadRow_Missing : PySem.W.subIn K (.ref C_BadRow) (.ref C_Missing) = some false) (zk4_BadRow_Missing : (C_BadRow == C_Missing) = false)
    (zk1_BadRow_NoUnit : PySem.W.isClsIn K C_NoUnit = true) (zk2_BadRow_NoUnit : PySem.W.typeIn K (.ref C_NoUnit) = some (.type "type")) (zk3_BadRow_NoUnit : PySem.W.subIn K (.ref C_BadRow) (.ref C_NoUnit) = some false) (zk4_BadRow_NoUnit : (C_BadRow == C_NoUnit) = false)
    (zk1_BadRow_BadFree : PySem.W.isClsIn K C_BadFree = true) (zk2_BadRow_BadFree : PySem.W.typeIn K (.ref C_BadFree) = some (.type "type")) (zk3_BadRow_BadFree : PySem.W.subIn K (.ref C_BadRow) (.ref C_BadFree) = some false) (zk4_BadRow_BadFree : (C_BadRow == C_BadFree) = false)
    (zk1_BadRow_TooMany : PySem.W.isClsIn K C_TooMany = true) (zk2_BadRow_TooMany : PySem.W.typeIn K (.ref C_TooMany) = some (.type "type")) (zk3_BadRow_TooMany : PySem.W.subIn K (.ref C_BadRow) (.ref C_TooMany) = some false) (zk4_BadRow_TooMany : (C_BadRow == C_TooMany) = false)
    (zk1_BadRow_BadPass : PySem.W.isClsIn K C_BadPass = true) (zk2_BadRow_BadPass : PySem.W.typeIn K (.ref C_BadPass) = some (.type "type")) (zk3_BadRow_BadPass : PySem.W.subIn K (.ref C_BadRow) (.ref C_BadPass) = some false) (zk4_BadRow_BadPass : (C_BadRow == C_BadPass) = false)
    (zk1_BadRow_BadBase : PySem.W.isClsIn K C_BadBase = true) (zk2_BadRow_BadBase : PySem.W.typeIn K (.ref C_BadBase) = some (.type "type")) (zk3_BadRow_BadBase : PySem.W.subIn K (.ref C_BadRow) (.ref C_BadBase) = some false) (zk4_BadRow_BadBase : (C_BadRow == C_BadBase) = false)
    (zk1_BadRow_RunsError : PySem.W.isClsIn K C_RunsError = true) (zk2_BadRow_RunsError : PySem.W.typeIn K (.ref C_RunsError) = some (.type "type")) (zk3_BadRow_RunsError : PySem.W.subIn K (.ref C_BadRow) (.ref C_RunsError) = some true) (zk4_BadRow_RunsError : (C_BadRow == C_RunsError) = false)
    (zk3_BadRow_ValueError : PySem.W.subIn K (.ref C_BadRow) (.type "ValueError") = some true)
    (ze1_BadRow_RunsError : PySem.W.isClsIn K C_RunsError = true) (ze2_BadRow_RunsError : PySem.W.typeIn K (.ref C_RunsError) = some (.type "type")) (ze3_BadRow_RunsError : PySem.W.subIn K (.ref C_RunsError) (.type "BaseException") = some true) (ze4_BadRow_RunsError : PySem.W.subIn K (.ref C_BadRow) (.ref C_RunsError) = some true)
    
    : ∃ fd : FuncData, (∀ (s : Shared) (v : Value), BindsTo s fd ⟨[v], []⟩ [("script", v)]) ∧ ∃ G : M.Env, G.K = K ∧ ∀ base : Heap, K.In base → base.Ns mainGlobals mg → FnOk l.prog w K mg base CX0 6 fa0 fd ["script"] (spM G 1 m_law) := by
  have e := hfa.symm.trans (PySem.W.mg_of X G a27)
  cases e
  have F0 := fun_mk (st := s__law_pool) l0 c0 k0
  have B0 := F0.binds (ps := ["script"]) fun _ _ _ _ _ _ us hl => match us, hl with | [_], _ => rfl
  have F1 := fun_mk (st := s__law_draw) l1 c1 k1
  have B1 := F1.binds (ps := ["pool", "many"]) fun _ _ _ _ _ _ us hl => match us, hl with | [_, _], _ => rfl
  have F2 := fun_mk (st := s__law_pick) l2 c2 k2
  have B2 := F2.binds (ps := ["pool", "things"]) fun _ _ _ _ _ _ us hl => match us, hl with | [_, _], _ => rfl
  have F3 := fun_mk (st := s__law_table) l3 c3 k3
  have B3 := F3.binds (ps := []) fun _ _ _ _ _ _ us hl => match us, hl with | [], _ => rfl
  have F4 := fun_mk (st := s__law_kinds_of) l4 c4 k4
  have B4 := F4.binds (ps := ["form"]) fun _ _ _ _ _ _ us hl => match us, hl with | [_], _ => rfl
  have F5 := fun_mk (st := s__law_range_of) l5 c5 k5
  have B5 := F5.binds (ps := ["kind"]) fun _ _ _ _ _ _ us hl => match us, hl with | [_], _ => rfl
  have F6 := fun_mk (st := s__law_entry) l6 c6 k6
  have B6 := F6.binds (ps := ["pool", "kind"]) fun _ _ _ _ _ _ us hl => match us, hl with | [_, _], _ => rfl
  have F7 := fun_mk (st := s__law_drawn_row) l7 c7 k7
  have B7 := F7.binds (ps := ["pool", "form"]) fun _ _ _ _ _ _ us hl => match us, hl with | [_, _], _ => rfl
  have F8 := fun_mk (st := s__law_exchanged) l8 c8 k8
  have B8 := F8.binds (ps := ["row", "k", "one"]) fun _ _ _ _ _ _ us hl => match us, hl with | [_, _, _], _ => rfl
  have F9 := fun_mk (st := s__law_spoilt) l9 c9 k9
  have B9 := F9.binds (ps := ["pool", "form", "row"]) fun _ _ _ _ _ _ us hl => match us, hl with | [_, _, _], _ => rfl
  have F10 := fun_mk (st := s__law_ends) l10 c10 k10
  have B10 := F10.binds (ps := ["form", "row"]) fun _ _ _ _ _ _ us hl => match us, hl with | [_, _], _ => rfl
  have F11 := fun_mk (st := s__law_letters) l11 c11 k11
  have B11 := F11.binds (ps := ["pool"]) fun _ _ _ _ _ _ us hl => match us, hl with | [_], _ => rfl
  have F12 := fun_mk (st := s__law_heads) l12 c12 k12
  have B12 := F12.binds (ps := ["pool", "first"]) fun _ _ _ _ _ _ us hl => match us, hl with | [_, _], _ => rfl
  have F13 := fun_mk (st := s__law_kin) l13 c13 k13
  have B13 := F13.binds (ps := ["pool", "row"]) fun _ _ _ _ _ _ us hl => match us, hl with | [_, _], _ => rfl
  have F14 := fun_mk (st := s__law_form_of) l14 c14 k14
  have B14 := F14.binds (ps := ["first"]) fun _ _ _ _ _ _ us hl => match us, hl with | [_], _ => rfl
  have F15 := fun_mk (st := s__law_fault) l15 c15 k15
  have B15 := F15.binds (ps := ["row"]) fun _ _ _ _ _ _ us hl => match us, hl with | [_], _ => rfl
  have F16 := fun_mk (st := s_fields_of) l16 c16 k16
  have B16 := F16.binds (ps := ["name"]) fun _ _ _ _ _ _ us hl => match us, hl with | [_], _ => rfl
  have F17 := fun_mk (st := s_wrong_entry) l17 c17 k17
  have B17 := F17.binds (ps := ["row"]) fun _ _ _ _ _ _ us hl => match us, hl with | [_], _ => rfl
  have F18 := fun_mk (st := s_BadRow___init__) l18 c18 k18
  have B18 := F18.binds (ps := ["self", "index"]) fun _ _ _ _ _ _ us hl => match us, hl with | [_, _], _ => rfl
  have F19 := fun_mk (st := s_with_number) l19 c19 k19
  have B19 := F19.binds (ps := ["word", "field", "number"]) fun _ _ _ _ _ _ us hl => match us, hl with | [_, _, _], _ => rfl
  have F20 := fun_mk (st := s_encode) l20 c20 k20
  have B20 := F20.binds (ps := ["row"]) fun _ _ _ _ _ _ us hl => match us, hl with | [_], _ => rfl
  have F21 := fun_mk (st := s__law_asked) l21 c21 k21
  have B21 := F21.binds (ps := ["row"]) fun _ _ _ _ _ _ us hl => match us, hl with | [_], _ => rfl
  have F22 := fun_mk (st := s__law_jump_code) l22 c22 k22
  have B22 := F22.binds (ps := ["row"]) fun _ _ _ _ _ _ us hl => match us, hl with | [_], _ => rfl
  have F23 := fun_mk (st := s__law_branch_code) l23 c23 k23
  have B23 := F23.binds (ps := ["form", "row"]) fun _ _ _ _ _ _ us hl => match us, hl with | [_, _], _ => rfl
  have F24 := fun_mk (st := s__law_code) l24 c24 k24
  have B24 := F24.binds (ps := ["form", "row"]) fun _ _ _ _ _ _ us hl => match us, hl with | [_, _], _ => rfl
  have F25 := fun_mk (st := s__law_right) l25 c25 k25
  have B25 := F25.binds (ps := ["row"]) fun _ _ _ _ _ _ us hl => match us, hl with | [_], _ => rfl
  have F26 := fun_mk (st := s__law_base_told) l26 c26 k26
  have B26 := F26.binds (ps := ["row"]) fun _ _ _ _ _ _ us hl => match us, hl with | [_], _ => rfl
  have F27 := fun_mk (st := s_law) l27 c27 k27
  have B27 := F27.binds (ps := ["script"]) fun _ _ _ _ _ _ us hl => match us, hl with | [_], _ => rfl
  refine ⟨PySem.W.fnOf "law" "law" (defArgs s_law) (defBody s_law) (defScope s_law) .none kV27 dc27 pm27 an27 cd27 ct27, fun s v => .of_eq rfl, (M.Env.mk K (fun s => if s = "BadRow" then C_BadRow else if s = "RunsError" then C_RunsError else if s = "Unlike" then C_Unlike else if s = "Unknown" then C_Unknown else if s = "Stray" then C_Stray else if s = "BadNumber" then C_BadNumber else if s = "BadLength" then C_BadLength else if s = "Twice" then C_Twice else if s = "BadName" then C_BadName else if s = "BadText" then C_BadText else if s = "BadDepth" then C_BadDepth else if s = "BadLine" then C_BadLine else if s = "BadSite" then C_BadSite else if s = "BadSpot" then C_BadSpot else if s = "BadFlow" then C_BadFlow else if s = "NoMain" then C_NoMain else if s = "Missing" then C_Missing else if s = "NoUnit" then C_NoUnit else if s = "BadFree" then C_BadFree else if s = "TooMany" then C_TooMany else if s = "BadPass" then C_BadPass else if s = "BadBase" then C_BadBase else 0) (fun s => if s = "ROWS" then (.ref d_ROWS) else if s = "BOUNDS" then (.ref d_BOUNDS) else if s = "FORMS" then (.ref d_FORMS) else if s = "BITS" then (.ref d_BITS) else .ref 0) none), rfl, fun base _ _ => ?_⟩
  have D_FORMS : KDict K w d_FORMS es_FORMS n_FORMS := ⟨zD_FORMS, zL_FORMS, zS_FORMS⟩
  have kk_FORMS_k0 : ∀ S : Sta, S.G = (M.Env.mk K (fun s => if s = "BadRow" then C_BadRow else if s = "RunsError" then C_RunsError else if s = "Unlike" then C_Unlike else if s = "Unknown" then C_Unknown else if s = "Stray" then C_Stray else if s = "BadNumber" then C_BadNumber else if s = "BadLength" then C_BadLength else if s = "Twice" then C_Twice else if s = "BadName" then C_BadName else if s = "BadText" then C_BadText else if s = "BadDepth" then C_BadDepth else if s = "BadLine" then C_BadLine else if s = "BadSite" then C_BadSite else if s = "BadSpot" then C_BadSpot else if s = "BadFlow" then C_BadFlow else if s = "NoMain" then C_NoMain else if s = "Missing" then C_Missing else if s = "NoUnit" then C_NoUnit else if s = "BadFree" then C_BadFree else if s = "TooMany" then C_TooMany else if s = "BadPass" then C_BadPass else if s = "BadBase" then C_BadBase else 0) (fun s => if s = "ROWS" then (.ref d_ROWS) else if s = "BOUNDS" then (.ref d_BOUNDS) else if s = "FORMS" then (.ref d_FORMS) else if s = "BITS" then (.ref d_BITS) else .ref 0) none) → Rv S (T.ktp [(T.str ("rd" : Str)), (T.str ("rs1" : Str)), (T.str ("rs2" : Str))]) (.ref p_FORMS_k0) := fun S e => rv_ktp (by rw [e]; exact ⟨_, _, _, zy_FORMS_k0, rfl, rfl, zx_FORMS_k0, zw_FORMS_k0⟩) (RvL.cons (by simp only [Rv]) (RvL.cons (by simp only [Rv]) (RvL.cons (by simp only [Rv]) RvL.nil)))
  have kk_FORMS_k1 : ∀ S : Sta, S.G = (M.Env.mk K (fun s => if s = "BadRow" then C_BadRow else if s = "RunsError" then C_RunsError else if s = "Unlike" then C_Unlike else if s = "Unknown" then C_Unknown else if s = "Stray" then C_Stray else if s = "BadNumber" then C_BadNumber else if s = "BadLength" then C_BadLength else if s = "Twice" then C_Twice else if s = "BadName" then C_BadName else if s = "BadText" then C_BadText else if s = "BadDepth" then C_BadDepth else if s = "BadLine" then C_BadLine else if s = "BadSite" then C_BadSite else if s = "BadSpot" then C_BadSpot else if s = "BadFlow" then C_BadFlow else if s = "NoMain" then C_NoMain else if s = "Missing" then C_Missing else if s = "NoUnit" then C_NoUnit else if s = "BadFree" then C_BadFree else if s = "TooMany" then C_TooMany else if s = "BadPass" then C_BadPass else if s = "BadBase" then C_BadBase else 0) (fun s => if s = "ROWS" then (.ref d_ROWS) else if s = "BOUNDS" then (.ref d_BOUNDS) else if s = "FORMS" then (.ref d_FORMS) else if s = "BITS" then (.ref d_BITS) else .ref 0) none) → Rv S (T.ktp [(T.str ("rd" : Str)), (T.str ("rs1" : Str)), (T.str ("imm" : Str))]) (.ref p_FORMS_k1) := fun S e => rv_ktp (by rw [e]; exact ⟨_, _, _, zy_FORMS_k1, rfl, rfl, zx_FORMS_k1, zw_FORMS_k1⟩) (RvL.cons (by simp only [Rv]) (RvL.cons (by simp only [Rv]) (RvL.cons (by simp only [Rv]) RvL.nil)))
  have kk_FORMS_k2 : ∀ S : Sta, S.G = (M.Env.mk K (fun s => if s = "BadRow" then C_BadRow else if s = "RunsError" then C_RunsError else if s = "Unlike" then C_Unlike else if s = "Unknown" then C_Unknown else if s = "Stray" then C_Stray else if s = "BadNumber" then C_BadNumber else if s = "BadLength" then C_BadLength else if s = "Twice" then C_Twice else if s = "BadName" then C_BadName else if s = "BadText" then C_BadText else if s = "BadDepth" then C_BadDepth else if s = "BadLine" then C_BadLine else if s = "BadSite" then C_BadSite else if s = "BadSpot" then C_BadSpot else if s = "BadFlow" then C_BadFlow else if s = "NoMain" then C_NoMain else if s = "Missing" then C_Missing else if s = "NoUnit" then C_NoUnit else if s = "BadFree" then C_BadFree else if s = "TooMany" then C_TooMany else if s = "BadPass" then C_BadPass else if s = "BadBase" then C_BadBase else 0) (fun s => if s = "ROWS" then (.ref d_ROWS) else if s = "BOUNDS" then (.ref d_BOUNDS) else if s = "FORMS" then (.ref d_FORMS) else if s = "BITS" then (.ref d_BITS) else .ref 0) none) → Rv S (T.ktp [(T.str ("rd" : Str)), (T.str ("rs1" : Str)), (T.str ("amount" : Str))]) (.ref p_FORMS_k2) := fun S e => rv_ktp (by rw [e]; exact ⟨_, _, _, zy_FORMS_k2, rfl, rfl, zx_FORMS_k2, zw_FORMS_k2⟩) (RvL.cons (by simp only [Rv]) (RvL.cons (by simp only [Rv]) (RvL.cons (by simp only [Rv]) RvL.nil)))
  have kk_FORMS_k3 : ∀ S : Sta, S.G = (M.Env.mk K (fun s => if s = "BadRow" then C_BadRow else if s = "RunsError" then C_RunsError else if s = "Unlike" then C_Unlike else if s = "Unknown" then C_Unknown else if s = "Stray" then C_Stray else if s = "BadNumber" then C_BadNumber else if s = "BadLength" then C_BadLength else if s = "Twice" then C_Twice else if s = "BadName" then C_BadName else if s = "BadText" then C_BadText else if s = "BadDepth" then C_BadDepth else if s = "BadLine" then C_BadLine else if s = "BadSite" then C_BadSite else if s = "BadSpot" then C_BadSpot else if s = "BadFlow" then C_BadFlow else if s = "NoMain" then C_NoMain else if s = "Missing" then C_Missing else if s = "NoUnit" then C_NoUnit else if s = "BadFree" then C_BadFree else if s = "TooMany" then C_TooMany else if s = "BadPass" then C_BadPass else if s = "BadBase" then C_BadBase else 0) (fun s => if s = "ROWS" then (.ref d_ROWS) else if s = "BOUNDS" then (.ref d_BOUNDS) else if s = "FORMS" then (.ref d_FORMS) else if s = "BITS" then (.ref d_BITS) else .ref 0) none) → Rv S (T.ktp [(T.str ("rs2" : Str)), (T.str ("rs1" : Str)), (T.str ("parted" : Str))]) (.ref p_FORMS_k3) := fun S e => rv_ktp (by rw [e]; exact ⟨_, _, _, zy_FORMS_k3, rfl, rfl, zx_FORMS_k3, zw_FORMS_k3⟩) (RvL.cons (by simp only [Rv]) (RvL.cons (by simp only [Rv]) (RvL.cons (by simp only [Rv]) RvL.nil)))
  have kk_FORMS_k4 : ∀ S : Sta, S.G = (M.Env.mk K (fun s => if s = "BadRow" then C_BadRow else if s = "RunsError" then C_RunsError else if s = "Unlike" then C_Unlike else if s = "Unknown" then C_Unknown else if s = "Stray" then C_Stray else if s = "BadNumber" then C_BadNumber else if s = "BadLength" then C_BadLength else if s = "Twice" then C_Twice else if s = "BadName" then C_BadName else if s = "BadText" then C_BadText else if s = "BadDepth" then C_BadDepth else if s = "BadLine" then C_BadLine else if s = "BadSite" then C_BadSite else if s = "BadSpot" then C_BadSpot else if s = "BadFlow" then C_BadFlow else if s = "NoMain" then C_NoMain else if s = "Missing" then C_Missing else if s = "NoUnit" then C_NoUnit else if s = "BadFree" then C_BadFree else if s = "TooMany" then C_TooMany else if s = "BadPass" then C_BadPass else if s = "BadBase" then C_BadBase else 0) (fun s => if s = "ROWS" then (.ref d_ROWS) else if s = "BOUNDS" then (.ref d_BOUNDS) else if s = "FORMS" then (.ref d_FORMS) else if s = "BITS" then (.ref d_BITS) else .ref 0) none) → Rv S (T.ktp [(T.str ("rs1" : Str)), (T.str ("rs2" : Str)), (T.str ("way" : Str))]) (.ref p_FORMS_k4) := fun S e => rv_ktp (by rw [e]; exact ⟨_, _, _, zy_FORMS_k4, rfl, rfl, zx_FORMS_k4, zw_FORMS_k4⟩) (RvL.cons (by simp only [Rv]) (RvL.cons (by simp only [Rv]) (RvL.cons (by simp only [Rv]) RvL.nil)))
  have kk_FORMS_k5 : ∀ S : Sta, S.G = (M.Env.mk K (fun s => if s = "BadRow" then C_BadRow else if s = "RunsError" then C_RunsError else if s = "Unlike" then C_Unlike else if s = "Unknown" then C_Unknown else if s = "Stray" then C_Stray else if s = "BadNumber" then C_BadNumber else if s = "BadLength" then C_BadLength else if s = "Twice" then C_Twice else if s = "BadName" then C_BadName else if s = "BadText" then C_BadText else if s = "BadDepth" then C_BadDepth else if s = "BadLine" then C_BadLine else if s = "BadSite" then C_BadSite else if s = "BadSpot" then C_BadSpot else if s = "BadFlow" then C_BadFlow else if s = "NoMain" then C_NoMain else if s = "Missing" then C_Missing else if s = "NoUnit" then C_NoUnit else if s = "BadFree" then C_BadFree else if s = "TooMany" then C_TooMany else if s = "BadPass" then C_BadPass else if s = "BadBase" then C_BadBase else 0) (fun s => if s = "ROWS" then (.ref d_ROWS) else if s = "BOUNDS" then (.ref d_BOUNDS) else if s = "FORMS" then (.ref d_FORMS) else if s = "BITS" then (.ref d_BITS) else .ref 0) none) → Rv S (T.ktp [(T.str ("rd" : Str)), (T.str ("value" : Str))]) (.ref p_FORMS_k5) := fun S e => rv_ktp (by rw [e]; exact ⟨_, _, _, zy_FORMS_k5, rfl, rfl, zx_FORMS_k5, zw_FORMS_k5⟩) (RvL.cons (by simp only [Rv]) (RvL.cons (by simp only [Rv]) RvL.nil))
  have kk_FORMS_k6 : ∀ S : Sta, S.G = (M.Env.mk K (fun s => if s = "BadRow" then C_BadRow else if s = "RunsError" then C_RunsError else if s = "Unlike" then C_Unlike else if s = "Unknown" then C_Unknown else if s = "Stray" then C_Stray else if s = "BadNumber" then C_BadNumber else if s = "BadLength" then C_BadLength else if s = "Twice" then C_Twice else if s = "BadName" then C_BadName else if s = "BadText" then C_BadText else if s = "BadDepth" then C_BadDepth else if s = "BadLine" then C_BadLine else if s = "BadSite" then C_BadSite else if s = "BadSpot" then C_BadSpot else if s = "BadFlow" then C_BadFlow else if s = "NoMain" then C_NoMain else if s = "Missing" then C_Missing else if s = "NoUnit" then C_NoUnit else if s = "BadFree" then C_BadFree else if s = "TooMany" then C_TooMany else if s = "BadPass" then C_BadPass else if s = "BadBase" then C_BadBase else 0) (fun s => if s = "ROWS" then (.ref d_ROWS) else if s = "BOUNDS" then (.ref d_BOUNDS) else if s = "FORMS" then (.ref d_FORMS) else if s = "BITS" then (.ref d_BITS) else .ref 0) none) → Rv S (T.ktp [(T.str ("rd" : Str)), (T.str ("far" : Str))]) (.ref p_FORMS_k6) := fun S e => rv_ktp (by rw [e]; exact ⟨_, _, _, zy_FORMS_k6, rfl, rfl, zx_FORMS_k6, zw_FORMS_k6⟩) (RvL.cons (by simp only [Rv]) (RvL.cons (by simp only [Rv]) RvL.nil))
  have kk_FORMS_k7 : ∀ S : Sta, S.G = (M.Env.mk K (fun s => if s = "BadRow" then C_BadRow else if s = "RunsError" then C_RunsError else if s = "Unlike" then C_Unlike else if s = "Unknown" then C_Unknown else if s = "Stray" then C_Stray else if s = "BadNumber" then C_BadNumber else if s = "BadLength" then C_BadLength else if s = "Twice" then C_Twice else if s = "BadName" then C_BadName else if s = "BadText" then C_BadText else if s = "BadDepth" then C_BadDepth else if s = "BadLine" then C_BadLine else if s = "BadSite" then C_BadSite else if s = "BadSpot" then C_BadSpot else if s = "BadFlow" then C_BadFlow else if s = "NoMain" then C_NoMain else if s = "Missing" then C_Missing else if s = "NoUnit" then C_NoUnit else if s = "BadFree" then C_BadFree else if s = "TooMany" then C_TooMany else if s = "BadPass" then C_BadPass else if s = "BadBase" then C_BadBase else 0) (fun s => if s = "ROWS" then (.ref d_ROWS) else if s = "BOUNDS" then (.ref d_BOUNDS) else if s = "FORMS" then (.ref d_FORMS) else if s = "BITS" then (.ref d_BITS) else .ref 0) none) → Rv S (T.ktp []) (.ref p_FORMS_k7) := fun S e => rv_ktp (by rw [e]; exact ⟨_, _, _, zy_FORMS_k7, rfl, rfl, zx_FORMS_k7, zw_FORMS_k7⟩) RvL.nil
  have kr_FORMS : KRows (M.Env.mk K (fun s => if s = "BadRow" then C_BadRow else if s = "RunsError" then C_RunsError else if s = "Unlike" then C_Unlike else if s = "Unknown" then C_Unknown else if s = "Stray" then C_Stray else if s = "BadNumber" then C_BadNumber else if s = "BadLength" then C_BadLength else if s = "Twice" then C_Twice else if s = "BadName" then C_BadName else if s = "BadText" then C_BadText else if s = "BadDepth" then C_BadDepth else if s = "BadLine" then C_BadLine else if s = "BadSite" then C_BadSite else if s = "BadSpot" then C_BadSpot else if s = "BadFlow" then C_BadFlow else if s = "NoMain" then C_NoMain else if s = "Missing" then C_Missing else if s = "NoUnit" then C_NoUnit else if s = "BadFree" then C_BadFree else if s = "TooMany" then C_TooMany else if s = "BadPass" then C_BadPass else if s = "BadBase" then C_BadBase else 0) (fun s => if s = "ROWS" then (.ref d_ROWS) else if s = "BOUNDS" then (.ref d_BOUNDS) else if s = "FORMS" then (.ref d_FORMS) else if s = "BITS" then (.ref d_BITS) else .ref 0) none) d_FORMS rows_FORMS := by
    intro r hr
    simp only [rows_FORMS, List.mem_cons, List.not_mem_nil, or_false] at hr
    rcases hr with rfl | rfl | rfl | rfl | rfl | rfl | rfl | rfl
    · exact ⟨_, .ref p_FORMS_k0, ze_FORMS_k0, rfl, kk_FORMS_k0⟩
    · exact ⟨_, .ref p_FORMS_k1, ze_FORMS_k1, rfl, kk_FORMS_k1⟩
    · exact ⟨_, .ref p_FORMS_k2, ze_FORMS_k2, rfl, kk_FORMS_k2⟩
    · exact ⟨_, .ref p_FORMS_k3, ze_FORMS_k3, rfl, kk_FORMS_k3⟩
    · exact ⟨_, .ref p_FORMS_k4, ze_FORMS_k4, rfl, kk_FORMS_k4⟩
    · exact ⟨_, .ref p_FORMS_k5, ze_FORMS_k5, rfl, kk_FORMS_k5⟩
    · exact ⟨_, .ref p_FORMS_k6, ze_FORMS_k6, rfl, kk_FORMS_k6⟩
    · exact ⟨_, .ref p_FORMS_k7, ze_FORMS_k7, rfl, kk_FORMS_k7⟩
  have D_ROWS : KDict K w d_ROWS es_ROWS n_ROWS := ⟨zD_ROWS, zL_ROWS, zS_ROWS⟩
  have kk_ROWS_k0 : ∀ S : Sta, S.G = (M.Env.mk K (fun s => if s = "BadRow" then C_BadRow else if s = "RunsError" then C_RunsError else if s = "Unlike" then C_Unlike else if s = "Unknown" then C_Unknown else if s = "Stray" then C_Stray else if s = "BadNumber" then C_BadNumber else if s = "BadLength" then C_BadLength else if s = "Twice" then C_Twice else if s = "BadName" then C_BadName else if s = "BadText" then C_BadText else if s = "BadDepth" then C_BadDepth else if s = "BadLine" then C_BadLine else if s = "BadSite" then C_BadSite else if s = "BadSpot" then C_BadSpot else if s = "BadFlow" then C_BadFlow else if s = "NoMain" then C_NoMain else if s = "Missing" then C_Missing else if s = "NoUnit" then C_NoUnit else if s = "BadFree" then C_BadFree else if s = "TooMany" then C_TooMany else if s = "BadPass" then C_BadPass else if s = "BadBase" then C_BadBase else 0) (fun s => if s = "ROWS" then (.ref d_ROWS) else if s = "BOUNDS" then (.ref d_BOUNDS) else if s = "FORMS" then (.ref d_FORMS) else if s = "BITS" then (.ref d_BITS) else .ref 0) none) → Rv S (T.ktp [(T.str ("three" : Str)), (T.int (51)), (T.int (0)), (T.int (0))]) (.ref p_ROWS_k0) := fun S e => rv_ktp (by rw [e]; exact ⟨_, _, _, zy_ROWS_k0, rfl, rfl, zx_ROWS_k0, zw_ROWS_k0⟩) (RvL.cons (by simp only [Rv]) (RvL.cons (by simp only [Rv]) (RvL.cons (by simp only [Rv]) (RvL.cons (by simp only [Rv]) RvL.nil))))
  have kk_ROWS_k1 : ∀ S : Sta, S.G = (M.Env.mk K (fun s => if s = "BadRow" then C_BadRow else if s = "RunsError" then C_RunsError else if s = "Unlike" then C_Unlike else if s = "Unknown" then C_Unknown else if s = "Stray" then C_Stray else if s = "BadNumber" then C_BadNumber else if s = "BadLength" then C_BadLength else if s = "Twice" then C_Twice else if s = "BadName" then C_BadName else if s = "BadText" then C_BadText else if s = "BadDepth" then C_BadDepth else if s = "BadLine" then C_BadLine else if s = "BadSite" then C_BadSite else if s = "BadSpot" then C_BadSpot else if s = "BadFlow" then C_BadFlow else if s = "NoMain" then C_NoMain else if s = "Missing" then C_Missing else if s = "NoUnit" then C_NoUnit else if s = "BadFree" then C_BadFree else if s = "TooMany" then C_TooMany else if s = "BadPass" then C_BadPass else if s = "BadBase" then C_BadBase else 0) (fun s => if s = "ROWS" then (.ref d_ROWS) else if s = "BOUNDS" then (.ref d_BOUNDS) else if s = "FORMS" then (.ref d_FORMS) else if s = "BITS" then (.ref d_BITS) else .ref 0) none) → Rv S (T.ktp [(T.str ("three" : Str)), (T.int (51)), (T.int (0)), (T.int (32))]) (.ref p_ROWS_k1) := fun S e => rv_ktp (by rw [e]; exact ⟨_, _, _, zy_ROWS_k1, rfl, rfl, zx_ROWS_k1, zw_ROWS_k1⟩) (RvL.cons (by simp only [Rv]) (RvL.cons (by simp only [Rv]) (RvL.cons (by simp only [Rv]) (RvL.cons (by simp only [Rv]) RvL.nil))))
  have kk_ROWS_k2 : ∀ S : Sta, S.G = (M.Env.mk K (fun s => if s = "BadRow" then C_BadRow else if s = "RunsError" then C_RunsError else if s = "Unlike" then C_Unlike else if s = "Unknown" then C_Unknown else if s = "Stray" then C_Stray else if s = "BadNumber" then C_BadNumber else if s = "BadLength" then C_BadLength else if s = "Twice" then C_Twice else if s = "BadName" then C_BadName else if s = "BadText" then C_BadText else if s = "BadDepth" then C_BadDepth else if s = "BadLine" then C_BadLine else if s = "BadSite" then C_BadSite else if s = "BadSpot" then C_BadSpot else if s = "BadFlow" then C_BadFlow else if s = "NoMain" then C_NoMain else if s = "Missing" then C_Missing else if s = "NoUnit" then C_NoUnit else if s = "BadFree" then C_BadFree else if s = "TooMany" then C_TooMany else if s = "BadPass" then C_BadPass else if s = "BadBase" then C_BadBase else 0) (fun s => if s = "ROWS" then (.ref d_ROWS) else if s = "BOUNDS" then (.ref d_BOUNDS) else if s = "FORMS" then (.ref d_FORMS) else if s = "BITS" then (.ref d_BITS) else .ref 0) none) → Rv S (T.ktp [(T.str ("three" : Str)), (T.int (51)), (T.int (1)), (T.int (0))]) (.ref p_ROWS_k2) := fun S e => rv_ktp (by rw [e]; exact ⟨_, _, _, zy_ROWS_k2, rfl, rfl, zx_ROWS_k2, zw_ROWS_k2⟩) (RvL.cons (by simp only [Rv]) (RvL.cons (by simp only [Rv]) (RvL.cons (by simp only [Rv]) (RvL.cons (by simp only [Rv]) RvL.nil))))
  have kk_ROWS_k3 : ∀ S : Sta, S.G = (M.Env.mk K (fun s => if s = "BadRow" then C_BadRow else if s = "RunsError" then C_RunsError else if s = "Unlike" then C_Unlike else if s = "Unknown" then C_Unknown else if s = "Stray" then C_Stray else if s = "BadNumber" then C_BadNumber else if s = "BadLength" then C_BadLength else if s = "Twice" then C_Twice else if s = "BadName" then C_BadName else if s = "BadText" then C_BadText else if s = "BadDepth" then C_BadDepth else if s = "BadLine" then C_BadLine else if s = "BadSite" then C_BadSite else if s = "BadSpot" then C_BadSpot else if s = "BadFlow" then C_BadFlow else if s = "NoMain" then C_NoMain else if s = "Missing" then C_Missing else if s = "NoUnit" then C_NoUnit else if s = "BadFree" then C_BadFree else if s = "TooMany" then C_TooMany else if s = "BadPass" then C_BadPass else if s = "BadBase" then C_BadBase else 0) (fun s => if s = "ROWS" then (.ref d_ROWS) else if s = "BOUNDS" then (.ref d_BOUNDS) else if s = "FORMS" then (.ref d_FORMS) else if s = "BITS" then (.ref d_BITS) else .ref 0) none) → Rv S (T.ktp [(T.str ("three" : Str)), (T.int (51)), (T.int (2)), (T.int (0))]) (.ref p_ROWS_k3) := fun S e => rv_ktp (by rw [e]; exact ⟨_, _, _, zy_ROWS_k3, rfl, rfl, zx_ROWS_k3, zw_ROWS_k3⟩) (RvL.cons (by simp only [Rv]) (RvL.cons (by simp only [Rv]) (RvL.cons (by simp only [Rv]) (RvL.cons (by simp only [Rv]) RvL.nil))))
  have kk_ROWS_k4 : ∀ S : Sta, S.G = (M.Env.mk K (fun s => if s = "BadRow" then C_BadRow else if s = "RunsError" then C_RunsError else if s = "Unlike" then C_Unlike else if s = "Unknown" then C_Unknown else if s = "Stray" then C_Stray else if s = "BadNumber" then C_BadNumber else if s = "BadLength" then C_BadLength else if s = "Twice" then C_Twice else if s = "BadName" then C_BadName else if s = "BadText" then C_BadText else if s = "BadDepth" then C_BadDepth else if s = "BadLine" then C_BadLine else if s = "BadSite" then C_BadSite else if s = "BadSpot" then C_BadSpot else if s = "BadFlow" then C_BadFlow else if s = "NoMain" then C_NoMain else if s = "Missing" then C_Missing else if s = "NoUnit" then C_NoUnit else if s = "BadFree" then C_BadFree else if s = "TooMany" then C_TooMany else if s = "BadPass" then C_BadPass else if s = "BadBase" then C_BadBase else 0) (fun s => if s = "ROWS" then (.ref d_ROWS) else if s = "BOUNDS" then (.ref d_BOUNDS) else if s = "FORMS" then (.ref d_FORMS) else if s = "BITS" then (.ref d_BITS) else .ref 0) none) → Rv S (T.ktp [(T.str ("three" : Str)), (T.int (51)), (T.int (3)), (T.int (0))]) (.ref p_ROWS_k4) := fun S e => rv_ktp (by rw [e]; exact ⟨_, _, _, zy_ROWS_k4, rfl, rfl, zx_ROWS_k4, zw_ROWS_k4⟩) (RvL.cons (by simp only [Rv]) (RvL.cons (by simp only [Rv]) (RvL.cons (by simp only [Rv]) (RvL.cons (by simp only [Rv]) RvL.nil))))
  have kk_ROWS_k5 : ∀ S : Sta, S.G = (M.Env.mk K (fun s => if s = "BadRow" then C_BadRow else if s = "RunsError" then C_RunsError else if s = "Unlike" then C_Unlike else if s = "Unknown" then C_Unknown else if s = "Stray" then C_Stray else if s = "BadNumber" then C_BadNumber else if s = "BadLength" then C_BadLength else if s = "Twice" then C_Twice else if s = "BadName" then C_BadName else if s = "BadText" then C_BadText else if s = "BadDepth" then C_BadDepth else if s = "BadLine" then C_BadLine else if s = "BadSite" then C_BadSite else if s = "BadSpot" then C_BadSpot else if s = "BadFlow" then C_BadFlow else if s = "NoMain" then C_NoMain else if s = "Missing" then C_Missing else if s = "NoUnit" then C_NoUnit else if s = "BadFree" then C_BadFree else if s = "TooMany" then C_TooMany else if s = "BadPass" then C_BadPass else if s = "BadBase" then C_BadBase else 0) (fun s => if s = "ROWS" then (.ref d_ROWS) else if s = "BOUNDS" then (.ref d_BOUNDS) else if s = "FORMS" then (.ref d_FORMS) else if s = "BITS" then (.ref d_BITS) else .ref 0) none) → Rv S (T.ktp [(T.str ("three" : Str)), (T.int (51)), (T.int (4)), (T.int (0))]) (.ref p_ROWS_k5) := fun S e => rv_ktp (by rw [e]; exact ⟨_, _, _, zy_ROWS_k5, rfl, rfl, zx_ROWS_k5, zw_ROWS_k5⟩) (RvL.cons (by simp only [Rv]) (RvL.cons (by simp only [Rv]) (RvL.cons (by simp only [Rv]) (RvL.cons (by simp only [Rv]) RvL.nil))))
  have kk_ROWS_k6 : ∀ S : Sta, S.G = (M.Env.mk K (fun s => if s = "BadRow" then C_BadRow else if s = "RunsError" then C_RunsError else if s = "Unlike" then C_Unlike else if s = "Unknown" then C_Unknown else if s = "Stray" then C_Stray else if s = "BadNumber" then C_BadNumber else if s = "BadLength" then C_BadLength else if s = "Twice" then C_Twice else if s = "BadName" then C_BadName else if s = "BadText" then C_BadText else if s = "BadDepth" then C_BadDepth else if s = "BadLine" then C_BadLine else if s = "BadSite" then C_BadSite else if s = "BadSpot" then C_BadSpot else if s = "BadFlow" then C_BadFlow else if s = "NoMain" then C_NoMain else if s = "Missing" then C_Missing else if s = "NoUnit" then C_NoUnit else if s = "BadFree" then C_BadFree else if s = "TooMany" then C_TooMany else if s = "BadPass" then C_BadPass else if s = "BadBase" then C_BadBase else 0) (fun s => if s = "ROWS" then (.ref d_ROWS) else if s = "BOUNDS" then (.ref d_BOUNDS) else if s = "FORMS" then (.ref d_FORMS) else if s = "BITS" then (.ref d_BITS) else .ref 0) none) → Rv S (T.ktp [(T.str ("three" : Str)), (T.int (51)), (T.int (5)), (T.int (0))]) (.ref p_ROWS_k6) := fun S e => rv_ktp (by rw [e]; exact ⟨_, _, _, zy_ROWS_k6, rfl, rfl, zx_ROWS_k6, zw_ROWS_k6⟩) (RvL.cons (by simp only [Rv]) (RvL.cons (by simp only [Rv]) (RvL.cons (by simp only [Rv]) (RvL.cons (by simp only [Rv]) RvL.nil))))
  have kk_ROWS_k7 : ∀ S : Sta, S.G = (M.Env.mk K (fun s => if s = "BadRow" then C_BadRow else if s = "RunsError" then C_RunsError else if s = "Unlike" then C_Unlike else if s = "Unknown" then C_Unknown else if s = "Stray" then C_Stray else if s = "BadNumber" then C_BadNumber else if s = "BadLength" then C_BadLength else if s = "Twice" then C_Twice else if s = "BadName" then C_BadName else if s = "BadText" then C_BadText else if s = "BadDepth" then C_BadDepth else if s = "BadLine" then C_BadLine else if s = "BadSite" then C_BadSite else if s = "BadSpot" then C_BadSpot else if s = "BadFlow" then C_BadFlow else if s = "NoMain" then C_NoMain else if s = "Missing" then C_Missing else if s = "NoUnit" then C_NoUnit else if s = "BadFree" then C_BadFree else if s = "TooMany" then C_TooMany else if s = "BadPass" then C_BadPass else if s = "BadBase" then C_BadBase else 0) (fun s => if s = "ROWS" then (.ref d_ROWS) else if s = "BOUNDS" then (.ref d_BOUNDS) else if s = "FORMS" then (.ref d_FORMS) else if s = "BITS" then (.ref d_BITS) else .ref 0) none) → Rv S (T.ktp [(T.str ("three" : Str)), (T.int (51)), (T.int (5)), (T.int (32))]) (.ref p_ROWS_k7) := fun S e => rv_ktp (by rw [e]; exact ⟨_, _, _, zy_ROWS_k7, rfl, rfl, zx_ROWS_k7, zw_ROWS_k7⟩) (RvL.cons (by simp only [Rv]) (RvL.cons (by simp only [Rv]) (RvL.cons (by simp only [Rv]) (RvL.cons (by simp only [Rv]) RvL.nil))))
  have kk_ROWS_k8 : ∀ S : Sta, S.G = (M.Env.mk K (fun s => if s = "BadRow" then C_BadRow else if s = "RunsError" then C_RunsError else if s = "Unlike" then C_Unlike else if s = "Unknown" then C_Unknown else if s = "Stray" then C_Stray else if s = "BadNumber" then C_BadNumber else if s = "BadLength" then C_BadLength else if s = "Twice" then C_Twice else if s = "BadName" then C_BadName else if s = "BadText" then C_BadText else if s = "BadDepth" then C_BadDepth else if s = "BadLine" then C_BadLine else if s = "BadSite" then C_BadSite else if s = "BadSpot" then C_BadSpot else if s = "BadFlow" then C_BadFlow else if s = "NoMain" then C_NoMain else if s = "Missing" then C_Missing else if s = "NoUnit" then C_NoUnit else if s = "BadFree" then C_BadFree else if s = "TooMany" then C_TooMany else if s = "BadPass" then C_BadPass else if s = "BadBase" then C_BadBase else 0) (fun s => if s = "ROWS" then (.ref d_ROWS) else if s = "BOUNDS" then (.ref d_BOUNDS) else if s = "FORMS" then (.ref d_FORMS) else if s = "BITS" then (.ref d_BITS) else .ref 0) none) → Rv S (T.ktp [(T.str ("three" : Str)), (T.int (51)), (T.int (6)), (T.int (0))]) (.ref p_ROWS_k8) := fun S e => rv_ktp (by rw [e]; exact ⟨_, _, _, zy_ROWS_k8, rfl, rfl, zx_ROWS_k8, zw_ROWS_k8⟩) (RvL.cons (by simp only [Rv]) (RvL.cons (by simp only [Rv]) (RvL.cons (by simp only [Rv]) (RvL.cons (by simp only [Rv]) RvL.nil))))
  have kk_ROWS_k9 : ∀ S : Sta, S.G = (M.Env.mk K (fun s => if s = "BadRow" then C_BadRow else if s = "RunsError" then C_RunsError else if s = "Unlike" then C_Unlike else if s = "Unknown" then C_Unknown else if s = "Stray" then C_Stray else if s = "BadNumber" then C_BadNumber else if s = "BadLength" then C_BadLength else if s = "Twice" then C_Twice else if s = "BadName" then C_BadName else if s = "BadText" then C_BadText else if s = "BadDepth" then C_BadDepth else if s = "BadLine" then C_BadLine else if s = "BadSite" then C_BadSite else if s = "BadSpot" then C_BadSpot else if s = "BadFlow" then C_BadFlow else if s = "NoMain" then C_NoMain else if s = "Missing" then C_Missing else if s = "NoUnit" then C_NoUnit else if s = "BadFree" then C_BadFree else if s = "TooMany" then C_TooMany else if s = "BadPass" then C_BadPass else if s = "BadBase" then C_BadBase else 0) (fun s => if s = "ROWS" then (.ref d_ROWS) else if s = "BOUNDS" then (.ref d_BOUNDS) else if s = "FORMS" then (.ref d_FORMS) else if s = "BITS" then (.ref d_BITS) else .ref 0) none) → Rv S (T.ktp [(T.str ("three" : Str)), (T.int (51)), (T.int (7)), (T.int (0))]) (.ref p_ROWS_k9) := fun S e => rv_ktp (by rw [e]; exact ⟨_, _, _, zy_ROWS_k9, rfl, rfl, zx_ROWS_k9, zw_ROWS_k9⟩) (RvL.cons (by simp only [Rv]) (RvL.cons (by simp only [Rv]) (RvL.cons (by simp only [Rv]) (RvL.cons (by simp only [Rv]) RvL.nil))))
  have kk_ROWS_k10 : ∀ S : Sta, S.G = (M.Env.mk K (fun s => if s = "BadRow" then C_BadRow else if s = "RunsError" then C_RunsError else if s = "Unlike" then C_Unlike else if s = "Unknown" then C_Unknown else if s = "Stray" then C_Stray else if s = "BadNumber" then C_BadNumber else if s = "BadLength" then C_BadLength else if s = "Twice" then C_Twice else if s = "BadName" then C_BadName else if s = "BadText" then C_BadText else if s = "BadDepth" then C_BadDepth else if s = "BadLine" then C_BadLine else if s = "BadSite" then C_BadSite else if s = "BadSpot" then C_BadSpot else if s = "BadFlow" then C_BadFlow else if s = "NoMain" then C_NoMain else if s = "Missing" then C_Missing else if s = "NoUnit" then C_NoUnit else if s = "BadFree" then C_BadFree else if s = "TooMany" then C_TooMany else if s = "BadPass" then C_BadPass else if s = "BadBase" then C_BadBase else 0) (fun s => if s = "ROWS" then (.ref d_ROWS) else if s = "BOUNDS" then (.ref d_BOUNDS) else if s = "FORMS" then (.ref d_FORMS) else if s = "BITS" then (.ref d_BITS) else .ref 0) none) → Rv S (T.ktp [(T.str ("three" : Str)), (T.int (51)), (T.int (0)), (T.int (1))]) (.ref p_ROWS_k10) := fun S e => rv_ktp (by rw [e]; exact ⟨_, _, _, zy_ROWS_k10, rfl, rfl, zx_ROWS_k10, zw_ROWS_k10⟩) (RvL.cons (by simp only [Rv]) (RvL.cons (by simp only [Rv]) (RvL.cons (by simp only [Rv]) (RvL.cons (by simp only [Rv]) RvL.nil))))
  have kk_ROWS_k11 : ∀ S : Sta, S.G = (M.Env.mk K (fun s => if s = "BadRow" then C_BadRow else if s = "RunsError" then C_RunsError else if s = "Unlike" then C_Unlike else if s = "Unknown" then C_Unknown else if s = "Stray" then C_Stray else if s = "BadNumber" then C_BadNumber else if s = "BadLength" then C_BadLength else if s = "Twice" then C_Twice else if s = "BadName" then C_BadName else if s = "BadText" then C_BadText else if s = "BadDepth" then C_BadDepth else if s = "BadLine" then C_BadLine else if s = "BadSite" then C_BadSite else if s = "BadSpot" then C_BadSpot else if s = "BadFlow" then C_BadFlow else if s = "NoMain" then C_NoMain else if s = "Missing" then C_Missing else if s = "NoUnit" then C_NoUnit else if s = "BadFree" then C_BadFree else if s = "TooMany" then C_TooMany else if s = "BadPass" then C_BadPass else if s = "BadBase" then C_BadBase else 0) (fun s => if s = "ROWS" then (.ref d_ROWS) else if s = "BOUNDS" then (.ref d_BOUNDS) else if s = "FORMS" then (.ref d_FORMS) else if s = "BITS" then (.ref d_BITS) else .ref 0) none) → Rv S (T.ktp [(T.str ("three" : Str)), (T.int (51)), (T.int (1)), (T.int (1))]) (.ref p_ROWS_k11) := fun S e => rv_ktp (by rw [e]; exact ⟨_, _, _, zy_ROWS_k11, rfl, rfl, zx_ROWS_k11, zw_ROWS_k11⟩) (RvL.cons (by simp only [Rv]) (RvL.cons (by simp only [Rv]) (RvL.cons (by simp only [Rv]) (RvL.cons (by simp only [Rv]) RvL.nil))))
  have kk_ROWS_k12 : ∀ S : Sta, S.G = (M.Env.mk K (fun s => if s = "BadRow" then C_BadRow else if s = "RunsError" then C_RunsError else if s = "Unlike" then C_Unlike else if s = "Unknown" then C_Unknown else if s = "Stray" then C_Stray else if s = "BadNumber" then C_BadNumber else if s = "BadLength" then C_BadLength else if s = "Twice" then C_Twice else if s = "BadName" then C_BadName else if s = "BadText" then C_BadText else if s = "BadDepth" then C_BadDepth else if s = "BadLine" then C_BadLine else if s = "BadSite" then C_BadSite else if s = "BadSpot" then C_BadSpot else if s = "BadFlow" then C_BadFlow else if s = "NoMain" then C_NoMain else if s = "Missing" then C_Missing else if s = "NoUnit" then C_NoUnit else if s = "BadFree" then C_BadFree else if s = "TooMany" then C_TooMany else if s = "BadPass" then C_BadPass else if s = "BadBase" then C_BadBase else 0) (fun s => if s = "ROWS" then (.ref d_ROWS) else if s = "BOUNDS" then (.ref d_BOUNDS) else if s = "FORMS" then (.ref d_FORMS) else if s = "BITS" then (.ref d_BITS) else .ref 0) none) → Rv S (T.ktp [(T.str ("three" : Str)), (T.int (51)), (T.int (2)), (T.int (1))]) (.ref p_ROWS_k12) := fun S e => rv_ktp (by rw [e]; exact ⟨_, _, _, zy_ROWS_k12, rfl, rfl, zx_ROWS_k12, zw_ROWS_k12⟩) (RvL.cons (by simp only [Rv]) (RvL.cons (by simp only [Rv]) (RvL.cons (by simp only [Rv]) (RvL.cons (by simp only [Rv]) RvL.nil))))
  have kk_ROWS_k13 : ∀ S : Sta, S.G = (M.Env.mk K (fun s => if s = "BadRow" then C_BadRow else if s = "RunsError" then C_RunsError else if s = "Unlike" then C_Unlike else if s = "Unknown" then C_Unknown else if s = "Stray" then C_Stray else if s = "BadNumber" then C_BadNumber else if s = "BadLength" then C_BadLength else if s = "Twice" then C_Twice else if s = "BadName" then C_BadName else if s = "BadText" then C_BadText else if s = "BadDepth" then C_BadDepth else if s = "BadLine" then C_BadLine else if s = "BadSite" then C_BadSite else if s = "BadSpot" then C_BadSpot else if s = "BadFlow" then C_BadFlow else if s = "NoMain" then C_NoMain else if s = "Missing" then C_Missing else if s = "NoUnit" then C_NoUnit else if s = "BadFree" then C_BadFree else if s = "TooMany" then C_TooMany else if s = "BadPass" then C_BadPass else if s = "BadBase" then C_BadBase else 0) (fun s => if s = "ROWS" then (.ref d_ROWS) else if s = "BOUNDS" then (.ref d_BOUNDS) else if s = "FORMS" then (.ref d_FORMS) else if s = "BITS" then (.ref d_BITS) else .ref 0) none) → Rv S (T.ktp [(T.str ("three" : Str)), (T.int (51)), (T.int (3)), (T.int (1))]) (.ref p_ROWS_k13) := fun S e => rv_ktp (by rw [e]; exact ⟨_, _, _, zy_ROWS_k13, rfl, rfl, zx_ROWS_k13, zw_ROWS_k13⟩) (RvL.cons (by simp only [Rv]) (RvL.cons (by simp only [Rv]) (RvL.cons (by simp only [Rv]) (RvL.cons (by simp only [Rv]) RvL.nil))))
  have kk_ROWS_k14 : ∀ S : Sta, S.G = (M.Env.mk K (fun s => if s = "BadRow" then C_BadRow else if s = "RunsError" then C_RunsError else if s = "Unlike" then C_Unlike else if s = "Unknown" then C_Unknown else if s = "Stray" then C_Stray else if s = "BadNumber" then C_BadNumber else if s = "BadLength" then C_BadLength else if s = "Twice" then C_Twice else if s = "BadName" then C_BadName else if s = "BadText" then C_BadText else if s = "BadDepth" then C_BadDepth else if s = "BadLine" then C_BadLine else if s = "BadSite" then C_BadSite else if s = "BadSpot" then C_BadSpot else if s = "BadFlow" then C_BadFlow else if s = "NoMain" then C_NoMain else if s = "Missing" then C_Missing else if s = "NoUnit" then C_NoUnit else if s = "BadFree" then C_BadFree else if s = "TooMany" then C_TooMany else if s = "BadPass" then C_BadPass else if s = "BadBase" then C_BadBase else 0) (fun s => if s = "ROWS" then (.ref d_ROWS) else if s = "BOUNDS" then (.ref d_BOUNDS) else if s = "FORMS" then (.ref d_FORMS) else if s = "BITS" then (.ref d_BITS) else .ref 0) none) → Rv S (T.ktp [(T.str ("three" : Str)), (T.int (51)), (T.int (4)), (T.int (1))]) (.ref p_ROWS_k14) := fun S e => rv_ktp (by rw [e]; exact ⟨_, _, _, zy_ROWS_k14, rfl, rfl, zx_ROWS_k14, zw_ROWS_k14⟩) (RvL.cons (by simp only [Rv]) (RvL.cons (by simp only [Rv]) (RvL.cons (by simp only [Rv]) (RvL.cons (by simp only [Rv]) RvL.nil))))
  have kk_ROWS_k15 : ∀ S : Sta, S.G = (M.Env.mk K (fun s => if s = "BadRow" then C_BadRow else if s = "RunsError" then C_RunsError else if s = "Unlike" then C_Unlike else if s = "Unknown" then C_Unknown else if s = "Stray" then C_Stray else if s = "BadNumber" then C_BadNumber else if s = "BadLength" then C_BadLength else if s = "Twice" then C_Twice else if s = "BadName" then C_BadName else if s = "BadText" then C_BadText else if s = "BadDepth" then C_BadDepth else if s = "BadLine" then C_BadLine else if s = "BadSite" then C_BadSite else if s = "BadSpot" then C_BadSpot else if s = "BadFlow" then C_BadFlow else if s = "NoMain" then C_NoMain else if s = "Missing" then C_Missing else if s = "NoUnit" then C_NoUnit else if s = "BadFree" then C_BadFree else if s = "TooMany" then C_TooMany else if s = "BadPass" then C_BadPass else if s = "BadBase" then C_BadBase else 0) (fun s => if s = "ROWS" then (.ref d_ROWS) else if s = "BOUNDS" then (.ref d_BOUNDS) else if s = "FORMS" then (.ref d_FORMS) else if s = "BITS" then (.ref d_BITS) else .ref 0) none) → Rv S (T.ktp [(T.str ("three" : Str)), (T.int (51)), (T.int (5)), (T.int (1))]) (.ref p_ROWS_k15) := fun S e => rv_ktp (by rw [e]; exact ⟨_, _, _, zy_ROWS_k15, rfl, rfl, zx_ROWS_k15, zw_ROWS_k15⟩) (RvL.cons (by simp only [Rv]) (RvL.cons (by simp only [Rv]) (RvL.cons (by simp only [Rv]) (RvL.cons (by simp only [Rv]) RvL.nil))))
  have kk_ROWS_k16 : ∀ S : Sta, S.G = (M.Env.mk K (fun s => if s = "BadRow" then C_BadRow else if s = "RunsError" then C_RunsError else if s = "Unlike" then C_Unlike else if s = "Unknown" then C_Unknown else if s = "Stray" then C_Stray else if s = "BadNumber" then C_BadNumber else if s = "BadLength" then C_BadLength else if s = "Twice" then C_Twice else if s = "BadName" then C_BadName else if s = "BadText" then C_BadText else if s = "BadDepth" then C_BadDepth else if s = "BadLine" then C_BadLine else if s = "BadSite" then C_BadSite else if s = "BadSpot" then C_BadSpot else if s = "BadFlow" then C_BadFlow else if s = "NoMain" then C_NoMain else if s = "Missing" then C_Missing else if s = "NoUnit" then C_NoUnit else if s = "BadFree" then C_BadFree else if s = "TooMany" then C_TooMany else if s = "BadPass" then C_BadPass else if s = "BadBase" then C_BadBase else 0) (fun s => if s = "ROWS" then (.ref d_ROWS) else if s = "BOUNDS" then (.ref d_BOUNDS) else if s = "FORMS" then (.ref d_FORMS) else if s = "BITS" then (.ref d_BITS) else .ref 0) none) → Rv S (T.ktp [(T.str ("three" : Str)), (T.int (51)), (T.int (6)), (T.int (1))]) (.ref p_ROWS_k16) := fun S e => rv_ktp (by rw [e]; exact ⟨_, _, _, zy_ROWS_k16, rfl, rfl, zx_ROWS_k16, zw_ROWS_k16⟩) (RvL.cons (by simp only [Rv]) (RvL.cons (by simp only [Rv]) (RvL.cons (by simp only [Rv]) (RvL.cons (by simp only [Rv]) RvL.nil))))
  have kk_ROWS_k17 : ∀ S : Sta, S.G = (M.Env.mk K (fun s => if s = "BadRow" then C_BadRow else if s = "RunsError" then C_RunsError else if s = "Unlike" then C_Unlike else if s = "Unknown" then C_Unknown else if s = "Stray" then C_Stray else if s = "BadNumber" then C_BadNumber else if s = "BadLength" then C_BadLength else if s = "Twice" then C_Twice else if s = "BadName" then C_BadName else if s = "BadText" then C_BadText else if s = "BadDepth" then C_BadDepth else if s = "BadLine" then C_BadLine else if s = "BadSite" then C_BadSite else if s = "BadSpot" then C_BadSpot else if s = "BadFlow" then C_BadFlow else if s = "NoMain" then C_NoMain else if s = "Missing" then C_Missing else if s = "NoUnit" then C_NoUnit else if s = "BadFree" then C_BadFree else if s = "TooMany" then C_TooMany else if s = "BadPass" then C_BadPass else if s = "BadBase" then C_BadBase else 0) (fun s => if s = "ROWS" then (.ref d_ROWS) else if s = "BOUNDS" then (.ref d_BOUNDS) else if s = "FORMS" then (.ref d_FORMS) else if s = "BITS" then (.ref d_BITS) else .ref 0) none) → Rv S (T.ktp [(T.str ("three" : Str)), (T.int (51)), (T.int (7)), (T.int (1))]) (.ref p_ROWS_k17) := fun S e => rv_ktp (by rw [e]; exact ⟨_, _, _, zy_ROWS_k17, rfl, rfl, zx_ROWS_k17, zw_ROWS_k17⟩) (RvL.cons (by simp only [Rv]) (RvL.cons (by simp only [Rv]) (RvL.cons (by simp only [Rv]) (RvL.cons (by simp only [Rv]) RvL.nil))))
  have kk_ROWS_k18 : ∀ S : Sta, S.G = (M.Env.mk K (fun s => if s = "BadRow" then C_BadRow else if s = "RunsError" then C_RunsError else if s = "Unlike" then C_Unlike else if s = "Unknown" then C_Unknown else if s = "Stray" then C_Stray else if s = "BadNumber" then C_BadNumber else if s = "BadLength" then C_BadLength else if s = "Twice" then C_Twice else if s = "BadName" then C_BadName else if s = "BadText" then C_BadText else if s = "BadDepth" then C_BadDepth else if s = "BadLine" then C_BadLine else if s = "BadSite" then C_BadSite else if s = "BadSpot" then C_BadSpot else if s = "BadFlow" then C_BadFlow else if s = "NoMain" then C_NoMain else if s = "Missing" then C_Missing else if s = "NoUnit" then C_NoUnit else if s = "BadFree" then C_BadFree else if s = "TooMany" then C_TooMany else if s = "BadPass" then C_BadPass else if s = "BadBase" then C_BadBase else 0) (fun s => if s = "ROWS" then (.ref d_ROWS) else if s = "BOUNDS" then (.ref d_BOUNDS) else if s = "FORMS" then (.ref d_FORMS) else if s = "BITS" then (.ref d_BITS) else .ref 0) none) → Rv S (T.ktp [(T.str ("near" : Str)), (T.int (19)), (T.int (0)), (T.int (0))]) (.ref p_ROWS_k18) := fun S e => rv_ktp (by rw [e]; exact ⟨_, _, _, zy_ROWS_k18, rfl, rfl, zx_ROWS_k18, zw_ROWS_k18⟩) (RvL.cons (by simp only [Rv]) (RvL.cons (by simp only [Rv]) (RvL.cons (by simp only [Rv]) (RvL.cons (by simp only [Rv]) RvL.nil))))
  have kk_ROWS_k19 : ∀ S : Sta, S.G = (M.Env.mk K (fun s => if s = "BadRow" then C_BadRow else if s = "RunsError" then C_RunsError else if s = "Unlike" then C_Unlike else if s = "Unknown" then C_Unknown else if s = "Stray" then C_Stray else if s = "BadNumber" then C_BadNumber else if s = "BadLength" then C_BadLength else if s = "Twice" then C_Twice else if s = "BadName" then C_BadName else if s = "BadText" then C_BadText else if s = "BadDepth" then C_BadDepth else if s = "BadLine" then C_BadLine else if s = "BadSite" then C_BadSite else if s = "BadSpot" then C_BadSpot else if s = "BadFlow" then C_BadFlow else if s = "NoMain" then C_NoMain else if s = "Missing" then C_Missing else if s = "NoUnit" then C_NoUnit else if s = "BadFree" then C_BadFree else if s = "TooMany" then C_TooMany else if s = "BadPass" then C_BadPass else if s = "BadBase" then C_BadBase else 0) (fun s => if s = "ROWS" then (.ref d_ROWS) else if s = "BOUNDS" then (.ref d_BOUNDS) else if s = "FORMS" then (.ref d_FORMS) else if s = "BITS" then (.ref d_BITS) else .ref 0) none) → Rv S (T.ktp [(T.str ("near" : Str)), (T.int (19)), (T.int (2)), (T.int (0))]) (.ref p_ROWS_k19) := fun S e => rv_ktp (by rw [e]; exact ⟨_, _, _, zy_ROWS_k19, rfl, rfl, zx_ROWS_k19, zw_ROWS_k19⟩) (RvL.cons (by simp only [Rv]) (RvL.cons (by simp only [Rv]) (RvL.cons (by simp only [Rv]) (RvL.cons (by simp only [Rv]) RvL.nil))))
  have kk_ROWS_k20 : ∀ S : Sta, S.G = (M.Env.mk K (fun s => if s = "BadRow" then C_BadRow else if s = "RunsError" then C_RunsError else if s = "Unlike" then C_Unlike else if s = "Unknown" then C_Unknown else if s = "Stray" then C_Stray else if s = "BadNumber" then C_BadNumber else if s = "BadLength" then C_BadLength else if s = "Twice" then C_Twice else if s = "BadName" then C_BadName else if s = "BadText" then C_BadText else if s = "BadDepth" then C_BadDepth else if s = "BadLine" then C_BadLine else if s = "BadSite" then C_BadSite else if s = "BadSpot" then C_BadSpot else if s = "BadFlow" then C_BadFlow else if s = "NoMain" then C_NoMain else if s = "Missing" then C_Missing else if s = "NoUnit" then C_NoUnit else if s = "BadFree" then C_BadFree else if s = "TooMany" then C_TooMany else if s = "BadPass" then C_BadPass else if s = "BadBase" then C_BadBase else 0) (fun s => if s = "ROWS" then (.ref d_ROWS) else if s = "BOUNDS" then (.ref d_BOUNDS) else if s = "FORMS" then (.ref d_FORMS) else if s = "BITS" then (.ref d_BITS) else .ref 0) none) → Rv S (T.ktp [(T.str ("near" : Str)), (T.int (19)), (T.int (3)), (T.int (0))]) (.ref p_ROWS_k20) := fun S e => rv_ktp (by rw [e]; exact ⟨_, _, _, zy_ROWS_k20, rfl, rfl, zx_ROWS_k20, zw_ROWS_k20⟩) (RvL.cons (by simp only [Rv]) (RvL.cons (by simp only [Rv]) (RvL.cons (by simp only [Rv]) (RvL.cons (by simp only [Rv]) RvL.nil))))
  have kk_ROWS_k21 : ∀ S : Sta, S.G = (M.Env.mk K (fun s => if s = "BadRow" then C_BadRow else if s = "RunsError" then C_RunsError else if s = "Unlike" then C_Unlike else if s = "Unknown" then C_Unknown else if s = "Stray" then C_Stray else if s = "BadNumber" then C_BadNumber else if s = "BadLength" then C_BadLength else if s = "Twice" then C_Twice else if s = "BadName" then C_BadName else if s = "BadText" then C_BadText else if s = "BadDepth" then C_BadDepth else if s = "BadLine" then C_BadLine else if s = "BadSite" then C_BadSite else if s = "BadSpot" then C_BadSpot else if s = "BadFlow" then C_BadFlow else if s = "NoMain" then C_NoMain else if s = "Missing" then C_Missing else if s = "NoUnit" then C_NoUnit else if s = "BadFree" then C_BadFree else if s = "TooMany" then C_TooMany else if s = "BadPass" then C_BadPass else if s = "BadBase" then C_BadBase else 0) (fun s => if s = "ROWS" then (.ref d_ROWS) else if s = "BOUNDS" then (.ref d_BOUNDS) else if s = "FORMS" then (.ref d_FORMS) else if s = "BITS" then (.ref d_BITS) else .ref 0) none) → Rv S (T.ktp [(T.str ("near" : Str)), (T.int (19)), (T.int (4)), (T.int (0))]) (.ref p_ROWS_k21) := fun S e => rv_ktp (by rw [e]; exact ⟨_, _, _, zy_ROWS_k21, rfl, rfl, zx_ROWS_k21, zw_ROWS_k21⟩) (RvL.cons (by simp only [Rv]) (RvL.cons (by simp only [Rv]) (RvL.cons (by simp only [Rv]) (RvL.cons (by simp only [Rv]) RvL.nil))))
  have kk_ROWS_k22 : ∀ S : Sta, S.G = (M.Env.mk K (fun s => if s = "BadRow" then C_BadRow else if s = "RunsError" then C_RunsError else if s = "Unlike" then C_Unlike else if s = "Unknown" then C_Unknown else if s = "Stray" then C_Stray else if s = "BadNumber" then C_BadNumber else if s = "BadLength" then C_BadLength else if s = "Twice" then C_Twice else if s = "BadName" then C_BadName else if s = "BadText" then C_BadText else if s = "BadDepth" then C_BadDepth else if s = "BadLine" then C_BadLine else if s = "BadSite" then C_BadSite else if s = "BadSpot" then C_BadSpot else if s = "BadFlow" then C_BadFlow else if s = "NoMain" then C_NoMain else if s = "Missing" then C_Missing else if s = "NoUnit" then C_NoUnit else if s = "BadFree" then C_BadFree else if s = "TooMany" then C_TooMany else if s = "BadPass" then C_BadPass else if s = "BadBase" then C_BadBase else 0) (fun s => if s = "ROWS" then (.ref d_ROWS) else if s = "BOUNDS" then (.ref d_BOUNDS) else if s = "FORMS" then (.ref d_FORMS) else if s = "BITS" then (.ref d_BITS) else .ref 0) none) → Rv S (T.ktp [(T.str ("near" : Str)), (T.int (19)), (T.int (6)), (T.int (0))]) (.ref p_ROWS_k22) := fun S e => rv_ktp (by rw [e]; exact ⟨_, _, _, zy_ROWS_k22, rfl, rfl, zx_ROWS_k22, zw_ROWS_k22⟩) (RvL.cons (by simp only [Rv]) (RvL.cons (by simp only [Rv]) (RvL.cons (by simp only [Rv]) (RvL.cons (by simp only [Rv]) RvL.nil))))
  have kk_ROWS_k23 : ∀ S : Sta, S.G = (M.Env.mk K (fun s => if s = "BadRow" then C_BadRow else if s = "RunsError" then C_RunsError else if s = "Unlike" then C_Unlike else if s = "Unknown" then C_Unknown else if s = "Stray" then C_Stray else if s = "BadNumber" then C_BadNumber else if s = "BadLength" then C_BadLength else if s = "Twice" then C_Twice else if s = "BadName" then C_BadName else if s = "BadText" then C_BadText else if s = "BadDepth" then C_BadDepth else if s = "BadLine" then C_BadLine else if s = "BadSite" then C_BadSite else if s = "BadSpot" then C_BadSpot else if s = "BadFlow" then C_BadFlow else if s = "NoMain" then C_NoMain else if s = "Missing" then C_Missing else if s = "NoUnit" then C_NoUnit else if s = "BadFree" then C_BadFree else if s = "TooMany" then C_TooMany else if s = "BadPass" then C_BadPass else if s = "BadBase" then C_BadBase else 0) (fun s => if s = "ROWS" then (.ref d_ROWS) else if s = "BOUNDS" then (.ref d_BOUNDS) else if s = "FORMS" then (.ref d_FORMS) else if s = "BITS" then (.ref d_BITS) else .ref 0) none) → Rv S (T.ktp [(T.str ("near" : Str)), (T.int (19)), (T.int (7)), (T.int (0))]) (.ref p_ROWS_k23) := fun S e => rv_ktp (by rw [e]; exact ⟨_, _, _, zy_ROWS_k23, rfl, rfl, zx_ROWS_k23, zw_ROWS_k23⟩) (RvL.cons (by simp only [Rv]) (RvL.cons (by simp only [Rv]) (RvL.cons (by simp only [Rv]) (RvL.cons (by simp only [Rv]) RvL.nil))))
  have kk_ROWS_k24 : ∀ S : Sta, S.G = (M.Env.mk K (fun s => if s = "BadRow" then C_BadRow else if s = "RunsError" then C_RunsError else if s = "Unlike" then C_Unlike else if s = "Unknown" then C_Unknown else if s = "Stray" then C_Stray else if s = "BadNumber" then C_BadNumber else if s = "BadLength" then C_BadLength else if s = "Twice" then C_Twice else if s = "BadName" then C_BadName else if s = "BadText" then C_BadText else if s = "BadDepth" then C_BadDepth else if s = "BadLine" then C_BadLine else if s = "BadSite" then C_BadSite else if s = "BadSpot" then C_BadSpot else if s = "BadFlow" then C_BadFlow else if s = "NoMain" then C_NoMain else if s = "Missing" then C_Missing else if s = "NoUnit" then C_NoUnit else if s = "BadFree" then C_BadFree else if s = "TooMany" then C_TooMany else if s = "BadPass" then C_BadPass else if s = "BadBase" then C_BadBase else 0) (fun s => if s = "ROWS" then (.ref d_ROWS) else if s = "BOUNDS" then (.ref d_BOUNDS) else if s = "FORMS" then (.ref d_FORMS) else if s = "BITS" then (.ref d_BITS) else .ref 0) none) → Rv S (T.ktp [(T.str ("shift" : Str)), (T.int (19)), (T.int (1)), (T.int (0))]) (.ref p_ROWS_k24) := fun S e => rv_ktp (by rw [e]; exact ⟨_, _, _, zy_ROWS_k24, rfl, rfl, zx_ROWS_k24, zw_ROWS_k24⟩) (RvL.cons (by simp only [Rv]) (RvL.cons (by simp only [Rv]) (RvL.cons (by simp only [Rv]) (RvL.cons (by simp only [Rv]) RvL.nil))))
  have kk_ROWS_k25 : ∀ S : Sta, S.G = (M.Env.mk K (fun s => if s = "BadRow" then C_BadRow else if s = "RunsError" then C_RunsError else if s = "Unlike" then C_Unlike else if s = "Unknown" then C_Unknown else if s = "Stray" then C_Stray else if s = "BadNumber" then C_BadNumber else if s = "BadLength" then C_BadLength else if s = "Twice" then C_Twice else if s = "BadName" then C_BadName else if s = "BadText" then C_BadText else if s = "BadDepth" then C_BadDepth else if s = "BadLine" then C_BadLine else if s = "BadSite" then C_BadSite else if s = "BadSpot" then C_BadSpot else if s = "BadFlow" then C_BadFlow else if s = "NoMain" then C_NoMain else if s = "Missing" then C_Missing else if s = "NoUnit" then C_NoUnit else if s = "BadFree" then C_BadFree else if s = "TooMany" then C_TooMany else if s = "BadPass" then C_BadPass else if s = "BadBase" then C_BadBase else 0) (fun s => if s = "ROWS" then (.ref d_ROWS) else if s = "BOUNDS" then (.ref d_BOUNDS) else if s = "FORMS" then (.ref d_FORMS) else if s = "BITS" then (.ref d_BITS) else .ref 0) none) → Rv S (T.ktp [(T.str ("shift" : Str)), (T.int (19)), (T.int (5)), (T.int (0))]) (.ref p_ROWS_k25) := fun S e => rv_ktp (by rw [e]; exact ⟨_, _, _, zy_ROWS_k25, rfl, rfl, zx_ROWS_k25, zw_ROWS_k25⟩) (RvL.cons (by simp only [Rv]) (RvL.cons (by simp only [Rv]) (RvL.cons (by simp only [Rv]) (RvL.cons (by simp only [Rv]) RvL.nil))))
  have kk_ROWS_k26 : ∀ S : Sta, S.G = (M.Env.mk K (fun s => if s = "BadRow" then C_BadRow else if s = "RunsError" then C_RunsError else if s = "Unlike" then C_Unlike else if s = "Unknown" then C_Unknown else if s = "Stray" then C_Stray else if s = "BadNumber" then C_BadNumber else if s = "BadLength" then C_BadLength else if s = "Twice" then C_Twice else if s = "BadName" then C_BadName else if s = "BadText" then C_BadText else if s = "BadDepth" then C_BadDepth else if s = "BadLine" then C_BadLine else if s = "BadSite" then C_BadSite else if s = "BadSpot" then C_BadSpot else if s = "BadFlow" then C_BadFlow else if s = "NoMain" then C_NoMain else if s = "Missing" then C_Missing else if s = "NoUnit" then C_NoUnit else if s = "BadFree" then C_BadFree else if s = "TooMany" then C_TooMany else if s = "BadPass" then C_BadPass else if s = "BadBase" then C_BadBase else 0) (fun s => if s = "ROWS" then (.ref d_ROWS) else if s = "BOUNDS" then (.ref d_BOUNDS) else if s = "FORMS" then (.ref d_FORMS) else if s = "BITS" then (.ref d_BITS) else .ref 0) none) → Rv S (T.ktp [(T.str ("shift" : Str)), (T.int (19)), (T.int (5)), (T.int (32))]) (.ref p_ROWS_k26) := fun S e => rv_ktp (by rw [e]; exact ⟨_, _, _, zy_ROWS_k26, rfl, rfl, zx_ROWS_k26, zw_ROWS_k26⟩) (RvL.cons (by simp only [Rv]) (RvL.cons (by simp only [Rv]) (RvL.cons (by simp only [Rv]) (RvL.cons (by simp only [Rv]) RvL.nil))))
  have kk_ROWS_k27 : ∀ S : Sta, S.G = (M.Env.mk K (fun s => if s = "BadRow" then C_BadRow else if s = "RunsError" then C_RunsError else if s = "Unlike" then C_Unlike else if s = "Unknown" then C_Unknown else if s = "Stray" then C_Stray else if s = "BadNumber" then C_BadNumber else if s = "BadLength" then C_BadLength else if s = "Twice" then C_Twice else if s = "BadName" then C_BadName else if s = "BadText" then C_BadText else if s = "BadDepth" then C_BadDepth else if s = "BadLine" then C_BadLine else if s = "BadSite" then C_BadSite else if s = "BadSpot" then C_BadSpot else if s = "BadFlow" then C_BadFlow else if s = "NoMain" then C_NoMain else if s = "Missing" then C_Missing else if s = "NoUnit" then C_NoUnit else if s = "BadFree" then C_BadFree else if s = "TooMany" then C_TooMany else if s = "BadPass" then C_BadPass else if s = "BadBase" then C_BadBase else 0) (fun s => if s = "ROWS" then (.ref d_ROWS) else if s = "BOUNDS" then (.ref d_BOUNDS) else if s = "FORMS" then (.ref d_FORMS) else if s = "BITS" then (.ref d_BITS) else .ref 0) none) → Rv S (T.ktp [(T.str ("near" : Str)), (T.int (103)), (T.int (0)), (T.int (0))]) (.ref p_ROWS_k27) := fun S e => rv_ktp (by rw [e]; exact ⟨_, _, _, zy_ROWS_k27, rfl, rfl, zx_ROWS_k27, zw_ROWS_k27⟩) (RvL.cons (by simp only [Rv]) (RvL.cons (by simp only [Rv]) (RvL.cons (by simp only [Rv]) (RvL.cons (by simp only [Rv]) RvL.nil))))
  have kk_ROWS_k28 : ∀ S : Sta, S.G = (M.Env.mk K (fun s => if s = "BadRow" then C_BadRow else if s = "RunsError" then C_RunsError else if s = "Unlike" then C_Unlike else if s = "Unknown" then C_Unknown else if s = "Stray" then C_Stray else if s = "BadNumber" then C_BadNumber else if s = "BadLength" then C_BadLength else if s = "Twice" then C_Twice else if s = "BadName" then C_BadName else if s = "BadText" then C_BadText else if s = "BadDepth" then C_BadDepth else if s = "BadLine" then C_BadLine else if s = "BadSite" then C_BadSite else if s = "BadSpot" then C_BadSpot else if s = "BadFlow" then C_BadFlow else if s = "NoMain" then C_NoMain else if s = "Missing" then C_Missing else if s = "NoUnit" then C_NoUnit else if s = "BadFree" then C_BadFree else if s = "TooMany" then C_TooMany else if s = "BadPass" then C_BadPass else if s = "BadBase" then C_BadBase else 0) (fun s => if s = "ROWS" then (.ref d_ROWS) else if s = "BOUNDS" then (.ref d_BOUNDS) else if s = "FORMS" then (.ref d_FORMS) else if s = "BITS" then (.ref d_BITS) else .ref 0) none) → Rv S (T.ktp [(T.str ("near" : Str)), (T.int (3)), (T.int (2)), (T.int (0))]) (.ref p_ROWS_k28) := fun S e => rv_ktp (by rw [e]; exact ⟨_, _, _, zy_ROWS_k28, rfl, rfl, zx_ROWS_k28, zw_ROWS_k28⟩) (RvL.cons (by simp only [Rv]) (RvL.cons (by simp only [Rv]) (RvL.cons (by simp only [Rv]) (RvL.cons (by simp only [Rv]) RvL.nil))))
  have kk_ROWS_k29 : ∀ S : Sta, S.G = (M.Env.mk K (fun s => if s = "BadRow" then C_BadRow else if s = "RunsError" then C_RunsError else if s = "Unlike" then C_Unlike else if s = "Unknown" then C_Unknown else if s = "Stray" then C_Stray else if s = "BadNumber" then C_BadNumber else if s = "BadLength" then C_BadLength else if s = "Twice" then C_Twice else if s = "BadName" then C_BadName else if s = "BadText" then C_BadText else if s = "BadDepth" then C_BadDepth else if s = "BadLine" then C_BadLine else if s = "BadSite" then C_BadSite else if s = "BadSpot" then C_BadSpot else if s = "BadFlow" then C_BadFlow else if s = "NoMain" then C_NoMain else if s = "Missing" then C_Missing else if s = "NoUnit" then C_NoUnit else if s = "BadFree" then C_BadFree else if s = "TooMany" then C_TooMany else if s = "BadPass" then C_BadPass else if s = "BadBase" then C_BadBase else 0) (fun s => if s = "ROWS" then (.ref d_ROWS) else if s = "BOUNDS" then (.ref d_BOUNDS) else if s = "FORMS" then (.ref d_FORMS) else if s = "BITS" then (.ref d_BITS) else .ref 0) none) → Rv S (T.ktp [(T.str ("store" : Str)), (T.int (35)), (T.int (2)), (T.int (0))]) (.ref p_ROWS_k29) := fun S e => rv_ktp (by rw [e]; exact ⟨_, _, _, zy_ROWS_k29, rfl, rfl, zx_ROWS_k29, zw_ROWS_k29⟩) (RvL.cons (by simp only [Rv]) (RvL.cons (by simp only [Rv]) (RvL.cons (by simp only [Rv]) (RvL.cons (by simp only [Rv]) RvL.nil))))
  have kk_ROWS_k30 : ∀ S : Sta, S.G = (M.Env.mk K (fun s => if s = "BadRow" then C_BadRow else if s = "RunsError" then C_RunsError else if s = "Unlike" then C_Unlike else if s = "Unknown" then C_Unknown else if s = "Stray" then C_Stray else if s = "BadNumber" then C_BadNumber else if s = "BadLength" then C_BadLength else if s = "Twice" then C_Twice else if s = "BadName" then C_BadName else if s = "BadText" then C_BadText else if s = "BadDepth" then C_BadDepth else if s = "BadLine" then C_BadLine else if s = "BadSite" then C_BadSite else if s = "BadSpot" then C_BadSpot else if s = "BadFlow" then C_BadFlow else if s = "NoMain" then C_NoMain else if s = "Missing" then C_Missing else if s = "NoUnit" then C_NoUnit else if s = "BadFree" then C_BadFree else if s = "TooMany" then C_TooMany else if s = "BadPass" then C_BadPass else if s = "BadBase" then C_BadBase else 0) (fun s => if s = "ROWS" then (.ref d_ROWS) else if s = "BOUNDS" then (.ref d_BOUNDS) else if s = "FORMS" then (.ref d_FORMS) else if s = "BITS" then (.ref d_BITS) else .ref 0) none) → Rv S (T.ktp [(T.str ("branch" : Str)), (T.int (99)), (T.int (0)), (T.int (0))]) (.ref p_ROWS_k30) := fun S e => rv_ktp (by rw [e]; exact ⟨_, _, _, zy_ROWS_k30, rfl, rfl, zx_ROWS_k30, zw_ROWS_k30⟩) (RvL.cons (by simp only [Rv]) (RvL.cons (by simp only [Rv]) (RvL.cons (by simp only [Rv]) (RvL.cons (by simp only [Rv]) RvL.nil))))
  have kk_ROWS_k31 : ∀ S : Sta, S.G = (M.Env.mk K (fun s => if s = "BadRow" then C_BadRow else if s = "RunsError" then C_RunsError else if s = "Unlike" then C_Unlike else if s = "Unknown" then C_Unknown else if s = "Stray" then C_Stray else if s = "BadNumber" then C_BadNumber else if s = "BadLength" then C_BadLength else if s = "Twice" then C_Twice else if s = "BadName" then C_BadName else if s = "BadText" then C_BadText else if s = "BadDepth" then C_BadDepth else if s = "BadLine" then C_BadLine else if s = "BadSite" then C_BadSite else if s = "BadSpot" then C_BadSpot else if s = "BadFlow" then C_BadFlow else if s = "NoMain" then C_NoMain else if s = "Missing" then C_Missing else if s = "NoUnit" then C_NoUnit else if s = "BadFree" then C_BadFree else if s = "TooMany" then C_TooMany else if s = "BadPass" then C_BadPass else if s = "BadBase" then C_BadBase else 0) (fun s => if s = "ROWS" then (.ref d_ROWS) else if s = "BOUNDS" then (.ref d_BOUNDS) else if s = "FORMS" then (.ref d_FORMS) else if s = "BITS" then (.ref d_BITS) else .ref 0) none) → Rv S (T.ktp [(T.str ("branch" : Str)), (T.int (99)), (T.int (1)), (T.int (0))]) (.ref p_ROWS_k31) := fun S e => rv_ktp (by rw [e]; exact ⟨_, _, _, zy_ROWS_k31, rfl, rfl, zx_ROWS_k31, zw_ROWS_k31⟩) (RvL.cons (by simp only [Rv]) (RvL.cons (by simp only [Rv]) (RvL.cons (by simp only [Rv]) (RvL.cons (by simp only [Rv]) RvL.nil))))
  have kk_ROWS_k32 : ∀ S : Sta, S.G = (M.Env.mk K (fun s => if s = "BadRow" then C_BadRow else if s = "RunsError" then C_RunsError else if s = "Unlike" then C_Unlike else if s = "Unknown" then C_Unknown else if s = "Stray" then C_Stray else if s = "BadNumber" then C_BadNumber else if s = "BadLength" then C_BadLength else if s = "Twice" then C_Twice else if s = "BadName" then C_BadName else if s = "BadText" then C_BadText else if s = "BadDepth" then C_BadDepth else if s = "BadLine" then C_BadLine else if s = "BadSite" then C_BadSite else if s = "BadSpot" then C_BadSpot else if s = "BadFlow" then C_BadFlow else if s = "NoMain" then C_NoMain else if s = "Missing" then C_Missing else if s = "NoUnit" then C_NoUnit else if s = "BadFree" then C_BadFree else if s = "TooMany" then C_TooMany else if s = "BadPass" then C_BadPass else if s = "BadBase" then C_BadBase else 0) (fun s => if s = "ROWS" then (.ref d_ROWS) else if s = "BOUNDS" then (.ref d_BOUNDS) else if s = "FORMS" then (.ref d_FORMS) else if s = "BITS" then (.ref d_BITS) else .ref 0) none) → Rv S (T.ktp [(T.str ("branch" : Str)), (T.int (99)), (T.int (4)), (T.int (0))]) (.ref p_ROWS_k32) := fun S e => rv_ktp (by rw [e]; exact ⟨_, _, _, zy_ROWS_k32, rfl, rfl, zx_ROWS_k32, zw_ROWS_k32⟩) (RvL.cons (by simp only [Rv]) (RvL.cons (by simp only [Rv]) (RvL.cons (by simp only [Rv]) (RvL.cons (by simp only [Rv]) RvL.nil))))
  have kk_ROWS_k33 : ∀ S : Sta, S.G = (M.Env.mk K (fun s => if s = "BadRow" then C_BadRow else if s = "RunsError" then C_RunsError else if s = "Unlike" then C_Unlike else if s = "Unknown" then C_Unknown else if s = "Stray" then C_Stray else if s = "BadNumber" then C_BadNumber else if s = "BadLength" then C_BadLength else if s = "Twice" then C_Twice else if s = "BadName" then C_BadName else if s = "BadText" then C_BadText else if s = "BadDepth" then C_BadDepth else if s = "BadLine" then C_BadLine else if s = "BadSite" then C_BadSite else if s = "BadSpot" then C_BadSpot else if s = "BadFlow" then C_BadFlow else if s = "NoMain" then C_NoMain else if s = "Missing" then C_Missing else if s = "NoUnit" then C_NoUnit else if s = "BadFree" then C_BadFree else if s = "TooMany" then C_TooMany else if s = "BadPass" then C_BadPass else if s = "BadBase" then C_BadBase else 0) (fun s => if s = "ROWS" then (.ref d_ROWS) else if s = "BOUNDS" then (.ref d_BOUNDS) else if s = "FORMS" then (.ref d_FORMS) else if s = "BITS" then (.ref d_BITS) else .ref 0) none) → Rv S (T.ktp [(T.str ("branch" : Str)), (T.int (99)), (T.int (5)), (T.int (0))]) (.ref p_ROWS_k33) := fun S e => rv_ktp (by rw [e]; exact ⟨_, _, _, zy_ROWS_k33, rfl, rfl, zx_ROWS_k33, zw_ROWS_k33⟩) (RvL.cons (by simp only [Rv]) (RvL.cons (by simp only [Rv]) (RvL.cons (by simp only [Rv]) (RvL.cons (by simp only [Rv]) RvL.nil))))
  have kk_ROWS_k34 : ∀ S : Sta, S.G = (M.Env.mk K (fun s => if s = "BadRow" then C_BadRow else if s = "RunsError" then C_RunsError else if s = "Unlike" then C_Unlike else if s = "Unknown" then C_Unknown else if s = "Stray" then C_Stray else if s = "BadNumber" then C_BadNumber else if s = "BadLength" then C_BadLength else if s = "Twice" then C_Twice else if s = "BadName" then C_BadName else if s = "BadText" then C_BadText else if s = "BadDepth" then C_BadDepth else if s = "BadLine" then C_BadLine else if s = "BadSite" then C_BadSite else if s = "BadSpot" then C_BadSpot else if s = "BadFlow" then C_BadFlow else if s = "NoMain" then C_NoMain else if s = "Missing" then C_Missing else if s = "NoUnit" then C_NoUnit else if s = "BadFree" then C_BadFree else if s = "TooMany" then C_TooMany else if s = "BadPass" then C_BadPass else if s = "BadBase" then C_BadBase else 0) (fun s => if s = "ROWS" then (.ref d_ROWS) else if s = "BOUNDS" then (.ref d_BOUNDS) else if s = "FORMS" then (.ref d_FORMS) else if s = "BITS" then (.ref d_BITS) else .ref 0) none) → Rv S (T.ktp [(T.str ("branch" : Str)), (T.int (99)), (T.int (6)), (T.int (0))]) (.ref p_ROWS_k34) := fun S e => rv_ktp (by rw [e]; exact ⟨_, _, _, zy_ROWS_k34, rfl, rfl, zx_ROWS_k34, zw_ROWS_k34⟩) (RvL.cons (by simp only [Rv]) (RvL.cons (by simp only [Rv]) (RvL.cons (by simp only [Rv]) (RvL.cons (by simp only [Rv]) RvL.nil))))
  have kk_ROWS_k35 : ∀ S : Sta, S.G = (M.Env.mk K (fun s => if s = "BadRow" then C_BadRow else if s = "RunsError" then C_RunsError else if s = "Unlike" then C_Unlike else if s = "Unknown" then C_Unknown else if s = "Stray" then C_Stray else if s = "BadNumber" then C_BadNumber else if s = "BadLength" then C_BadLength else if s = "Twice" then C_Twice else if s = "BadName" then C_BadName else if s = "BadText" then C_BadText else if s = "BadDepth" then C_BadDepth else if s = "BadLine" then C_BadLine else if s = "BadSite" then C_BadSite else if s = "BadSpot" then C_BadSpot else if s = "BadFlow" then C_BadFlow else if s = "NoMain" then C_NoMain else if s = "Missing" then C_Missing else if s = "NoUnit" then C_NoUnit else if s = "BadFree" then C_BadFree else if s = "TooMany" then C_TooMany else if s = "BadPass" then C_BadPass else if s = "BadBase" then C_BadBase else 0) (fun s => if s = "ROWS" then (.ref d_ROWS) else if s = "BOUNDS" then (.ref d_BOUNDS) else if s = "FORMS" then (.ref d_FORMS) else if s = "BITS" then (.ref d_BITS) else .ref 0) none) → Rv S (T.ktp [(T.str ("branch" : Str)), (T.int (99)), (T.int (7)), (T.int (0))]) (.ref p_ROWS_k35) := fun S e => rv_ktp (by rw [e]; exact ⟨_, _, _, zy_ROWS_k35, rfl, rfl, zx_ROWS_k35, zw_ROWS_k35⟩) (RvL.cons (by simp only [Rv]) (RvL.cons (by simp only [Rv]) (RvL.cons (by simp only [Rv]) (RvL.cons (by simp only [Rv]) RvL.nil))))
  have kk_ROWS_k36 : ∀ S : Sta, S.G = (M.Env.mk K (fun s => if s = "BadRow" then C_BadRow else if s = "RunsError" then C_RunsError else if s = "Unlike" then C_Unlike else if s = "Unknown" then C_Unknown else if s = "Stray" then C_Stray else if s = "BadNumber" then C_BadNumber else if s = "BadLength" then C_BadLength else if s = "Twice" then C_Twice else if s = "BadName" then C_BadName else if s = "BadText" then C_BadText else if s = "BadDepth" then C_BadDepth else if s = "BadLine" then C_BadLine else if s = "BadSite" then C_BadSite else if s = "BadSpot" then C_BadSpot else if s = "BadFlow" then C_BadFlow else if s = "NoMain" then C_NoMain else if s = "Missing" then C_Missing else if s = "NoUnit" then C_NoUnit else if s = "BadFree" then C_BadFree else if s = "TooMany" then C_TooMany else if s = "BadPass" then C_BadPass else if s = "BadBase" then C_BadBase else 0) (fun s => if s = "ROWS" then (.ref d_ROWS) else if s = "BOUNDS" then (.ref d_BOUNDS) else if s = "FORMS" then (.ref d_FORMS) else if s = "BITS" then (.ref d_BITS) else .ref 0) none) → Rv S (T.ktp [(T.str ("upper" : Str)), (T.int (55)), (T.int (0)), (T.int (0))]) (.ref p_ROWS_k36) := fun S e => rv_ktp (by rw [e]; exact ⟨_, _, _, zy_ROWS_k36, rfl, rfl, zx_ROWS_k36, zw_ROWS_k36⟩) (RvL.cons (by simp only [Rv]) (RvL.cons (by simp only [Rv]) (RvL.cons (by simp only [Rv]) (RvL.cons (by simp only [Rv]) RvL.nil))))
  have kk_ROWS_k37 : ∀ S : Sta, S.G = (M.Env.mk K (fun s => if s = "BadRow" then C_BadRow else if s = "RunsError" then C_RunsError else if s = "Unlike" then C_Unlike else if s = "Unknown" then C_Unknown else if s = "Stray" then C_Stray else if s = "BadNumber" then C_BadNumber else if s = "BadLength" then C_BadLength else if s = "Twice" then C_Twice else if s = "BadName" then C_BadName else if s = "BadText" then C_BadText else if s = "BadDepth" then C_BadDepth else if s = "BadLine" then C_BadLine else if s = "BadSite" then C_BadSite else if s = "BadSpot" then C_BadSpot else if s = "BadFlow" then C_BadFlow else if s = "NoMain" then C_NoMain else if s = "Missing" then C_Missing else if s = "NoUnit" then C_NoUnit else if s = "BadFree" then C_BadFree else if s = "TooMany" then C_TooMany else if s = "BadPass" then C_BadPass else if s = "BadBase" then C_BadBase else 0) (fun s => if s = "ROWS" then (.ref d_ROWS) else if s = "BOUNDS" then (.ref d_BOUNDS) else if s = "FORMS" then (.ref d_FORMS) else if s = "BITS" then (.ref d_BITS) else .ref 0) none) → Rv S (T.ktp [(T.str ("upper" : Str)), (T.int (23)), (T.int (0)), (T.int (0))]) (.ref p_ROWS_k37) := fun S e => rv_ktp (by rw [e]; exact ⟨_, _, _, zy_ROWS_k37, rfl, rfl, zx_ROWS_k37, zw_ROWS_k37⟩) (RvL.cons (by simp only [Rv]) (RvL.cons (by simp only [Rv]) (RvL.cons (by simp only [Rv]) (RvL.cons (by simp only [Rv]) RvL.nil))))
  have kk_ROWS_k38 : ∀ S : Sta, S.G = (M.Env.mk K (fun s => if s = "BadRow" then C_BadRow else if s = "RunsError" then C_RunsError else if s = "Unlike" then C_Unlike else if s = "Unknown" then C_Unknown else if s = "Stray" then C_Stray else if s = "BadNumber" then C_BadNumber else if s = "BadLength" then C_BadLength else if s = "Twice" then C_Twice else if s = "BadName" then C_BadName else if s = "BadText" then C_BadText else if s = "BadDepth" then C_BadDepth else if s = "BadLine" then C_BadLine else if s = "BadSite" then C_BadSite else if s = "BadSpot" then C_BadSpot else if s = "BadFlow" then C_BadFlow else if s = "NoMain" then C_NoMain else if s = "Missing" then C_Missing else if s = "NoUnit" then C_NoUnit else if s = "BadFree" then C_BadFree else if s = "TooMany" then C_TooMany else if s = "BadPass" then C_BadPass else if s = "BadBase" then C_BadBase else 0) (fun s => if s = "ROWS" then (.ref d_ROWS) else if s = "BOUNDS" then (.ref d_BOUNDS) else if s = "FORMS" then (.ref d_FORMS) else if s = "BITS" then (.ref d_BITS) else .ref 0) none) → Rv S (T.ktp [(T.str ("jump" : Str)), (T.int (111)), (T.int (0)), (T.int (0))]) (.ref p_ROWS_k38) := fun S e => rv_ktp (by rw [e]; exact ⟨_, _, _, zy_ROWS_k38, rfl, rfl, zx_ROWS_k38, zw_ROWS_k38⟩) (RvL.cons (by simp only [Rv]) (RvL.cons (by simp only [Rv]) (RvL.cons (by simp only [Rv]) (RvL.cons (by simp only [Rv]) RvL.nil))))
  have kk_ROWS_k39 : ∀ S : Sta, S.G = (M.Env.mk K (fun s => if s = "BadRow" then C_BadRow else if s = "RunsError" then C_RunsError else if s = "Unlike" then C_Unlike else if s = "Unknown" then C_Unknown else if s = "Stray" then C_Stray else if s = "BadNumber" then C_BadNumber else if s = "BadLength" then C_BadLength else if s = "Twice" then C_Twice else if s = "BadName" then C_BadName else if s = "BadText" then C_BadText else if s = "BadDepth" then C_BadDepth else if s = "BadLine" then C_BadLine else if s = "BadSite" then C_BadSite else if s = "BadSpot" then C_BadSpot else if s = "BadFlow" then C_BadFlow else if s = "NoMain" then C_NoMain else if s = "Missing" then C_Missing else if s = "NoUnit" then C_NoUnit else if s = "BadFree" then C_BadFree else if s = "TooMany" then C_TooMany else if s = "BadPass" then C_BadPass else if s = "BadBase" then C_BadBase else 0) (fun s => if s = "ROWS" then (.ref d_ROWS) else if s = "BOUNDS" then (.ref d_BOUNDS) else if s = "FORMS" then (.ref d_FORMS) else if s = "BITS" then (.ref d_BITS) else .ref 0) none) → Rv S (T.ktp [(T.str ("alone" : Str)), (T.int (115)), (T.int (0)), (T.int (0))]) (.ref p_ROWS_k39) := fun S e => rv_ktp (by rw [e]; exact ⟨_, _, _, zy_ROWS_k39, rfl, rfl, zx_ROWS_k39, zw_ROWS_k39⟩) (RvL.cons (by simp only [Rv]) (RvL.cons (by simp only [Rv]) (RvL.cons (by simp only [Rv]) (RvL.cons (by simp only [Rv]) RvL.nil))))
  have kk_ROWS_k40 : ∀ S : Sta, S.G = (M.Env.mk K (fun s => if s = "BadRow" then C_BadRow else if s = "RunsError" then C_RunsError else if s = "Unlike" then C_Unlike else if s = "Unknown" then C_Unknown else if s = "Stray" then C_Stray else if s = "BadNumber" then C_BadNumber else if s = "BadLength" then C_BadLength else if s = "Twice" then C_Twice else if s = "BadName" then C_BadName else if s = "BadText" then C_BadText else if s = "BadDepth" then C_BadDepth else if s = "BadLine" then C_BadLine else if s = "BadSite" then C_BadSite else if s = "BadSpot" then C_BadSpot else if s = "BadFlow" then C_BadFlow else if s = "NoMain" then C_NoMain else if s = "Missing" then C_Missing else if s = "NoUnit" then C_NoUnit else if s = "BadFree" then C_BadFree else if s = "TooMany" then C_TooMany else if s = "BadPass" then C_BadPass else if s = "BadBase" then C_BadBase else 0) (fun s => if s = "ROWS" then (.ref d_ROWS) else if s = "BOUNDS" then (.ref d_BOUNDS) else if s = "FORMS" then (.ref d_FORMS) else if s = "BITS" then (.ref d_BITS) else .ref 0) none) → Rv S (T.ktp [(T.str ("alone" : Str)), (T.int (1048691)), (T.int (0)), (T.int (0))]) (.ref p_ROWS_k40) := fun S e => rv_ktp (by rw [e]; exact ⟨_, _, _, zy_ROWS_k40, rfl, rfl, zx_ROWS_k40, zw_ROWS_k40⟩) (RvL.cons (by simp only [Rv]) (RvL.cons (by simp only [Rv]) (RvL.cons (by simp only [Rv]) (RvL.cons (by simp only [Rv]) RvL.nil))))
  have ka_ROWS : KAll (M.Env.mk K (fun s => if s = "BadRow" then C_BadRow else if s = "RunsError" then C_RunsError else if s = "Unlike" then C_Unlike else if s = "Unknown" then C_Unknown else if s = "Stray" then C_Stray else if s = "BadNumber" then C_BadNumber else if s = "BadLength" then C_BadLength else if s = "Twice" then C_Twice else if s = "BadName" then C_BadName else if s = "BadText" then C_BadText else if s = "BadDepth" then C_BadDepth else if s = "BadLine" then C_BadLine else if s = "BadSite" then C_BadSite else if s = "BadSpot" then C_BadSpot else if s = "BadFlow" then C_BadFlow else if s = "NoMain" then C_NoMain else if s = "Missing" then C_Missing else if s = "NoUnit" then C_NoUnit else if s = "BadFree" then C_BadFree else if s = "TooMany" then C_TooMany else if s = "BadPass" then C_BadPass else if s = "BadBase" then C_BadBase else 0) (fun s => if s = "ROWS" then (.ref d_ROWS) else if s = "BOUNDS" then (.ref d_BOUNDS) else if s = "FORMS" then (.ref d_FORMS) else if s = "BITS" then (.ref d_BITS) else .ref 0) none) d_ROWS all_ROWS := kall_of zD_ROWS zS_ROWS zI_ROWS ⟨⟨rfl, kk_ROWS_k0⟩, ⟨rfl, kk_ROWS_k1⟩, ⟨rfl, kk_ROWS_k2⟩, ⟨rfl, kk_ROWS_k3⟩, ⟨rfl, kk_ROWS_k4⟩, ⟨rfl, kk_ROWS_k5⟩, ⟨rfl, kk_ROWS_k6⟩, ⟨rfl, kk_ROWS_k7⟩, ⟨rfl, kk_ROWS_k8⟩, ⟨rfl, kk_ROWS_k9⟩, ⟨rfl, kk_ROWS_k10⟩, ⟨rfl, kk_ROWS_k11⟩, ⟨rfl, kk_ROWS_k12⟩, ⟨rfl, kk_ROWS_k13⟩, ⟨rfl, kk_ROWS_k14⟩, ⟨rfl, kk_ROWS_k15⟩, ⟨rfl, kk_ROWS_k16⟩, ⟨rfl, kk_ROWS_k17⟩, ⟨rfl, kk_ROWS_k18⟩, ⟨rfl, kk_ROWS_k19⟩, ⟨rfl, kk_ROWS_k20⟩, ⟨rfl, kk_ROWS_k21⟩, ⟨rfl, kk_ROWS_k22⟩, ⟨rfl, kk_ROWS_k23⟩, ⟨rfl, kk_ROWS_k24⟩, ⟨rfl, kk_ROWS_k25⟩, ⟨rfl, kk_ROWS_k26⟩, ⟨rfl, kk_ROWS_k27⟩, ⟨rfl, kk_ROWS_k28⟩, ⟨rfl, kk_ROWS_k29⟩, ⟨rfl, kk_ROWS_k30⟩, ⟨rfl, kk_ROWS_k31⟩, ⟨rfl, kk_ROWS_k32⟩, ⟨rfl, kk_ROWS_k33⟩, ⟨rfl, kk_ROWS_k34⟩, ⟨rfl, kk_ROWS_k35⟩, ⟨rfl, kk_ROWS_k36⟩, ⟨rfl, kk_ROWS_k37⟩, ⟨rfl, kk_ROWS_k38⟩, ⟨rfl, kk_ROWS_k39⟩, ⟨rfl, kk_ROWS_k40⟩, trivial⟩
  have kf_ROWS : KFull (M.Env.mk K (fun s => if s = "BadRow" then C_BadRow else if s = "RunsError" then C_RunsError else if s = "Unlike" then C_Unlike else if s = "Unknown" then C_Unknown else if s = "Stray" then C_Stray else if s = "BadNumber" then C_BadNumber else if s = "BadLength" then C_BadLength else if s = "Twice" then C_Twice else if s = "BadName" then C_BadName else if s = "BadText" then C_BadText else if s = "BadDepth" then C_BadDepth else if s = "BadLine" then C_BadLine else if s = "BadSite" then C_BadSite else if s = "BadSpot" then C_BadSpot else if s = "BadFlow" then C_BadFlow else if s = "NoMain" then C_NoMain else if s = "Missing" then C_Missing else if s = "NoUnit" then C_NoUnit else if s = "BadFree" then C_BadFree else if s = "TooMany" then C_TooMany else if s = "BadPass" then C_BadPass else if s = "BadBase" then C_BadBase else 0) (fun s => if s = "ROWS" then (.ref d_ROWS) else if s = "BOUNDS" then (.ref d_BOUNDS) else if s = "FORMS" then (.ref d_FORMS) else if s = "BITS" then (.ref d_BITS) else .ref 0) none) d_ROWS all_ROWS := kfull_of zD_ROWS zI_ROWS ⟨⟨rfl, kk_ROWS_k0⟩, ⟨rfl, kk_ROWS_k1⟩, ⟨rfl, kk_ROWS_k2⟩, ⟨rfl, kk_ROWS_k3⟩, ⟨rfl, kk_ROWS_k4⟩, ⟨rfl, kk_ROWS_k5⟩, ⟨rfl, kk_ROWS_k6⟩, ⟨rfl, kk_ROWS_k7⟩, ⟨rfl, kk_ROWS_k8⟩, ⟨rfl, kk_ROWS_k9⟩, ⟨rfl, kk_ROWS_k10⟩, ⟨rfl, kk_ROWS_k11⟩, ⟨rfl, kk_ROWS_k12⟩, ⟨rfl, kk_ROWS_k13⟩, ⟨rfl, kk_ROWS_k14⟩, ⟨rfl, kk_ROWS_k15⟩, ⟨rfl, kk_ROWS_k16⟩, ⟨rfl, kk_ROWS_k17⟩, ⟨rfl, kk_ROWS_k18⟩, ⟨rfl, kk_ROWS_k19⟩, ⟨rfl, kk_ROWS_k20⟩, ⟨rfl, kk_ROWS_k21⟩, ⟨rfl, kk_ROWS_k22⟩, ⟨rfl, kk_ROWS_k23⟩, ⟨rfl, kk_ROWS_k24⟩, ⟨rfl, kk_ROWS_k25⟩, ⟨rfl, kk_ROWS_k26⟩, ⟨rfl, kk_ROWS_k27⟩, ⟨rfl, kk_ROWS_k28⟩, ⟨rfl, kk_ROWS_k29⟩, ⟨rfl, kk_ROWS_k30⟩, ⟨rfl, kk_ROWS_k31⟩, ⟨rfl, kk_ROWS_k32⟩, ⟨rfl, kk_ROWS_k33⟩, ⟨rfl, kk_ROWS_k34⟩, ⟨rfl, kk_ROWS_k35⟩, ⟨rfl, kk_ROWS_k36⟩, ⟨rfl, kk_ROWS_k37⟩, ⟨rfl, kk_ROWS_k38⟩, ⟨rfl, kk_ROWS_k39⟩, ⟨rfl, kk_ROWS_k40⟩, trivial⟩
  have kr_ROWS : KRows (M.Env.mk K (fun s => if s = "BadRow" then C_BadRow else if s = "RunsError" then C_RunsError else if s = "Unlike" then C_Unlike else if s = "Unknown" then C_Unknown else if s = "Stray" then C_Stray else if s = "BadNumber" then C_BadNumber else if s = "BadLength" then C_BadLength else if s = "Twice" then C_Twice else if s = "BadName" then C_BadName else if s = "BadText" then C_BadText else if s = "BadDepth" then C_BadDepth else if s = "BadLine" then C_BadLine else if s = "BadSite" then C_BadSite else if s = "BadSpot" then C_BadSpot else if s = "BadFlow" then C_BadFlow else if s = "NoMain" then C_NoMain else if s = "Missing" then C_Missing else if s = "NoUnit" then C_NoUnit else if s = "BadFree" then C_BadFree else if s = "TooMany" then C_TooMany else if s = "BadPass" then C_BadPass else if s = "BadBase" then C_BadBase else 0) (fun s => if s = "ROWS" then (.ref d_ROWS) else if s = "BOUNDS" then (.ref d_BOUNDS) else if s = "FORMS" then (.ref d_FORMS) else if s = "BITS" then (.ref d_BITS) else .ref 0) none) d_ROWS rows_ROWS := by
    intro r hr
    simp only [rows_ROWS, List.mem_cons, List.not_mem_nil, or_false] at hr
    rcases hr with rfl | rfl | rfl | rfl | rfl | rfl | rfl | rfl | rfl | rfl | rfl | rfl | rfl | rfl | rfl | rfl | rfl | rfl | rfl | rfl | rfl | rfl | rfl | rfl | rfl | rfl | rfl | rfl | rfl | rfl | rfl | rfl | rfl | rfl | rfl | rfl | rfl | rfl | rfl | rfl | rfl
    · exact ⟨_, .ref p_ROWS_k0, ze_ROWS_k0, rfl, kk_ROWS_k0⟩
    · exact ⟨_, .ref p_ROWS_k1, ze_ROWS_k1, rfl, kk_ROWS_k1⟩
    · exact ⟨_, .ref p_ROWS_k2, ze_ROWS_k2, rfl, kk_ROWS_k2⟩
    · exact ⟨_, .ref p_ROWS_k3, ze_ROWS_k3, rfl, kk_ROWS_k3⟩
    · exact ⟨_, .ref p_ROWS_k4, ze_ROWS_k4, rfl, kk_ROWS_k4⟩
    · exact ⟨_, .ref p_ROWS_k5, ze_ROWS_k5, rfl, kk_ROWS_k5⟩
    · exact ⟨_, .ref p_ROWS_k6, ze_ROWS_k6, rfl, kk_ROWS_k6⟩
    · exact ⟨_, .ref p_ROWS_k7, ze_ROWS_k7, rfl, kk_ROWS_k7⟩
    · exact ⟨_, .ref p_ROWS_k8, ze_ROWS_k8, rfl, kk_ROWS_k8⟩
    · exact ⟨_, .ref p_ROWS_k9, ze_ROWS_k9, rfl, kk_ROWS_k9⟩
    · exact ⟨_, .ref p_ROWS_k10, ze_ROWS_k10, rfl, kk_ROWS_k10⟩
    · exact ⟨_, .ref p_ROWS_k11, ze_ROWS_k11, rfl, kk_ROWS_k11⟩
    · exact ⟨_, .ref p_ROWS_k12, ze_ROWS_k12, rfl, kk_ROWS_k12⟩
    · exact ⟨_, .ref p_ROWS_k13, ze_ROWS_k13, rfl, kk_ROWS_k13⟩
    · exact ⟨_, .ref p_ROWS_k14, ze_ROWS_k14, rfl, kk_ROWS_k14⟩
    · exact ⟨_, .ref p_ROWS_k15, ze_ROWS_k15, rfl, kk_ROWS_k15⟩
    · exact ⟨_, .ref p_ROWS_k16, ze_ROWS_k16, rfl, kk_ROWS_k16⟩
    · exact ⟨_, .ref p_ROWS_k17, ze_ROWS_k17, rfl, kk_ROWS_k17⟩
    · exact ⟨_, .ref p_ROWS_k18, ze_ROWS_k18, rfl, kk_ROWS_k18⟩
    · exact ⟨_, .ref p_ROWS_k19, ze_ROWS_k19, rfl, kk_ROWS_k19⟩
    · exact ⟨_, .ref p_ROWS_k20, ze_ROWS_k20, rfl, kk_ROWS_k20⟩
    · exact ⟨_, .ref p_ROWS_k21, ze_ROWS_k21, rfl, kk_ROWS_k21⟩
    · exact ⟨_, .ref p_ROWS_k22, ze_ROWS_k22, rfl, kk_ROWS_k22⟩
    · exact ⟨_, .ref p_ROWS_k23, ze_ROWS_k23, rfl, kk_ROWS_k23⟩
    · exact ⟨_, .ref p_ROWS_k24, ze_ROWS_k24, rfl, kk_ROWS_k24⟩
    · exact ⟨_, .ref p_ROWS_k25, ze_ROWS_k25, rfl, kk_ROWS_k25⟩
    · exact ⟨_, .ref p_ROWS_k26, ze_ROWS_k26, rfl, kk_ROWS_k26⟩
    · exact ⟨_, .ref p_ROWS_k27, ze_ROWS_k27, rfl, kk_ROWS_k27⟩
    · exact ⟨_, .ref p_ROWS_k28, ze_ROWS_k28, rfl, kk_ROWS_k28⟩
    · exact ⟨_, .ref p_ROWS_k29, ze_ROWS_k29, rfl, kk_ROWS_k29⟩
    · exact ⟨_, .ref p_ROWS_k30, ze_ROWS_k30, rfl, kk_ROWS_k30⟩
    · exact ⟨_, .ref p_ROWS_k31, ze_ROWS_k31, rfl, kk_ROWS_k31⟩
    · exact ⟨_, .ref p_ROWS_k32, ze_ROWS_k32, rfl, kk_ROWS_k32⟩
    · exact ⟨_, .ref p_ROWS_k33, ze_ROWS_k33, rfl, kk_ROWS_k33⟩
    · exact ⟨_, .ref p_ROWS_k34, ze_ROWS_k34, rfl, kk_ROWS_k34⟩
    · exact ⟨_, .ref p_ROWS_k35, ze_ROWS_k35, rfl, kk_ROWS_k35⟩
    · exact ⟨_, .ref p_ROWS_k36, ze_ROWS_k36, rfl, kk_ROWS_k36⟩
    · exact ⟨_, .ref p_ROWS_k37, ze_ROWS_k37, rfl, kk_ROWS_k37⟩
    · exact ⟨_, .ref p_ROWS_k38, ze_ROWS_k38, rfl, kk_ROWS_k38⟩
    · exact ⟨_, .ref p_ROWS_k39, ze_ROWS_k39, rfl, kk_ROWS_k39⟩
    · exact ⟨_, .ref p_ROWS_k40, ze_ROWS_k40, rfl, kk_ROWS_k40⟩
  have D_BOUNDS : KDict K w d_BOUNDS es_BOUNDS n_BOUNDS := ⟨zD_BOUNDS, zL_BOUNDS, zS_BOUNDS⟩
  have kk_BOUNDS_k0 : ∀ S : Sta, S.G = (M.Env.mk K (fun s => if s = "BadRow" then C_BadRow else if s = "RunsError" then C_RunsError else if s = "Unlike" then C_Unlike else if s = "Unknown" then C_Unknown else if s = "Stray" then C_Stray else if s = "BadNumber" then C_BadNumber else if s = "BadLength" then C_BadLength else if s = "Twice" then C_Twice else if s = "BadName" then C_BadName else if s = "BadText" then C_BadText else if s = "BadDepth" then C_BadDepth else if s = "BadLine" then C_BadLine else if s = "BadSite" then C_BadSite else if s = "BadSpot" then C_BadSpot else if s = "BadFlow" then C_BadFlow else if s = "NoMain" then C_NoMain else if s = "Missing" then C_Missing else if s = "NoUnit" then C_NoUnit else if s = "BadFree" then C_BadFree else if s = "TooMany" then C_TooMany else if s = "BadPass" then C_BadPass else if s = "BadBase" then C_BadBase else 0) (fun s => if s = "ROWS" then (.ref d_ROWS) else if s = "BOUNDS" then (.ref d_BOUNDS) else if s = "FORMS" then (.ref d_FORMS) else if s = "BITS" then (.ref d_BITS) else .ref 0) none) → Rv S (T.ktp [(T.int (0)), (T.int (31)), (T.int (1))]) (.ref p_BOUNDS_k0) := fun S e => rv_ktp (by rw [e]; exact ⟨_, _, _, zy_BOUNDS_k0, rfl, rfl, zx_BOUNDS_k0, zw_BOUNDS_k0⟩) (RvL.cons (by simp only [Rv]) (RvL.cons (by simp only [Rv]) (RvL.cons (by simp only [Rv]) RvL.nil)))
  have kk_BOUNDS_k1 : ∀ S : Sta, S.G = (M.Env.mk K (fun s => if s = "BadRow" then C_BadRow else if s = "RunsError" then C_RunsError else if s = "Unlike" then C_Unlike else if s = "Unknown" then C_Unknown else if s = "Stray" then C_Stray else if s = "BadNumber" then C_BadNumber else if s = "BadLength" then C_BadLength else if s = "Twice" then C_Twice else if s = "BadName" then C_BadName else if s = "BadText" then C_BadText else if s = "BadDepth" then C_BadDepth else if s = "BadLine" then C_BadLine else if s = "BadSite" then C_BadSite else if s = "BadSpot" then C_BadSpot else if s = "BadFlow" then C_BadFlow else if s = "NoMain" then C_NoMain else if s = "Missing" then C_Missing else if s = "NoUnit" then C_NoUnit else if s = "BadFree" then C_BadFree else if s = "TooMany" then C_TooMany else if s = "BadPass" then C_BadPass else if s = "BadBase" then C_BadBase else 0) (fun s => if s = "ROWS" then (.ref d_ROWS) else if s = "BOUNDS" then (.ref d_BOUNDS) else if s = "FORMS" then (.ref d_FORMS) else if s = "BITS" then (.ref d_BITS) else .ref 0) none) → Rv S (T.ktp [(T.int (0)), (T.int (31)), (T.int (1))]) (.ref p_BOUNDS_k1) := fun S e => rv_ktp (by rw [e]; exact ⟨_, _, _, zy_BOUNDS_k1, rfl, rfl, zx_BOUNDS_k1, zw_BOUNDS_k1⟩) (RvL.cons (by simp only [Rv]) (RvL.cons (by simp only [Rv]) (RvL.cons (by simp only [Rv]) RvL.nil)))
  have kk_BOUNDS_k2 : ∀ S : Sta, S.G = (M.Env.mk K (fun s => if s = "BadRow" then C_BadRow else if s = "RunsError" then C_RunsError else if s = "Unlike" then C_Unlike else if s = "Unknown" then C_Unknown else if s = "Stray" then C_Stray else if s = "BadNumber" then C_BadNumber else if s = "BadLength" then C_BadLength else if s = "Twice" then C_Twice else if s = "BadName" then C_BadName else if s = "BadText" then C_BadText else if s = "BadDepth" then C_BadDepth else if s = "BadLine" then C_BadLine else if s = "BadSite" then C_BadSite else if s = "BadSpot" then C_BadSpot else if s = "BadFlow" then C_BadFlow else if s = "NoMain" then C_NoMain else if s = "Missing" then C_Missing else if s = "NoUnit" then C_NoUnit else if s = "BadFree" then C_BadFree else if s = "TooMany" then C_TooMany else if s = "BadPass" then C_BadPass else if s = "BadBase" then C_BadBase else 0) (fun s => if s = "ROWS" then (.ref d_ROWS) else if s = "BOUNDS" then (.ref d_BOUNDS) else if s = "FORMS" then (.ref d_FORMS) else if s = "BITS" then (.ref d_BITS) else .ref 0) none) → Rv S (T.ktp [(T.int (0)), (T.int (31)), (T.int (1))]) (.ref p_BOUNDS_k2) := fun S e => rv_ktp (by rw [e]; exact ⟨_, _, _, zy_BOUNDS_k2, rfl, rfl, zx_BOUNDS_k2, zw_BOUNDS_k2⟩) (RvL.cons (by simp only [Rv]) (RvL.cons (by simp only [Rv]) (RvL.cons (by simp only [Rv]) RvL.nil)))
  have kk_BOUNDS_k3 : ∀ S : Sta, S.G = (M.Env.mk K (fun s => if s = "BadRow" then C_BadRow else if s = "RunsError" then C_RunsError else if s = "Unlike" then C_Unlike else if s = "Unknown" then C_Unknown else if s = "Stray" then C_Stray else if s = "BadNumber" then C_BadNumber else if s = "BadLength" then C_BadLength else if s = "Twice" then C_Twice else if s = "BadName" then C_BadName else if s = "BadText" then C_BadText else if s = "BadDepth" then C_BadDepth else if s = "BadLine" then C_BadLine else if s = "BadSite" then C_BadSite else if s = "BadSpot" then C_BadSpot else if s = "BadFlow" then C_BadFlow else if s = "NoMain" then C_NoMain else if s = "Missing" then C_Missing else if s = "NoUnit" then C_NoUnit else if s = "BadFree" then C_BadFree else if s = "TooMany" then C_TooMany else if s = "BadPass" then C_BadPass else if s = "BadBase" then C_BadBase else 0) (fun s => if s = "ROWS" then (.ref d_ROWS) else if s = "BOUNDS" then (.ref d_BOUNDS) else if s = "FORMS" then (.ref d_FORMS) else if s = "BITS" then (.ref d_BITS) else .ref 0) none) → Rv S (T.ktp [(T.int (0)), (T.int (31)), (T.int (1))]) (.ref p_BOUNDS_k3) := fun S e => rv_ktp (by rw [e]; exact ⟨_, _, _, zy_BOUNDS_k3, rfl, rfl, zx_BOUNDS_k3, zw_BOUNDS_k3⟩) (RvL.cons (by simp only [Rv]) (RvL.cons (by simp only [Rv]) (RvL.cons (by simp only [Rv]) RvL.nil)))
  have kk_BOUNDS_k4 : ∀ S : Sta, S.G = (M.Env.mk K (fun s => if s = "BadRow" then C_BadRow else if s = "RunsError" then C_RunsError else if s = "Unlike" then C_Unlike else if s = "Unknown" then C_Unknown else if s = "Stray" then C_Stray else if s = "BadNumber" then C_BadNumber else if s = "BadLength" then C_BadLength else if s = "Twice" then C_Twice else if s = "BadName" then C_BadName else if s = "BadText" then C_BadText else if s = "BadDepth" then C_BadDepth else if s = "BadLine" then C_BadLine else if s = "BadSite" then C_BadSite else if s = "BadSpot" then C_BadSpot else if s = "BadFlow" then C_BadFlow else if s = "NoMain" then C_NoMain else if s = "Missing" then C_Missing else if s = "NoUnit" then C_NoUnit else if s = "BadFree" then C_BadFree else if s = "TooMany" then C_TooMany else if s = "BadPass" then C_BadPass else if s = "BadBase" then C_BadBase else 0) (fun s => if s = "ROWS" then (.ref d_ROWS) else if s = "BOUNDS" then (.ref d_BOUNDS) else if s = "FORMS" then (.ref d_FORMS) else if s = "BITS" then (.ref d_BITS) else .ref 0) none) → Rv S (T.ktp [(T.int (-2048)), (T.int (2047)), (T.int (1))]) (.ref p_BOUNDS_k4) := fun S e => rv_ktp (by rw [e]; exact ⟨_, _, _, zy_BOUNDS_k4, rfl, rfl, zx_BOUNDS_k4, zw_BOUNDS_k4⟩) (RvL.cons (by simp only [Rv]) (RvL.cons (by simp only [Rv]) (RvL.cons (by simp only [Rv]) RvL.nil)))
  have kk_BOUNDS_k5 : ∀ S : Sta, S.G = (M.Env.mk K (fun s => if s = "BadRow" then C_BadRow else if s = "RunsError" then C_RunsError else if s = "Unlike" then C_Unlike else if s = "Unknown" then C_Unknown else if s = "Stray" then C_Stray else if s = "BadNumber" then C_BadNumber else if s = "BadLength" then C_BadLength else if s = "Twice" then C_Twice else if s = "BadName" then C_BadName else if s = "BadText" then C_BadText else if s = "BadDepth" then C_BadDepth else if s = "BadLine" then C_BadLine else if s = "BadSite" then C_BadSite else if s = "BadSpot" then C_BadSpot else if s = "BadFlow" then C_BadFlow else if s = "NoMain" then C_NoMain else if s = "Missing" then C_Missing else if s = "NoUnit" then C_NoUnit else if s = "BadFree" then C_BadFree else if s = "TooMany" then C_TooMany else if s = "BadPass" then C_BadPass else if s = "BadBase" then C_BadBase else 0) (fun s => if s = "ROWS" then (.ref d_ROWS) else if s = "BOUNDS" then (.ref d_BOUNDS) else if s = "FORMS" then (.ref d_FORMS) else if s = "BITS" then (.ref d_BITS) else .ref 0) none) → Rv S (T.ktp [(T.int (-2048)), (T.int (2047)), (T.int (1))]) (.ref p_BOUNDS_k5) := fun S e => rv_ktp (by rw [e]; exact ⟨_, _, _, zy_BOUNDS_k5, rfl, rfl, zx_BOUNDS_k5, zw_BOUNDS_k5⟩) (RvL.cons (by simp only [Rv]) (RvL.cons (by simp only [Rv]) (RvL.cons (by simp only [Rv]) RvL.nil)))
  have kk_BOUNDS_k6 : ∀ S : Sta, S.G = (M.Env.mk K (fun s => if s = "BadRow" then C_BadRow else if s = "RunsError" then C_RunsError else if s = "Unlike" then C_Unlike else if s = "Unknown" then C_Unknown else if s = "Stray" then C_Stray else if s = "BadNumber" then C_BadNumber else if s = "BadLength" then C_BadLength else if s = "Twice" then C_Twice else if s = "BadName" then C_BadName else if s = "BadText" then C_BadText else if s = "BadDepth" then C_BadDepth else if s = "BadLine" then C_BadLine else if s = "BadSite" then C_BadSite else if s = "BadSpot" then C_BadSpot else if s = "BadFlow" then C_BadFlow else if s = "NoMain" then C_NoMain else if s = "Missing" then C_Missing else if s = "NoUnit" then C_NoUnit else if s = "BadFree" then C_BadFree else if s = "TooMany" then C_TooMany else if s = "BadPass" then C_BadPass else if s = "BadBase" then C_BadBase else 0) (fun s => if s = "ROWS" then (.ref d_ROWS) else if s = "BOUNDS" then (.ref d_BOUNDS) else if s = "FORMS" then (.ref d_FORMS) else if s = "BITS" then (.ref d_BITS) else .ref 0) none) → Rv S (T.ktp [(T.int (0)), (T.int (1048575)), (T.int (1))]) (.ref p_BOUNDS_k6) := fun S e => rv_ktp (by rw [e]; exact ⟨_, _, _, zy_BOUNDS_k6, rfl, rfl, zx_BOUNDS_k6, zw_BOUNDS_k6⟩) (RvL.cons (by simp only [Rv]) (RvL.cons (by simp only [Rv]) (RvL.cons (by simp only [Rv]) RvL.nil)))
  have kk_BOUNDS_k7 : ∀ S : Sta, S.G = (M.Env.mk K (fun s => if s = "BadRow" then C_BadRow else if s = "RunsError" then C_RunsError else if s = "Unlike" then C_Unlike else if s = "Unknown" then C_Unknown else if s = "Stray" then C_Stray else if s = "BadNumber" then C_BadNumber else if s = "BadLength" then C_BadLength else if s = "Twice" then C_Twice else if s = "BadName" then C_BadName else if s = "BadText" then C_BadText else if s = "BadDepth" then C_BadDepth else if s = "BadLine" then C_BadLine else if s = "BadSite" then C_BadSite else if s = "BadSpot" then C_BadSpot else if s = "BadFlow" then C_BadFlow else if s = "NoMain" then C_NoMain else if s = "Missing" then C_Missing else if s = "NoUnit" then C_NoUnit else if s = "BadFree" then C_BadFree else if s = "TooMany" then C_TooMany else if s = "BadPass" then C_BadPass else if s = "BadBase" then C_BadBase else 0) (fun s => if s = "ROWS" then (.ref d_ROWS) else if s = "BOUNDS" then (.ref d_BOUNDS) else if s = "FORMS" then (.ref d_FORMS) else if s = "BITS" then (.ref d_BITS) else .ref 0) none) → Rv S (T.ktp [(T.int (-4096)), (T.int (4094)), (T.int (2))]) (.ref p_BOUNDS_k7) := fun S e => rv_ktp (by rw [e]; exact ⟨_, _, _, zy_BOUNDS_k7, rfl, rfl, zx_BOUNDS_k7, zw_BOUNDS_k7⟩) (RvL.cons (by simp only [Rv]) (RvL.cons (by simp only [Rv]) (RvL.cons (by simp only [Rv]) RvL.nil)))
  have kk_BOUNDS_k8 : ∀ S : Sta, S.G = (M.Env.mk K (fun s => if s = "BadRow" then C_BadRow else if s = "RunsError" then C_RunsError else if s = "Unlike" then C_Unlike else if s = "Unknown" then C_Unknown else if s = "Stray" then C_Stray else if s = "BadNumber" then C_BadNumber else if s = "BadLength" then C_BadLength else if s = "Twice" then C_Twice else if s = "BadName" then C_BadName else if s = "BadText" then C_BadText else if s = "BadDepth" then C_BadDepth else if s = "BadLine" then C_BadLine else if s = "BadSite" then C_BadSite else if s = "BadSpot" then C_BadSpot else if s = "BadFlow" then C_BadFlow else if s = "NoMain" then C_NoMain else if s = "Missing" then C_Missing else if s = "NoUnit" then C_NoUnit else if s = "BadFree" then C_BadFree else if s = "TooMany" then C_TooMany else if s = "BadPass" then C_BadPass else if s = "BadBase" then C_BadBase else 0) (fun s => if s = "ROWS" then (.ref d_ROWS) else if s = "BOUNDS" then (.ref d_BOUNDS) else if s = "FORMS" then (.ref d_FORMS) else if s = "BITS" then (.ref d_BITS) else .ref 0) none) → Rv S (T.ktp [(T.int (-1048576)), (T.int (1048574)), (T.int (2))]) (.ref p_BOUNDS_k8) := fun S e => rv_ktp (by rw [e]; exact ⟨_, _, _, zy_BOUNDS_k8, rfl, rfl, zx_BOUNDS_k8, zw_BOUNDS_k8⟩) (RvL.cons (by simp only [Rv]) (RvL.cons (by simp only [Rv]) (RvL.cons (by simp only [Rv]) RvL.nil)))
  have kr_BOUNDS : KRows (M.Env.mk K (fun s => if s = "BadRow" then C_BadRow else if s = "RunsError" then C_RunsError else if s = "Unlike" then C_Unlike else if s = "Unknown" then C_Unknown else if s = "Stray" then C_Stray else if s = "BadNumber" then C_BadNumber else if s = "BadLength" then C_BadLength else if s = "Twice" then C_Twice else if s = "BadName" then C_BadName else if s = "BadText" then C_BadText else if s = "BadDepth" then C_BadDepth else if s = "BadLine" then C_BadLine else if s = "BadSite" then C_BadSite else if s = "BadSpot" then C_BadSpot else if s = "BadFlow" then C_BadFlow else if s = "NoMain" then C_NoMain else if s = "Missing" then C_Missing else if s = "NoUnit" then C_NoUnit else if s = "BadFree" then C_BadFree else if s = "TooMany" then C_TooMany else if s = "BadPass" then C_BadPass else if s = "BadBase" then C_BadBase else 0) (fun s => if s = "ROWS" then (.ref d_ROWS) else if s = "BOUNDS" then (.ref d_BOUNDS) else if s = "FORMS" then (.ref d_FORMS) else if s = "BITS" then (.ref d_BITS) else .ref 0) none) d_BOUNDS rows_BOUNDS := by
    intro r hr
    simp only [rows_BOUNDS, List.mem_cons, List.not_mem_nil, or_false] at hr
    rcases hr with rfl | rfl | rfl | rfl | rfl | rfl | rfl | rfl | rfl
    · exact ⟨_, .ref p_BOUNDS_k0, ze_BOUNDS_k0, rfl, kk_BOUNDS_k0⟩
    · exact ⟨_, .ref p_BOUNDS_k1, ze_BOUNDS_k1, rfl, kk_BOUNDS_k1⟩
    · exact ⟨_, .ref p_BOUNDS_k2, ze_BOUNDS_k2, rfl, kk_BOUNDS_k2⟩
    · exact ⟨_, .ref p_BOUNDS_k3, ze_BOUNDS_k3, rfl, kk_BOUNDS_k3⟩
    · exact ⟨_, .ref p_BOUNDS_k4, ze_BOUNDS_k4, rfl, kk_BOUNDS_k4⟩
    · exact ⟨_, .ref p_BOUNDS_k5, ze_BOUNDS_k5, rfl, kk_BOUNDS_k5⟩
    · exact ⟨_, .ref p_BOUNDS_k6, ze_BOUNDS_k6, rfl, kk_BOUNDS_k6⟩
    · exact ⟨_, .ref p_BOUNDS_k7, ze_BOUNDS_k7, rfl, kk_BOUNDS_k7⟩
    · exact ⟨_, .ref p_BOUNDS_k8, ze_BOUNDS_k8, rfl, kk_BOUNDS_k8⟩
  have D_BITS : KDict K w d_BITS es_BITS n_BITS := ⟨zD_BITS, zL_BITS, zS_BITS⟩
  have kk_BITS_k0_0 : ∀ S : Sta, S.G = (M.Env.mk K (fun s => if s = "BadRow" then C_BadRow else if s = "RunsError" then C_RunsError else if s = "Unlike" then C_Unlike else if s = "Unknown" then C_Unknown else if s = "Stray" then C_Stray else if s = "BadNumber" then C_BadNumber else if s = "BadLength" then C_BadLength else if s = "Twice" then C_Twice else if s = "BadName" then C_BadName else if s = "BadText" then C_BadText else if s = "BadDepth" then C_BadDepth else if s = "BadLine" then C_BadLine else if s = "BadSite" then C_BadSite else if s = "BadSpot" then C_BadSpot else if s = "BadFlow" then C_BadFlow else if s = "NoMain" then C_NoMain else if s = "Missing" then C_Missing else if s = "NoUnit" then C_NoUnit else if s = "BadFree" then C_BadFree else if s = "TooMany" then C_TooMany else if s = "BadPass" then C_BadPass else if s = "BadBase" then C_BadBase else 0) (fun s => if s = "ROWS" then (.ref d_ROWS) else if s = "BOUNDS" then (.ref d_BOUNDS) else if s = "FORMS" then (.ref d_FORMS) else if s = "BITS" then (.ref d_BITS) else .ref 0) none) → Rv S (T.ktp [(T.int (0)), (T.int (5)), (T.int (7))]) (.ref p_BITS_k0_0) := fun S e => rv_ktp (by rw [e]; exact ⟨_, _, _, zy_BITS_k0_0, rfl, rfl, zx_BITS_k0_0, zw_BITS_k0_0⟩) (RvL.cons (by simp only [Rv]) (RvL.cons (by simp only [Rv]) (RvL.cons (by simp only [Rv]) RvL.nil)))
  have kk_BITS_k0 : ∀ S : Sta, S.G = (M.Env.mk K (fun s => if s = "BadRow" then C_BadRow else if s = "RunsError" then C_RunsError else if s = "Unlike" then C_Unlike else if s = "Unknown" then C_Unknown else if s = "Stray" then C_Stray else if s = "BadNumber" then C_BadNumber else if s = "BadLength" then C_BadLength else if s = "Twice" then C_Twice else if s = "BadName" then C_BadName else if s = "BadText" then C_BadText else if s = "BadDepth" then C_BadDepth else if s = "BadLine" then C_BadLine else if s = "BadSite" then C_BadSite else if s = "BadSpot" then C_BadSpot else if s = "BadFlow" then C_BadFlow else if s = "NoMain" then C_NoMain else if s = "Missing" then C_Missing else if s = "NoUnit" then C_NoUnit else if s = "BadFree" then C_BadFree else if s = "TooMany" then C_TooMany else if s = "BadPass" then C_BadPass else if s = "BadBase" then C_BadBase else 0) (fun s => if s = "ROWS" then (.ref d_ROWS) else if s = "BOUNDS" then (.ref d_BOUNDS) else if s = "FORMS" then (.ref d_FORMS) else if s = "BITS" then (.ref d_BITS) else .ref 0) none) → Rv S (T.ktp [(T.ktp [(T.int (0)), (T.int (5)), (T.int (7))])]) (.ref p_BITS_k0) := fun S e => rv_ktp (by rw [e]; exact ⟨_, _, _, zy_BITS_k0, rfl, rfl, zx_BITS_k0, zw_BITS_k0⟩) (RvL.cons (kk_BITS_k0_0 S e) RvL.nil)
  have kk_BITS_k1_0 : ∀ S : Sta, S.G = (M.Env.mk K (fun s => if s = "BadRow" then C_BadRow else if s = "RunsError" then C_RunsError else if s = "Unlike" then C_Unlike else if s = "Unknown" then C_Unknown else if s = "Stray" then C_Stray else if s = "BadNumber" then C_BadNumber else if s = "BadLength" then C_BadLength else if s = "Twice" then C_Twice else if s = "BadName" then C_BadName else if s = "BadText" then C_BadText else if s = "BadDepth" then C_BadDepth else if s = "BadLine" then C_BadLine else if s = "BadSite" then C_BadSite else if s = "BadSpot" then C_BadSpot else if s = "BadFlow" then C_BadFlow else if s = "NoMain" then C_NoMain else if s = "Missing" then C_Missing else if s = "NoUnit" then C_NoUnit else if s = "BadFree" then C_BadFree else if s = "TooMany" then C_TooMany else if s = "BadPass" then C_BadPass else if s = "BadBase" then C_BadBase else 0) (fun s => if s = "ROWS" then (.ref d_ROWS) else if s = "BOUNDS" then (.ref d_BOUNDS) else if s = "FORMS" then (.ref d_FORMS) else if s = "BITS" then (.ref d_BITS) else .ref 0) none) → Rv S (T.ktp [(T.int (0)), (T.int (5)), (T.int (15))]) (.ref p_BITS_k1_0) := fun S e => rv_ktp (by rw [e]; exact ⟨_, _, _, zy_BITS_k1_0, rfl, rfl, zx_BITS_k1_0, zw_BITS_k1_0⟩) (RvL.cons (by simp only [Rv]) (RvL.cons (by simp only [Rv]) (RvL.cons (by simp only [Rv]) RvL.nil)))
  have kk_BITS_k1 : ∀ S : Sta, S.G = (M.Env.mk K (fun s => if s = "BadRow" then C_BadRow else if s = "RunsError" then C_RunsError else if s = "Unlike" then C_Unlike else if s = "Unknown" then C_Unknown else if s = "Stray" then C_Stray else if s = "BadNumber" then C_BadNumber else if s = "BadLength" then C_BadLength else if s = "Twice" then C_Twice else if s = "BadName" then C_BadName else if s = "BadText" then C_BadText else if s = "BadDepth" then C_BadDepth else if s = "BadLine" then C_BadLine else if s = "BadSite" then C_BadSite else if s = "BadSpot" then C_BadSpot else if s = "BadFlow" then C_BadFlow else if s = "NoMain" then C_NoMain else if s = "Missing" then C_Missing else if s = "NoUnit" then C_NoUnit else if s = "BadFree" then C_BadFree else if s = "TooMany" then C_TooMany else if s = "BadPass" then C_BadPass else if s = "BadBase" then C_BadBase else 0) (fun s => if s = "ROWS" then (.ref d_ROWS) else if s = "BOUNDS" then (.ref d_BOUNDS) else if s = "FORMS" then (.ref d_FORMS) else if s = "BITS" then (.ref d_BITS) else .ref 0) none) → Rv S (T.ktp [(T.ktp [(T.int (0)), (T.int (5)), (T.int (15))])]) (.ref p_BITS_k1) := fun S e => rv_ktp (by rw [e]; exact ⟨_, _, _, zy_BITS_k1, rfl, rfl, zx_BITS_k1, zw_BITS_k1⟩) (RvL.cons (kk_BITS_k1_0 S e) RvL.nil)
  have kk_BITS_k2_0 : ∀ S : Sta, S.G = (M.Env.mk K (fun s => if s = "BadRow" then C_BadRow else if s = "RunsError" then C_RunsError else if s = "Unlike" then C_Unlike else if s = "Unknown" then C_Unknown else if s = "Stray" then C_Stray else if s = "BadNumber" then C_BadNumber else if s = "BadLength" then C_BadLength else if s = "Twice" then C_Twice else if s = "BadName" then C_BadName else if s = "BadText" then C_BadText else if s = "BadDepth" then C_BadDepth else if s = "BadLine" then C_BadLine else if s = "BadSite" then C_BadSite else if s = "BadSpot" then C_BadSpot else if s = "BadFlow" then C_BadFlow else if s = "NoMain" then C_NoMain else if s = "Missing" then C_Missing else if s = "NoUnit" then C_NoUnit else if s = "BadFree" then C_BadFree else if s = "TooMany" then C_TooMany else if s = "BadPass" then C_BadPass else if s = "BadBase" then C_BadBase else 0) (fun s => if s = "ROWS" then (.ref d_ROWS) else if s = "BOUNDS" then (.ref d_BOUNDS) else if s = "FORMS" then (.ref d_FORMS) else if s = "BITS" then (.ref d_BITS) else .ref 0) none) → Rv S (T.ktp [(T.int (0)), (T.int (5)), (T.int (20))]) (.ref p_BITS_k2_0) := fun S e => rv_ktp (by rw [e]; exact ⟨_, _, _, zy_BITS_k2_0, rfl, rfl, zx_BITS_k2_0, zw_BITS_k2_0⟩) (RvL.cons (by simp only [Rv]) (RvL.cons (by simp only [Rv]) (RvL.cons (by simp only [Rv]) RvL.nil)))
  have kk_BITS_k2 : ∀ S : Sta, S.G = (M.Env.mk K (fun s => if s = "BadRow" then C_BadRow else if s = "RunsError" then C_RunsError else if s = "Unlike" then C_Unlike else if s = "Unknown" then C_Unknown else if s = "Stray" then C_Stray else if s = "BadNumber" then C_BadNumber else if s = "BadLength" then C_BadLength else if s = "Twice" then C_Twice else if s = "BadName" then C_BadName else if s = "BadText" then C_BadText else if s = "BadDepth" then C_BadDepth else if s = "BadLine" then C_BadLine else if s = "BadSite" then C_BadSite else if s = "BadSpot" then C_BadSpot else if s = "BadFlow" then C_BadFlow else if s = "NoMain" then C_NoMain else if s = "Missing" then C_Missing else if s = "NoUnit" then C_NoUnit else if s = "BadFree" then C_BadFree else if s = "TooMany" then C_TooMany else if s = "BadPass" then C_BadPass else if s = "BadBase" then C_BadBase else 0) (fun s => if s = "ROWS" then (.ref d_ROWS) else if s = "BOUNDS" then (.ref d_BOUNDS) else if s = "FORMS" then (.ref d_FORMS) else if s = "BITS" then (.ref d_BITS) else .ref 0) none) → Rv S (T.ktp [(T.ktp [(T.int (0)), (T.int (5)), (T.int (20))])]) (.ref p_BITS_k2) := fun S e => rv_ktp (by rw [e]; exact ⟨_, _, _, zy_BITS_k2, rfl, rfl, zx_BITS_k2, zw_BITS_k2⟩) (RvL.cons (kk_BITS_k2_0 S e) RvL.nil)
  have kk_BITS_k3_0 : ∀ S : Sta, S.G = (M.Env.mk K (fun s => if s = "BadRow" then C_BadRow else if s = "RunsError" then C_RunsError else if s = "Unlike" then C_Unlike else if s = "Unknown" then C_Unknown else if s = "Stray" then C_Stray else if s = "BadNumber" then C_BadNumber else if s = "BadLength" then C_BadLength else if s = "Twice" then C_Twice else if s = "BadName" then C_BadName else if s = "BadText" then C_BadText else if s = "BadDepth" then C_BadDepth else if s = "BadLine" then C_BadLine else if s = "BadSite" then C_BadSite else if s = "BadSpot" then C_BadSpot else if s = "BadFlow" then C_BadFlow else if s = "NoMain" then C_NoMain else if s = "Missing" then C_Missing else if s = "NoUnit" then C_NoUnit else if s = "BadFree" then C_BadFree else if s = "TooMany" then C_TooMany else if s = "BadPass" then C_BadPass else if s = "BadBase" then C_BadBase else 0) (fun s => if s = "ROWS" then (.ref d_ROWS) else if s = "BOUNDS" then (.ref d_BOUNDS) else if s = "FORMS" then (.ref d_FORMS) else if s = "BITS" then (.ref d_BITS) else .ref 0) none) → Rv S (T.ktp [(T.int (0)), (T.int (5)), (T.int (20))]) (.ref p_BITS_k3_0) := fun S e => rv_ktp (by rw [e]; exact ⟨_, _, _, zy_BITS_k3_0, rfl, rfl, zx_BITS_k3_0, zw_BITS_k3_0⟩) (RvL.cons (by simp only [Rv]) (RvL.cons (by simp only [Rv]) (RvL.cons (by simp only [Rv]) RvL.nil)))
  have kk_BITS_k3 : ∀ S : Sta, S.G = (M.Env.mk K (fun s => if s = "BadRow" then C_BadRow else if s = "RunsError" then C_RunsError else if s = "Unlike" then C_Unlike else if s = "Unknown" then C_Unknown else if s = "Stray" then C_Stray else if s = "BadNumber" then C_BadNumber else if s = "BadLength" then C_BadLength else if s = "Twice" then C_Twice else if s = "BadName" then C_BadName else if s = "BadText" then C_BadText else if s = "BadDepth" then C_BadDepth else if s = "BadLine" then C_BadLine else if s = "BadSite" then C_BadSite else if s = "BadSpot" then C_BadSpot else if s = "BadFlow" then C_BadFlow else if s = "NoMain" then C_NoMain else if s = "Missing" then C_Missing else if s = "NoUnit" then C_NoUnit else if s = "BadFree" then C_BadFree else if s = "TooMany" then C_TooMany else if s = "BadPass" then C_BadPass else if s = "BadBase" then C_BadBase else 0) (fun s => if s = "ROWS" then (.ref d_ROWS) else if s = "BOUNDS" then (.ref d_BOUNDS) else if s = "FORMS" then (.ref d_FORMS) else if s = "BITS" then (.ref d_BITS) else .ref 0) none) → Rv S (T.ktp [(T.ktp [(T.int (0)), (T.int (5)), (T.int (20))])]) (.ref p_BITS_k3) := fun S e => rv_ktp (by rw [e]; exact ⟨_, _, _, zy_BITS_k3, rfl, rfl, zx_BITS_k3, zw_BITS_k3⟩) (RvL.cons (kk_BITS_k3_0 S e) RvL.nil)
  have kk_BITS_k4_0 : ∀ S : Sta, S.G = (M.Env.mk K (fun s => if s = "BadRow" then C_BadRow else if s = "RunsError" then C_RunsError else if s = "Unlike" then C_Unlike else if s = "Unknown" then C_Unknown else if s = "Stray" then C_Stray else if s = "BadNumber" then C_BadNumber else if s = "BadLength" then C_BadLength else if s = "Twice" then C_Twice else if s = "BadName" then C_BadName else if s = "BadText" then C_BadText else if s = "BadDepth" then C_BadDepth else if s = "BadLine" then C_BadLine else if s = "BadSite" then C_BadSite else if s = "BadSpot" then C_BadSpot else if s = "BadFlow" then C_BadFlow else if s = "NoMain" then C_NoMain else if s = "Missing" then C_Missing else if s = "NoUnit" then C_NoUnit else if s = "BadFree" then C_BadFree else if s = "TooMany" then C_TooMany else if s = "BadPass" then C_BadPass else if s = "BadBase" then C_BadBase else 0) (fun s => if s = "ROWS" then (.ref d_ROWS) else if s = "BOUNDS" then (.ref d_BOUNDS) else if s = "FORMS" then (.ref d_FORMS) else if s = "BITS" then (.ref d_BITS) else .ref 0) none) → Rv S (T.ktp [(T.int (0)), (T.int (12)), (T.int (20))]) (.ref p_BITS_k4_0) := fun S e => rv_ktp (by rw [e]; exact ⟨_, _, _, zy_BITS_k4_0, rfl, rfl, zx_BITS_k4_0, zw_BITS_k4_0⟩) (RvL.cons (by simp only [Rv]) (RvL.cons (by simp only [Rv]) (RvL.cons (by simp only [Rv]) RvL.nil)))
  have kk_BITS_k4 : ∀ S : Sta, S.G = (M.Env.mk K (fun s => if s = "BadRow" then C_BadRow else if s = "RunsError" then C_RunsError else if s = "Unlike" then C_Unlike else if s = "Unknown" then C_Unknown else if s = "Stray" then C_Stray else if s = "BadNumber" then C_BadNumber else if s = "BadLength" then C_BadLength else if s = "Twice" then C_Twice else if s = "BadName" then C_BadName else if s = "BadText" then C_BadText else if s = "BadDepth" then C_BadDepth else if s = "BadLine" then C_BadLine else if s = "BadSite" then C_BadSite else if s = "BadSpot" then C_BadSpot else if s = "BadFlow" then C_BadFlow else if s = "NoMain" then C_NoMain else if s = "Missing" then C_Missing else if s = "NoUnit" then C_NoUnit else if s = "BadFree" then C_BadFree else if s = "TooMany" then C_TooMany else if s = "BadPass" then C_BadPass else if s = "BadBase" then C_BadBase else 0) (fun s => if s = "ROWS" then (.ref d_ROWS) else if s = "BOUNDS" then (.ref d_BOUNDS) else if s = "FORMS" then (.ref d_FORMS) else if s = "BITS" then (.ref d_BITS) else .ref 0) none) → Rv S (T.ktp [(T.ktp [(T.int (0)), (T.int (12)), (T.int (20))])]) (.ref p_BITS_k4) := fun S e => rv_ktp (by rw [e]; exact ⟨_, _, _, zy_BITS_k4, rfl, rfl, zx_BITS_k4, zw_BITS_k4⟩) (RvL.cons (kk_BITS_k4_0 S e) RvL.nil)
  have kk_BITS_k5_0 : ∀ S : Sta, S.G = (M.Env.mk K (fun s => if s = "BadRow" then C_BadRow else if s = "RunsError" then C_RunsError else if s = "Unlike" then C_Unlike else if s = "Unknown" then C_Unknown else if s = "Stray" then C_Stray else if s = "BadNumber" then C_BadNumber else if s = "BadLength" then C_BadLength else if s = "Twice" then C_Twice else if s = "BadName" then C_BadName else if s = "BadText" then C_BadText else if s = "BadDepth" then C_BadDepth else if s = "BadLine" then C_BadLine else if s = "BadSite" then C_BadSite else if s = "BadSpot" then C_BadSpot else if s = "BadFlow" then C_BadFlow else if s = "NoMain" then C_NoMain else if s = "Missing" then C_Missing else if s = "NoUnit" then C_NoUnit else if s = "BadFree" then C_BadFree else if s = "TooMany" then C_TooMany else if s = "BadPass" then C_BadPass else if s = "BadBase" then C_BadBase else 0) (fun s => if s = "ROWS" then (.ref d_ROWS) else if s = "BOUNDS" then (.ref d_BOUNDS) else if s = "FORMS" then (.ref d_FORMS) else if s = "BITS" then (.ref d_BITS) else .ref 0) none) → Rv S (T.ktp [(T.int (0)), (T.int (5)), (T.int (7))]) (.ref p_BITS_k5_0) := fun S e => rv_ktp (by rw [e]; exact ⟨_, _, _, zy_BITS_k5_0, rfl, rfl, zx_BITS_k5_0, zw_BITS_k5_0⟩) (RvL.cons (by simp only [Rv]) (RvL.cons (by simp only [Rv]) (RvL.cons (by simp only [Rv]) RvL.nil)))
  have kk_BITS_k5_1 : ∀ S : Sta, S.G = (M.Env.mk K (fun s => if s = "BadRow" then C_BadRow else if s = "RunsError" then C_RunsError else if s = "Unlike" then C_Unlike else if s = "Unknown" then C_Unknown else if s = "Stray" then C_Stray else if s = "BadNumber" then C_BadNumber else if s = "BadLength" then C_BadLength else if s = "Twice" then C_Twice else if s = "BadName" then C_BadName else if s = "BadText" then C_BadText else if s = "BadDepth" then C_BadDepth else if s = "BadLine" then C_BadLine else if s = "BadSite" then C_BadSite else if s = "BadSpot" then C_BadSpot else if s = "BadFlow" then C_BadFlow else if s = "NoMain" then C_NoMain else if s = "Missing" then C_Missing else if s = "NoUnit" then C_NoUnit else if s = "BadFree" then C_BadFree else if s = "TooMany" then C_TooMany else if s = "BadPass" then C_BadPass else if s = "BadBase" then C_BadBase else 0) (fun s => if s = "ROWS" then (.ref d_ROWS) else if s = "BOUNDS" then (.ref d_BOUNDS) else if s = "FORMS" then (.ref d_FORMS) else if s = "BITS" then (.ref d_BITS) else .ref 0) none) → Rv S (T.ktp [(T.int (5)), (T.int (7)), (T.int (25))]) (.ref p_BITS_k5_1) := fun S e => rv_ktp (by rw [e]; exact ⟨_, _, _, zy_BITS_k5_1, rfl, rfl, zx_BITS_k5_1, zw_BITS_k5_1⟩) (RvL.cons (by simp only [Rv]) (RvL.cons (by simp only [Rv]) (RvL.cons (by simp only [Rv]) RvL.nil)))
  have kk_BITS_k5 : ∀ S : Sta, S.G = (M.Env.mk K (fun s => if s = "BadRow" then C_BadRow else if s = "RunsError" then C_RunsError else if s = "Unlike" then C_Unlike else if s = "Unknown" then C_Unknown else if s = "Stray" then C_Stray else if s = "BadNumber" then C_BadNumber else if s = "BadLength" then C_BadLength else if s = "Twice" then C_Twice else if s = "BadName" then C_BadName else if s = "BadText" then C_BadText else if s = "BadDepth" then C_BadDepth else if s = "BadLine" then C_BadLine else if s = "BadSite" then C_BadSite else if s = "BadSpot" then C_BadSpot else if s = "BadFlow" then C_BadFlow else if s = "NoMain" then C_NoMain else if s = "Missing" then C_Missing else if s = "NoUnit" then C_NoUnit else if s = "BadFree" then C_BadFree else if s = "TooMany" then C_TooMany else if s = "BadPass" then C_BadPass else if s = "BadBase" then C_BadBase else 0) (fun s => if s = "ROWS" then (.ref d_ROWS) else if s = "BOUNDS" then (.ref d_BOUNDS) else if s = "FORMS" then (.ref d_FORMS) else if s = "BITS" then (.ref d_BITS) else .ref 0) none) → Rv S (T.ktp [(T.ktp [(T.int (0)), (T.int (5)), (T.int (7))]), (T.ktp [(T.int (5)), (T.int (7)), (T.int (25))])]) (.ref p_BITS_k5) := fun S e => rv_ktp (by rw [e]; exact ⟨_, _, _, zy_BITS_k5, rfl, rfl, zx_BITS_k5, zw_BITS_k5⟩) (RvL.cons (kk_BITS_k5_0 S e) (RvL.cons (kk_BITS_k5_1 S e) RvL.nil))
  have kk_BITS_k6_0 : ∀ S : Sta, S.G = (M.Env.mk K (fun s => if s = "BadRow" then C_BadRow else if s = "RunsError" then C_RunsError else if s = "Unlike" then C_Unlike else if s = "Unknown" then C_Unknown else if s = "Stray" then C_Stray else if s = "BadNumber" then C_BadNumber else if s = "BadLength" then C_BadLength else if s = "Twice" then C_Twice else if s = "BadName" then C_BadName else if s = "BadText" then C_BadText else if s = "BadDepth" then C_BadDepth else if s = "BadLine" then C_BadLine else if s = "BadSite" then C_BadSite else if s = "BadSpot" then C_BadSpot else if s = "BadFlow" then C_BadFlow else if s = "NoMain" then C_NoMain else if s = "Missing" then C_Missing else if s = "NoUnit" then C_NoUnit else if s = "BadFree" then C_BadFree else if s = "TooMany" then C_TooMany else if s = "BadPass" then C_BadPass else if s = "BadBase" then C_BadBase else 0) (fun s => if s = "ROWS" then (.ref d_ROWS) else if s = "BOUNDS" then (.ref d_BOUNDS) else if s = "FORMS" then (.ref d_FORMS) else if s = "BITS" then (.ref d_BITS) else .ref 0) none) → Rv S (T.ktp [(T.int (0)), (T.int (20)), (T.int (12))]) (.ref p_BITS_k6_0) := fun S e => rv_ktp (by rw [e]; exact ⟨_, _, _, zy_BITS_k6_0, rfl, rfl, zx_BITS_k6_0, zw_BITS_k6_0⟩) (RvL.cons (by simp only [Rv]) (RvL.cons (by simp only [Rv]) (RvL.cons (by simp only [Rv]) RvL.nil)))
  have kk_BITS_k6 : ∀ S : Sta, S.G = (M.Env.mk K (fun s => if s = "BadRow" then C_BadRow else if s = "RunsError" then C_RunsError else if s = "Unlike" then C_Unlike else if s = "Unknown" then C_Unknown else if s = "Stray" then C_Stray else if s = "BadNumber" then C_BadNumber else if s = "BadLength" then C_BadLength else if s = "Twice" then C_Twice else if s = "BadName" then C_BadName else if s = "BadText" then C_BadText else if s = "BadDepth" then C_BadDepth else if s = "BadLine" then C_BadLine else if s = "BadSite" then C_BadSite else if s = "BadSpot" then C_BadSpot else if s = "BadFlow" then C_BadFlow else if s = "NoMain" then C_NoMain else if s = "Missing" then C_Missing else if s = "NoUnit" then C_NoUnit else if s = "BadFree" then C_BadFree else if s = "TooMany" then C_TooMany else if s = "BadPass" then C_BadPass else if s = "BadBase" then C_BadBase else 0) (fun s => if s = "ROWS" then (.ref d_ROWS) else if s = "BOUNDS" then (.ref d_BOUNDS) else if s = "FORMS" then (.ref d_FORMS) else if s = "BITS" then (.ref d_BITS) else .ref 0) none) → Rv S (T.ktp [(T.ktp [(T.int (0)), (T.int (20)), (T.int (12))])]) (.ref p_BITS_k6) := fun S e => rv_ktp (by rw [e]; exact ⟨_, _, _, zy_BITS_k6, rfl, rfl, zx_BITS_k6, zw_BITS_k6⟩) (RvL.cons (kk_BITS_k6_0 S e) RvL.nil)
  have kk_BITS_k7_0 : ∀ S : Sta, S.G = (M.Env.mk K (fun s => if s = "BadRow" then C_BadRow else if s = "RunsError" then C_RunsError else if s = "Unlike" then C_Unlike else if s = "Unknown" then C_Unknown else if s = "Stray" then C_Stray else if s = "BadNumber" then C_BadNumber else if s = "BadLength" then C_BadLength else if s = "Twice" then C_Twice else if s = "BadName" then C_BadName else if s = "BadText" then C_BadText else if s = "BadDepth" then C_BadDepth else if s = "BadLine" then C_BadLine else if s = "BadSite" then C_BadSite else if s = "BadSpot" then C_BadSpot else if s = "BadFlow" then C_BadFlow else if s = "NoMain" then C_NoMain else if s = "Missing" then C_Missing else if s = "NoUnit" then C_NoUnit else if s = "BadFree" then C_BadFree else if s = "TooMany" then C_TooMany else if s = "BadPass" then C_BadPass else if s = "BadBase" then C_BadBase else 0) (fun s => if s = "ROWS" then (.ref d_ROWS) else if s = "BOUNDS" then (.ref d_BOUNDS) else if s = "FORMS" then (.ref d_FORMS) else if s = "BITS" then (.ref d_BITS) else .ref 0) none) → Rv S (T.ktp [(T.int (11)), (T.int (1)), (T.int (7))]) (.ref p_BITS_k7_0) := fun S e => rv_ktp (by rw [e]; exact ⟨_, _, _, zy_BITS_k7_0, rfl, rfl, zx_BITS_k7_0, zw_BITS_k7_0⟩) (RvL.cons (by simp only [Rv]) (RvL.cons (by simp only [Rv]) (RvL.cons (by simp only [Rv]) RvL.nil)))
  have kk_BITS_k7_1 : ∀ S : Sta, S.G = (M.Env.mk K (fun s => if s = "BadRow" then C_BadRow else if s = "RunsError" then C_RunsError else if s = "Unlike" then C_Unlike else if s = "Unknown" then C_Unknown else if s = "Stray" then C_Stray else if s = "BadNumber" then C_BadNumber else if s = "BadLength" then C_BadLength else if s = "Twice" then C_Twice else if s = "BadName" then C_BadName else if s = "BadText" then C_BadText else if s = "BadDepth" then C_BadDepth else if s = "BadLine" then C_BadLine else if s = "BadSite" then C_BadSite else if s = "BadSpot" then C_BadSpot else if s = "BadFlow" then C_BadFlow else if s = "NoMain" then C_NoMain else if s = "Missing" then C_Missing else if s = "NoUnit" then C_NoUnit else if s = "BadFree" then C_BadFree else if s = "TooMany" then C_TooMany else if s = "BadPass" then C_BadPass else if s = "BadBase" then C_BadBase else 0) (fun s => if s = "ROWS" then (.ref d_ROWS) else if s = "BOUNDS" then (.ref d_BOUNDS) else if s = "FORMS" then (.ref d_FORMS) else if s = "BITS" then (.ref d_BITS) else .ref 0) none) → Rv S (T.ktp [(T.int (1)), (T.int (4)), (T.int (8))]) (.ref p_BITS_k7_1) := fun S e => rv_ktp (by rw [e]; exact ⟨_, _, _, zy_BITS_k7_1, rfl, rfl, zx_BITS_k7_1, zw_BITS_k7_1⟩) (RvL.cons (by simp only [Rv]) (RvL.cons (by simp only [Rv]) (RvL.cons (by simp only [Rv]) RvL.nil)))
  have kk_BITS_k7_2 : ∀ S : Sta, S.G = (M.Env.mk K (fun s => if s = "BadRow" then C_BadRow else if s = "RunsError" then C_RunsError else if s = "Unlike" then C_Unlike else if s = "Unknown" then C_Unknown else if s = "Stray" then C_Stray else if s = "BadNumber" then C_BadNumber else if s = "BadLength" then C_BadLength else if s = "Twice" then C_Twice else if s = "BadName" then C_BadName else if s = "BadText" then C_BadText else if s = "BadDepth" then C_BadDepth else if s = "BadLine" then C_BadLine else if s = "BadSite" then C_BadSite else if s = "BadSpot" then C_BadSpot else if s = "BadFlow" then C_BadFlow else if s = "NoMain" then C_NoMain else if s = "Missing" then C_Missing else if s = "NoUnit" then C_NoUnit else if s = "BadFree" then C_BadFree else if s = "TooMany" then C_TooMany else if s = "BadPass" then C_BadPass else if s = "BadBase" then C_BadBase else 0) (fun s => if s = "ROWS" then (.ref d_ROWS) else if s = "BOUNDS" then (.ref d_BOUNDS) else if s = "FORMS" then (.ref d_FORMS) else if s = "BITS" then (.ref d_BITS) else .ref 0) none) → Rv S (T.ktp [(T.int (5)), (T.int (6)), (T.int (25))]) (.ref p_BITS_k7_2) := fun S e => rv_ktp (by rw [e]; exact ⟨_, _, _, zy_BITS_k7_2, rfl, rfl, zx_BITS_k7_2, zw_BITS_k7_2⟩) (RvL.cons (by simp only [Rv]) (RvL.cons (by simp only [Rv]) (RvL.cons (by simp only [Rv]) RvL.nil)))
  have kk_BITS_k7_3 : ∀ S : Sta, S.G = (M.Env.mk K (fun s => if s = "BadRow" then C_BadRow else if s = "RunsError" then C_RunsError else if s = "Unlike" then C_Unlike else if s = "Unknown" then C_Unknown else if s = "Stray" then C_Stray else if s = "BadNumber" then C_BadNumber else if s = "BadLength" then C_BadLength else if s = "Twice" then C_Twice else if s = "BadName" then C_BadName else if s = "BadText" then C_BadText else if s = "BadDepth" then C_BadDepth else if s = "BadLine" then C_BadLine else if s = "BadSite" then C_BadSite else if s = "BadSpot" then C_BadSpot else if s = "BadFlow" then C_BadFlow else if s = "NoMain" then C_NoMain else if s = "Missing" then C_Missing else if s = "NoUnit" then C_NoUnit else if s = "BadFree" then C_BadFree else if s = "TooMany" then C_TooMany else if s = "BadPass" then C_BadPass else if s = "BadBase" then C_BadBase else 0) (fun s => if s = "ROWS" then (.ref d_ROWS) else if s = "BOUNDS" then (.ref d_BOUNDS) else if s = "FORMS" then (.ref d_FORMS) else if s = "BITS" then (.ref d_BITS) else .ref 0) none) → Rv S (T.ktp [(T.int (12)), (T.int (1)), (T.int (31))]) (.ref p_BITS_k7_3) := fun S e => rv_ktp (by rw [e]; exact ⟨_, _, _, zy_BITS_k7_3, rfl, rfl, zx_BITS_k7_3, zw_BITS_k7_3⟩) (RvL.cons (by simp only [Rv]) (RvL.cons (by simp only [Rv]) (RvL.cons (by simp only [Rv]) RvL.nil)))
  have kk_BITS_k7 : ∀ S : Sta, S.G = (M.Env.mk K (fun s => if s = "BadRow" then C_BadRow else if s = "RunsError" then C_RunsError else if s = "Unlike" then C_Unlike else if s = "Unknown" then C_Unknown else if s = "Stray" then C_Stray else if s = "BadNumber" then C_BadNumber else if s = "BadLength" then C_BadLength else if s = "Twice" then C_Twice else if s = "BadName" then C_BadName else if s = "BadText" then C_BadText else if s = "BadDepth" then C_BadDepth else if s = "BadLine" then C_BadLine else if s = "BadSite" then C_BadSite else if s = "BadSpot" then C_BadSpot else if s = "BadFlow" then C_BadFlow else if s = "NoMain" then C_NoMain else if s = "Missing" then C_Missing else if s = "NoUnit" then C_NoUnit else if s = "BadFree" then C_BadFree else if s = "TooMany" then C_TooMany else if s = "BadPass" then C_BadPass else if s = "BadBase" then C_BadBase else 0) (fun s => if s = "ROWS" then (.ref d_ROWS) else if s = "BOUNDS" then (.ref d_BOUNDS) else if s = "FORMS" then (.ref d_FORMS) else if s = "BITS" then (.ref d_BITS) else .ref 0) none) → Rv S (T.ktp [(T.ktp [(T.int (11)), (T.int (1)), (T.int (7))]), (T.ktp [(T.int (1)), (T.int (4)), (T.int (8))]), (T.ktp [(T.int (5)), (T.int (6)), (T.int (25))]), (T.ktp [(T.int (12)), (T.int (1)), (T.int (31))])]) (.ref p_BITS_k7) := fun S e => rv_ktp (by rw [e]; exact ⟨_, _, _, zy_BITS_k7, rfl, rfl, zx_BITS_k7, zw_BITS_k7⟩) (RvL.cons (kk_BITS_k7_0 S e) (RvL.cons (kk_BITS_k7_1 S e) (RvL.cons (kk_BITS_k7_2 S e) (RvL.cons (kk_BITS_k7_3 S e) RvL.nil))))
  have kk_BITS_k8_0 : ∀ S : Sta, S.G = (M.Env.mk K (fun s => if s = "BadRow" then C_BadRow else if s = "RunsError" then C_RunsError else if s = "Unlike" then C_Unlike else if s = "Unknown" then C_Unknown else if s = "Stray" then C_Stray else if s = "BadNumber" then C_BadNumber else if s = "BadLength" then C_BadLength else if s = "Twice" then C_Twice else if s = "BadName" then C_BadName else if s = "BadText" then C_BadText else if s = "BadDepth" then C_BadDepth else if s = "BadLine" then C_BadLine else if s = "BadSite" then C_BadSite else if s = "BadSpot" then C_BadSpot else if s = "BadFlow" then C_BadFlow else if s = "NoMain" then C_NoMain else if s = "Missing" then C_Missing else if s = "NoUnit" then C_NoUnit else if s = "BadFree" then C_BadFree else if s = "TooMany" then C_TooMany else if s = "BadPass" then C_BadPass else if s = "BadBase" then C_BadBase else 0) (fun s => if s = "ROWS" then (.ref d_ROWS) else if s = "BOUNDS" then (.ref d_BOUNDS) else if s = "FORMS" then (.ref d_FORMS) else if s = "BITS" then (.ref d_BITS) else .ref 0) none) → Rv S (T.ktp [(T.int (12)), (T.int (8)), (T.int (12))]) (.ref p_BITS_k8_0) := fun S e => rv_ktp (by rw [e]; exact ⟨_, _, _, zy_BITS_k8_0, rfl, rfl, zx_BITS_k8_0, zw_BITS_k8_0⟩) (RvL.cons (by simp only [Rv]) (RvL.cons (by simp only [Rv]) (RvL.cons (by simp only [Rv]) RvL.nil)))
  have kk_BITS_k8_1 : ∀ S : Sta, S.G = (M.Env.mk K (fun s => if s = "BadRow" then C_BadRow else if s = "RunsError" then C_RunsError else if s = "Unlike" then C_Unlike else if s = "Unknown" then C_Unknown else if s = "Stray" then C_Stray else if s = "BadNumber" then C_BadNumber else if s = "BadLength" then C_BadLength else if s = "Twice" then C_Twice else if s = "BadName" then C_BadName else if s = "BadText" then C_BadText else if s = "BadDepth" then C_BadDepth else if s = "BadLine" then C_BadLine else if s = "BadSite" then C_BadSite else if s = "BadSpot" then C_BadSpot else if s = "BadFlow" then C_BadFlow else if s = "NoMain" then C_NoMain else if s = "Missing" then C_Missing else if s = "NoUnit" then C_NoUnit else if s = "BadFree" then C_BadFree else if s = "TooMany" then C_TooMany else if s = "BadPass" then C_BadPass else if s = "BadBase" then C_BadBase else 0) (fun s => if s = "ROWS" then (.ref d_ROWS) else if s = "BOUNDS" then (.ref d_BOUNDS) else if s = "FORMS" then (.ref d_FORMS) else if s = "BITS" then (.ref d_BITS) else .ref 0) none) → Rv S (T.ktp [(T.int (11)), (T.int (1)), (T.int (20))]) (.ref p_BITS_k8_1) := fun S e => rv_ktp (by rw [e]; exact ⟨_, _, _, zy_BITS_k8_1, rfl, rfl, zx_BITS_k8_1, zw_BITS_k8_1⟩) (RvL.cons (by simp only [Rv]) (RvL.cons (by simp only [Rv]) (RvL.cons (by simp only [Rv]) RvL.nil)))
  have kk_BITS_k8_2 : ∀ S : Sta, S.G = (M.Env.mk K (fun s => if s = "BadRow" then C_BadRow else if s = "RunsError" then C_RunsError else if s = "Unlike" then C_Unlike else if s = "Unknown" then C_Unknown else if s = "Stray" then C_Stray else if s = "BadNumber" then C_BadNumber else if s = "BadLength" then C_BadLength else if s = "Twice" then C_Twice else if s = "BadName" then C_BadName else if s = "BadText" then C_BadText else if s = "BadDepth" then C_BadDepth else if s = "BadLine" then C_BadLine else if s = "BadSite" then C_BadSite else if s = "BadSpot" then C_BadSpot else if s = "BadFlow" then C_BadFlow else if s = "NoMain" then C_NoMain else if s = "Missing" then C_Missing else if s = "NoUnit" then C_NoUnit else if s = "BadFree" then C_BadFree else if s = "TooMany" then C_TooMany else if s = "BadPass" then C_BadPass else if s = "BadBase" then C_BadBase else 0) (fun s => if s = "ROWS" then (.ref d_ROWS) else if s = "BOUNDS" then (.ref d_BOUNDS) else if s = "FORMS" then (.ref d_FORMS) else if s = "BITS" then (.ref d_BITS) else .ref 0) none) → Rv S (T.ktp [(T.int (1)), (T.int (10)), (T.int (21))]) (.ref p_BITS_k8_2) := fun S e => rv_ktp (by rw [e]; exact ⟨_, _, _, zy_BITS_k8_2, rfl, rfl, zx_BITS_k8_2, zw_BITS_k8_2⟩) (RvL.cons (by simp only [Rv]) (RvL.cons (by simp only [Rv]) (RvL.cons (by simp only [Rv]) RvL.nil)))
  have kk_BITS_k8_3 : ∀ S : Sta, S.G = (M.Env.mk K (fun s => if s = "BadRow" then C_BadRow else if s = "RunsError" then C_RunsError else if s = "Unlike" then C_Unlike else if s = "Unknown" then C_Unknown else if s = "Stray" then C_Stray else if s = "BadNumber" then C_BadNumber else if s = "BadLength" then C_BadLength else if s = "Twice" then C_Twice else if s = "BadName" then C_BadName else if s = "BadText" then C_BadText else if s = "BadDepth" then C_BadDepth else if s = "BadLine" then C_BadLine else if s = "BadSite" then C_BadSite else if s = "BadSpot" then C_BadSpot else if s = "BadFlow" then C_BadFlow else if s = "NoMain" then C_NoMain else if s = "Missing" then C_Missing else if s = "NoUnit" then C_NoUnit else if s = "BadFree" then C_BadFree else if s = "TooMany" then C_TooMany else if s = "BadPass" then C_BadPass else if s = "BadBase" then C_BadBase else 0) (fun s => if s = "ROWS" then (.ref d_ROWS) else if s = "BOUNDS" then (.ref d_BOUNDS) else if s = "FORMS" then (.ref d_FORMS) else if s = "BITS" then (.ref d_BITS) else .ref 0) none) → Rv S (T.ktp [(T.int (20)), (T.int (1)), (T.int (31))]) (.ref p_BITS_k8_3) := fun S e => rv_ktp (by rw [e]; exact ⟨_, _, _, zy_BITS_k8_3, rfl, rfl, zx_BITS_k8_3, zw_BITS_k8_3⟩) (RvL.cons (by simp only [Rv]) (RvL.cons (by simp only [Rv]) (RvL.cons (by simp only [Rv]) RvL.nil)))
  have kk_BITS_k8 : ∀ S : Sta, S.G = (M.Env.mk K (fun s => if s = "BadRow" then C_BadRow else if s = "RunsError" then C_RunsError else if s = "Unlike" then C_Unlike else if s = "Unknown" then C_Unknown else if s = "Stray" then C_Stray else if s = "BadNumber" then C_BadNumber else if s = "BadLength" then C_BadLength else if s = "Twice" then C_Twice else if s = "BadName" then C_BadName else if s = "BadText" then C_BadText else if s = "BadDepth" then C_BadDepth else if s = "BadLine" then C_BadLine else if s = "BadSite" then C_BadSite else if s = "BadSpot" then C_BadSpot else if s = "BadFlow" then C_BadFlow else if s = "NoMain" then C_NoMain else if s = "Missing" then C_Missing else if s = "NoUnit" then C_NoUnit else if s = "BadFree" then C_BadFree else if s = "TooMany" then C_TooMany else if s = "BadPass" then C_BadPass else if s = "BadBase" then C_BadBase else 0) (fun s => if s = "ROWS" then (.ref d_ROWS) else if s = "BOUNDS" then (.ref d_BOUNDS) else if s = "FORMS" then (.ref d_FORMS) else if s = "BITS" then (.ref d_BITS) else .ref 0) none) → Rv S (T.ktp [(T.ktp [(T.int (12)), (T.int (8)), (T.int (12))]), (T.ktp [(T.int (11)), (T.int (1)), (T.int (20))]), (T.ktp [(T.int (1)), (T.int (10)), (T.int (21))]), (T.ktp [(T.int (20)), (T.int (1)), (T.int (31))])]) (.ref p_BITS_k8) := fun S e => rv_ktp (by rw [e]; exact ⟨_, _, _, zy_BITS_k8, rfl, rfl, zx_BITS_k8, zw_BITS_k8⟩) (RvL.cons (kk_BITS_k8_0 S e) (RvL.cons (kk_BITS_k8_1 S e) (RvL.cons (kk_BITS_k8_2 S e) (RvL.cons (kk_BITS_k8_3 S e) RvL.nil))))
  have kr_BITS : KRows (M.Env.mk K (fun s => if s = "BadRow" then C_BadRow else if s = "RunsError" then C_RunsError else if s = "Unlike" then C_Unlike else if s = "Unknown" then C_Unknown else if s = "Stray" then C_Stray else if s = "BadNumber" then C_BadNumber else if s = "BadLength" then C_BadLength else if s = "Twice" then C_Twice else if s = "BadName" then C_BadName else if s = "BadText" then C_BadText else if s = "BadDepth" then C_BadDepth else if s = "BadLine" then C_BadLine else if s = "BadSite" then C_BadSite else if s = "BadSpot" then C_BadSpot else if s = "BadFlow" then C_BadFlow else if s = "NoMain" then C_NoMain else if s = "Missing" then C_Missing else if s = "NoUnit" then C_NoUnit else if s = "BadFree" then C_BadFree else if s = "TooMany" then C_TooMany else if s = "BadPass" then C_BadPass else if s = "BadBase" then C_BadBase else 0) (fun s => if s = "ROWS" then (.ref d_ROWS) else if s = "BOUNDS" then (.ref d_BOUNDS) else if s = "FORMS" then (.ref d_FORMS) else if s = "BITS" then (.ref d_BITS) else .ref 0) none) d_BITS rows_BITS := by
    intro r hr
    simp only [rows_BITS, List.mem_cons, List.not_mem_nil, or_false] at hr
    rcases hr with rfl | rfl | rfl | rfl | rfl | rfl | rfl | rfl | rfl
    · exact ⟨_, .ref p_BITS_k0, ze_BITS_k0, rfl, kk_BITS_k0⟩
    · exact ⟨_, .ref p_BITS_k1, ze_BITS_k1, rfl, kk_BITS_k1⟩
    · exact ⟨_, .ref p_BITS_k2, ze_BITS_k2, rfl, kk_BITS_k2⟩
    · exact ⟨_, .ref p_BITS_k3, ze_BITS_k3, rfl, kk_BITS_k3⟩
    · exact ⟨_, .ref p_BITS_k4, ze_BITS_k4, rfl, kk_BITS_k4⟩
    · exact ⟨_, .ref p_BITS_k5, ze_BITS_k5, rfl, kk_BITS_k5⟩
    · exact ⟨_, .ref p_BITS_k6, ze_BITS_k6, rfl, kk_BITS_k6⟩
    · exact ⟨_, .ref p_BITS_k7, ze_BITS_k7, rfl, kk_BITS_k7⟩
    · exact ⟨_, .ref p_BITS_k8, ze_BITS_k8, rfl, kk_BITS_k8⟩
  have nonfaP : ∀ a : Str, (fun s => if s = "ROWS" then (.ref d_ROWS) else if s = "BOUNDS" then (.ref d_BOUNDS) else if s = "FORMS" then (.ref d_FORMS) else if s = "BITS" then (.ref d_BITS) else .ref 0 : Str → V) a ≠ .non := by
    intro a
    dsimp only
    repeat' split
    all_goals (intro z; cases z)
  have O0 := ok__law_pool (P := l.prog) (w := w) (mg := mg) (base := base) (ca := fun s => if s = "BadRow" then C_BadRow else if s = "RunsError" then C_RunsError else if s = "Unlike" then C_Unlike else if s = "Unknown" then C_Unknown else if s = "Stray" then C_Stray else if s = "BadNumber" then C_BadNumber else if s = "BadLength" then C_BadLength else if s = "Twice" then C_Twice else if s = "BadName" then C_BadName else if s = "BadText" then C_BadText else if s = "BadDepth" then C_BadDepth else if s = "BadLine" then C_BadLine else if s = "BadSite" then C_BadSite else if s = "BadSpot" then C_BadSpot else if s = "BadFlow" then C_BadFlow else if s = "NoMain" then C_NoMain else if s = "Missing" then C_Missing else if s = "NoUnit" then C_NoUnit else if s = "BadFree" then C_BadFree else if s = "TooMany" then C_TooMany else if s = "BadPass" then C_BadPass else if s = "BadBase" then C_BadBase else 0) (fa := fun s => if s = "ROWS" then (.ref d_ROWS) else if s = "BOUNDS" then (.ref d_BOUNDS) else if s = "FORMS" then (.ref d_FORMS) else if s = "BITS" then (.ref d_BITS) else .ref 0) F0 (PySem.W.mg_none_of X G z_list)
  have C0 : Callee l.prog w K mg base 1 f0 _ "_law_pool" _ (spM (M.Env.mk K (fun s => if s = "BadRow" then C_BadRow else if s = "RunsError" then C_RunsError else if s = "Unlike" then C_Unlike else if s = "Unknown" then C_Unknown else if s = "Stray" then C_Stray else if s = "BadNumber" then C_BadNumber else if s = "BadLength" then C_BadLength else if s = "Twice" then C_Twice else if s = "BadName" then C_BadName else if s = "BadText" then C_BadText else if s = "BadDepth" then C_BadDepth else if s = "BadLine" then C_BadLine else if s = "BadSite" then C_BadSite else if s = "BadSpot" then C_BadSpot else if s = "BadFlow" then C_BadFlow else if s = "NoMain" then C_NoMain else if s = "Missing" then C_Missing else if s = "NoUnit" then C_NoUnit else if s = "BadFree" then C_BadFree else if s = "TooMany" then C_TooMany else if s = "BadPass" then C_BadPass else if s = "BadBase" then C_BadBase else 0) (fun s => if s = "ROWS" then (.ref d_ROWS) else if s = "BOUNDS" then (.ref d_BOUNDS) else if s = "FORMS" then (.ref d_FORMS) else if s = "BITS" then (.ref d_BITS) else .ref 0) none) 1 m__law_pool) := ⟨O0, k0, B0, PySem.W.mg_of X G a0⟩
  have O1 := ok__law_draw (P := l.prog) (w := w) (mg := mg) (base := base) (ca := fun s => if s = "BadRow" then C_BadRow else if s = "RunsError" then C_RunsError else if s = "Unlike" then C_Unlike else if s = "Unknown" then C_Unknown else if s = "Stray" then C_Stray else if s = "BadNumber" then C_BadNumber else if s = "BadLength" then C_BadLength else if s = "Twice" then C_Twice else if s = "BadName" then C_BadName else if s = "BadText" then C_BadText else if s = "BadDepth" then C_BadDepth else if s = "BadLine" then C_BadLine else if s = "BadSite" then C_BadSite else if s = "BadSpot" then C_BadSpot else if s = "BadFlow" then C_BadFlow else if s = "NoMain" then C_NoMain else if s = "Missing" then C_Missing else if s = "NoUnit" then C_NoUnit else if s = "BadFree" then C_BadFree else if s = "TooMany" then C_TooMany else if s = "BadPass" then C_BadPass else if s = "BadBase" then C_BadBase else 0) (fa := fun s => if s = "ROWS" then (.ref d_ROWS) else if s = "BOUNDS" then (.ref d_BOUNDS) else if s = "FORMS" then (.ref d_FORMS) else if s = "BITS" then (.ref d_BITS) else .ref 0) F1 (PySem.W.mg_none_of X G z_len) (PySem.W.mg_none_of X G z_abs) (PySem.W.mg_none_of X G z_int)
  have C1 : Callee l.prog w K mg base 1 f1 _ "_law_draw" _ (spM (M.Env.mk K (fun s => if s = "BadRow" then C_BadRow else if s = "RunsError" then C_RunsError else if s = "Unlike" then C_Unlike else if s = "Unknown" then C_Unknown else if s = "Stray" then C_Stray else if s = "BadNumber" then C_BadNumber else if s = "BadLength" then C_BadLength else if s = "Twice" then C_Twice else if s = "BadName" then C_BadName else if s = "BadText" then C_BadText else if s = "BadDepth" then C_BadDepth else if s = "BadLine" then C_BadLine else if s = "BadSite" then C_BadSite else if s = "BadSpot" then C_BadSpot else if s = "BadFlow" then C_BadFlow else if s = "NoMain" then C_NoMain else if s = "Missing" then C_Missing else if s = "NoUnit" then C_NoUnit else if s = "BadFree" then C_BadFree else if s = "TooMany" then C_TooMany else if s = "BadPass" then C_BadPass else if s = "BadBase" then C_BadBase else 0) (fun s => if s = "ROWS" then (.ref d_ROWS) else if s = "BOUNDS" then (.ref d_BOUNDS) else if s = "FORMS" then (.ref d_FORMS) else if s = "BITS" then (.ref d_BITS) else .ref 0) none) 2 m__law_draw) := ⟨O1, k1, B1, PySem.W.mg_of X G a1⟩
  have O2 := ok__law_pick (P := l.prog) (w := w) (mg := mg) (base := base) (ca := fun s => if s = "BadRow" then C_BadRow else if s = "RunsError" then C_RunsError else if s = "Unlike" then C_Unlike else if s = "Unknown" then C_Unknown else if s = "Stray" then C_Stray else if s = "BadNumber" then C_BadNumber else if s = "BadLength" then C_BadLength else if s = "Twice" then C_Twice else if s = "BadName" then C_BadName else if s = "BadText" then C_BadText else if s = "BadDepth" then C_BadDepth else if s = "BadLine" then C_BadLine else if s = "BadSite" then C_BadSite else if s = "BadSpot" then C_BadSpot else if s = "BadFlow" then C_BadFlow else if s = "NoMain" then C_NoMain else if s = "Missing" then C_Missing else if s = "NoUnit" then C_NoUnit else if s = "BadFree" then C_BadFree else if s = "TooMany" then C_TooMany else if s = "BadPass" then C_BadPass else if s = "BadBase" then C_BadBase else 0) (fa := fun s => if s = "ROWS" then (.ref d_ROWS) else if s = "BOUNDS" then (.ref d_BOUNDS) else if s = "FORMS" then (.ref d_FORMS) else if s = "BITS" then (.ref d_BITS) else .ref 0) F2 C1 (PySem.W.mg_none_of X G z_len)
  have C2 : Callee l.prog w K mg base 2 f2 _ "_law_pick" _ (spM (M.Env.mk K (fun s => if s = "BadRow" then C_BadRow else if s = "RunsError" then C_RunsError else if s = "Unlike" then C_Unlike else if s = "Unknown" then C_Unknown else if s = "Stray" then C_Stray else if s = "BadNumber" then C_BadNumber else if s = "BadLength" then C_BadLength else if s = "Twice" then C_Twice else if s = "BadName" then C_BadName else if s = "BadText" then C_BadText else if s = "BadDepth" then C_BadDepth else if s = "BadLine" then C_BadLine else if s = "BadSite" then C_BadSite else if s = "BadSpot" then C_BadSpot else if s = "BadFlow" then C_BadFlow else if s = "NoMain" then C_NoMain else if s = "Missing" then C_Missing else if s = "NoUnit" then C_NoUnit else if s = "BadFree" then C_BadFree else if s = "TooMany" then C_TooMany else if s = "BadPass" then C_BadPass else if s = "BadBase" then C_BadBase else 0) (fun s => if s = "ROWS" then (.ref d_ROWS) else if s = "BOUNDS" then (.ref d_BOUNDS) else if s = "FORMS" then (.ref d_FORMS) else if s = "BITS" then (.ref d_BITS) else .ref 0) none) 2 m__law_pick) := ⟨O2, k2, B2, PySem.W.mg_of X G a2⟩
  have O3 := ok__law_table (P := l.prog) (w := w) (mg := mg) (base := base) (ca := fun s => if s = "BadRow" then C_BadRow else if s = "RunsError" then C_RunsError else if s = "Unlike" then C_Unlike else if s = "Unknown" then C_Unknown else if s = "Stray" then C_Stray else if s = "BadNumber" then C_BadNumber else if s = "BadLength" then C_BadLength else if s = "Twice" then C_Twice else if s = "BadName" then C_BadName else if s = "BadText" then C_BadText else if s = "BadDepth" then C_BadDepth else if s = "BadLine" then C_BadLine else if s = "BadSite" then C_BadSite else if s = "BadSpot" then C_BadSpot else if s = "BadFlow" then C_BadFlow else if s = "NoMain" then C_NoMain else if s = "Missing" then C_Missing else if s = "NoUnit" then C_NoUnit else if s = "BadFree" then C_BadFree else if s = "TooMany" then C_TooMany else if s = "BadPass" then C_BadPass else if s = "BadBase" then C_BadBase else 0) (fa := fun s => if s = "ROWS" then (.ref d_ROWS) else if s = "BOUNDS" then (.ref d_BOUNDS) else if s = "FORMS" then (.ref d_FORMS) else if s = "BITS" then (.ref d_BITS) else .ref 0) F3
  have C3 : Callee l.prog w K mg base 1 f3 _ "_law_table" _ (spM (M.Env.mk K (fun s => if s = "BadRow" then C_BadRow else if s = "RunsError" then C_RunsError else if s = "Unlike" then C_Unlike else if s = "Unknown" then C_Unknown else if s = "Stray" then C_Stray else if s = "BadNumber" then C_BadNumber else if s = "BadLength" then C_BadLength else if s = "Twice" then C_Twice else if s = "BadName" then C_BadName else if s = "BadText" then C_BadText else if s = "BadDepth" then C_BadDepth else if s = "BadLine" then C_BadLine else if s = "BadSite" then C_BadSite else if s = "BadSpot" then C_BadSpot else if s = "BadFlow" then C_BadFlow else if s = "NoMain" then C_NoMain else if s = "Missing" then C_Missing else if s = "NoUnit" then C_NoUnit else if s = "BadFree" then C_BadFree else if s = "TooMany" then C_TooMany else if s = "BadPass" then C_BadPass else if s = "BadBase" then C_BadBase else 0) (fun s => if s = "ROWS" then (.ref d_ROWS) else if s = "BOUNDS" then (.ref d_BOUNDS) else if s = "FORMS" then (.ref d_FORMS) else if s = "BITS" then (.ref d_BITS) else .ref 0) none) 0 m__law_table) := ⟨O3, k3, B3, PySem.W.mg_of X G a3⟩
  have O4 := ok__law_kinds_of (P := l.prog) (w := w) (mg := mg) (base := base) (ca := fun s => if s = "BadRow" then C_BadRow else if s = "RunsError" then C_RunsError else if s = "Unlike" then C_Unlike else if s = "Unknown" then C_Unknown else if s = "Stray" then C_Stray else if s = "BadNumber" then C_BadNumber else if s = "BadLength" then C_BadLength else if s = "Twice" then C_Twice else if s = "BadName" then C_BadName else if s = "BadText" then C_BadText else if s = "BadDepth" then C_BadDepth else if s = "BadLine" then C_BadLine else if s = "BadSite" then C_BadSite else if s = "BadSpot" then C_BadSpot else if s = "BadFlow" then C_BadFlow else if s = "NoMain" then C_NoMain else if s = "Missing" then C_Missing else if s = "NoUnit" then C_NoUnit else if s = "BadFree" then C_BadFree else if s = "TooMany" then C_TooMany else if s = "BadPass" then C_BadPass else if s = "BadBase" then C_BadBase else 0) (fa := fun s => if s = "ROWS" then (.ref d_ROWS) else if s = "BOUNDS" then (.ref d_BOUNDS) else if s = "FORMS" then (.ref d_FORMS) else if s = "BITS" then (.ref d_BITS) else .ref 0) F4
  have C4 : Callee l.prog w K mg base 1 f4 _ "_law_kinds_of" _ (spM (M.Env.mk K (fun s => if s = "BadRow" then C_BadRow else if s = "RunsError" then C_RunsError else if s = "Unlike" then C_Unlike else if s = "Unknown" then C_Unknown else if s = "Stray" then C_Stray else if s = "BadNumber" then C_BadNumber else if s = "BadLength" then C_BadLength else if s = "Twice" then C_Twice else if s = "BadName" then C_BadName else if s = "BadText" then C_BadText else if s = "BadDepth" then C_BadDepth else if s = "BadLine" then C_BadLine else if s = "BadSite" then C_BadSite else if s = "BadSpot" then C_BadSpot else if s = "BadFlow" then C_BadFlow else if s = "NoMain" then C_NoMain else if s = "Missing" then C_Missing else if s = "NoUnit" then C_NoUnit else if s = "BadFree" then C_BadFree else if s = "TooMany" then C_TooMany else if s = "BadPass" then C_BadPass else if s = "BadBase" then C_BadBase else 0) (fun s => if s = "ROWS" then (.ref d_ROWS) else if s = "BOUNDS" then (.ref d_BOUNDS) else if s = "FORMS" then (.ref d_FORMS) else if s = "BITS" then (.ref d_BITS) else .ref 0) none) 1 m__law_kinds_of) := ⟨O4, k4, B4, PySem.W.mg_of X G a4⟩
  have O5 := ok__law_range_of (P := l.prog) (w := w) (mg := mg) (base := base) (ca := fun s => if s = "BadRow" then C_BadRow else if s = "RunsError" then C_RunsError else if s = "Unlike" then C_Unlike else if s = "Unknown" then C_Unknown else if s = "Stray" then C_Stray else if s = "BadNumber" then C_BadNumber else if s = "BadLength" then C_BadLength else if s = "Twice" then C_Twice else if s = "BadName" then C_BadName else if s = "BadText" then C_BadText else if s = "BadDepth" then C_BadDepth else if s = "BadLine" then C_BadLine else if s = "BadSite" then C_BadSite else if s = "BadSpot" then C_BadSpot else if s = "BadFlow" then C_BadFlow else if s = "NoMain" then C_NoMain else if s = "Missing" then C_Missing else if s = "NoUnit" then C_NoUnit else if s = "BadFree" then C_BadFree else if s = "TooMany" then C_TooMany else if s = "BadPass" then C_BadPass else if s = "BadBase" then C_BadBase else 0) (fa := fun s => if s = "ROWS" then (.ref d_ROWS) else if s = "BOUNDS" then (.ref d_BOUNDS) else if s = "FORMS" then (.ref d_FORMS) else if s = "BITS" then (.ref d_BITS) else .ref 0) F5
  have C5 : Callee l.prog w K mg base 1 f5 _ "_law_range_of" _ (spM (M.Env.mk K (fun s => if s = "BadRow" then C_BadRow else if s = "RunsError" then C_RunsError else if s = "Unlike" then C_Unlike else if s = "Unknown" then C_Unknown else if s = "Stray" then C_Stray else if s = "BadNumber" then C_BadNumber else if s = "BadLength" then C_BadLength else if s = "Twice" then C_Twice else if s = "BadName" then C_BadName else if s = "BadText" then C_BadText else if s = "BadDepth" then C_BadDepth else if s = "BadLine" then C_BadLine else if s = "BadSite" then C_BadSite else if s = "BadSpot" then C_BadSpot else if s = "BadFlow" then C_BadFlow else if s = "NoMain" then C_NoMain else if s = "Missing" then C_Missing else if s = "NoUnit" then C_NoUnit else if s = "BadFree" then C_BadFree else if s = "TooMany" then C_TooMany else if s = "BadPass" then C_BadPass else if s = "BadBase" then C_BadBase else 0) (fun s => if s = "ROWS" then (.ref d_ROWS) else if s = "BOUNDS" then (.ref d_BOUNDS) else if s = "FORMS" then (.ref d_FORMS) else if s = "BITS" then (.ref d_BITS) else .ref 0) none) 1 m__law_range_of) := ⟨O5, k5, B5, PySem.W.mg_of X G a5⟩
  have O6 := ok__law_entry (P := l.prog) (w := w) (mg := mg) (base := base) (ca := fun s => if s = "BadRow" then C_BadRow else if s = "RunsError" then C_RunsError else if s = "Unlike" then C_Unlike else if s = "Unknown" then C_Unknown else if s = "Stray" then C_Stray else if s = "BadNumber" then C_BadNumber else if s = "BadLength" then C_BadLength else if s = "Twice" then C_Twice else if s = "BadName" then C_BadName else if s = "BadText" then C_BadText else if s = "BadDepth" then C_BadDepth else if s = "BadLine" then C_BadLine else if s = "BadSite" then C_BadSite else if s = "BadSpot" then C_BadSpot else if s = "BadFlow" then C_BadFlow else if s = "NoMain" then C_NoMain else if s = "Missing" then C_Missing else if s = "NoUnit" then C_NoUnit else if s = "BadFree" then C_BadFree else if s = "TooMany" then C_TooMany else if s = "BadPass" then C_BadPass else if s = "BadBase" then C_BadBase else 0) (fa := fun s => if s = "ROWS" then (.ref d_ROWS) else if s = "BOUNDS" then (.ref d_BOUNDS) else if s = "FORMS" then (.ref d_FORMS) else if s = "BITS" then (.ref d_BITS) else .ref 0) F6 C5 C1 C2 (PySem.W.mg_none_of X G z_max)
  have C6 : Callee l.prog w K mg base 3 f6 _ "_law_entry" _ (spM (M.Env.mk K (fun s => if s = "BadRow" then C_BadRow else if s = "RunsError" then C_RunsError else if s = "Unlike" then C_Unlike else if s = "Unknown" then C_Unknown else if s = "Stray" then C_Stray else if s = "BadNumber" then C_BadNumber else if s = "BadLength" then C_BadLength else if s = "Twice" then C_Twice else if s = "BadName" then C_BadName else if s = "BadText" then C_BadText else if s = "BadDepth" then C_BadDepth else if s = "BadLine" then C_BadLine else if s = "BadSite" then C_BadSite else if s = "BadSpot" then C_BadSpot else if s = "BadFlow" then C_BadFlow else if s = "NoMain" then C_NoMain else if s = "Missing" then C_Missing else if s = "NoUnit" then C_NoUnit else if s = "BadFree" then C_BadFree else if s = "TooMany" then C_TooMany else if s = "BadPass" then C_BadPass else if s = "BadBase" then C_BadBase else 0) (fun s => if s = "ROWS" then (.ref d_ROWS) else if s = "BOUNDS" then (.ref d_BOUNDS) else if s = "FORMS" then (.ref d_FORMS) else if s = "BITS" then (.ref d_BITS) else .ref 0) none) 2 m__law_entry) := ⟨O6, k6, B6, PySem.W.mg_of X G a6⟩
  have O7 := ok__law_drawn_row (P := l.prog) (w := w) (mg := mg) (base := base) (ca := fun s => if s = "BadRow" then C_BadRow else if s = "RunsError" then C_RunsError else if s = "Unlike" then C_Unlike else if s = "Unknown" then C_Unknown else if s = "Stray" then C_Stray else if s = "BadNumber" then C_BadNumber else if s = "BadLength" then C_BadLength else if s = "Twice" then C_Twice else if s = "BadName" then C_BadName else if s = "BadText" then C_BadText else if s = "BadDepth" then C_BadDepth else if s = "BadLine" then C_BadLine else if s = "BadSite" then C_BadSite else if s = "BadSpot" then C_BadSpot else if s = "BadFlow" then C_BadFlow else if s = "NoMain" then C_NoMain else if s = "Missing" then C_Missing else if s = "NoUnit" then C_NoUnit else if s = "BadFree" then C_BadFree else if s = "TooMany" then C_TooMany else if s = "BadPass" then C_BadPass else if s = "BadBase" then C_BadBase else 0) (fa := fun s => if s = "ROWS" then (.ref d_ROWS) else if s = "BOUNDS" then (.ref d_BOUNDS) else if s = "FORMS" then (.ref d_FORMS) else if s = "BITS" then (.ref d_BITS) else .ref 0) F7 C4 C6 (PySem.W.mg_none_of X G z_tuple)
  have C7 : Callee l.prog w K mg base 4 f7 _ "_law_drawn_row" _ (spM (M.Env.mk K (fun s => if s = "BadRow" then C_BadRow else if s = "RunsError" then C_RunsError else if s = "Unlike" then C_Unlike else if s = "Unknown" then C_Unknown else if s = "Stray" then C_Stray else if s = "BadNumber" then C_BadNumber else if s = "BadLength" then C_BadLength else if s = "Twice" then C_Twice else if s = "BadName" then C_BadName else if s = "BadText" then C_BadText else if s = "BadDepth" then C_BadDepth else if s = "BadLine" then C_BadLine else if s = "BadSite" then C_BadSite else if s = "BadSpot" then C_BadSpot else if s = "BadFlow" then C_BadFlow else if s = "NoMain" then C_NoMain else if s = "Missing" then C_Missing else if s = "NoUnit" then C_NoUnit else if s = "BadFree" then C_BadFree else if s = "TooMany" then C_TooMany else if s = "BadPass" then C_BadPass else if s = "BadBase" then C_BadBase else 0) (fun s => if s = "ROWS" then (.ref d_ROWS) else if s = "BOUNDS" then (.ref d_BOUNDS) else if s = "FORMS" then (.ref d_FORMS) else if s = "BITS" then (.ref d_BITS) else .ref 0) none) 2 m__law_drawn_row) := ⟨O7, k7, B7, PySem.W.mg_of X G a7⟩
  have O8 := ok__law_exchanged (P := l.prog) (w := w) (mg := mg) (base := base) (ca := fun s => if s = "BadRow" then C_BadRow else if s = "RunsError" then C_RunsError else if s = "Unlike" then C_Unlike else if s = "Unknown" then C_Unknown else if s = "Stray" then C_Stray else if s = "BadNumber" then C_BadNumber else if s = "BadLength" then C_BadLength else if s = "Twice" then C_Twice else if s = "BadName" then C_BadName else if s = "BadText" then C_BadText else if s = "BadDepth" then C_BadDepth else if s = "BadLine" then C_BadLine else if s = "BadSite" then C_BadSite else if s = "BadSpot" then C_BadSpot else if s = "BadFlow" then C_BadFlow else if s = "NoMain" then C_NoMain else if s = "Missing" then C_Missing else if s = "NoUnit" then C_NoUnit else if s = "BadFree" then C_BadFree else if s = "TooMany" then C_TooMany else if s = "BadPass" then C_BadPass else if s = "BadBase" then C_BadBase else 0) (fa := fun s => if s = "ROWS" then (.ref d_ROWS) else if s = "BOUNDS" then (.ref d_BOUNDS) else if s = "FORMS" then (.ref d_FORMS) else if s = "BITS" then (.ref d_BITS) else .ref 0) F8
  have C8 : Callee l.prog w K mg base 1 f8 _ "_law_exchanged" _ (spM (M.Env.mk K (fun s => if s = "BadRow" then C_BadRow else if s = "RunsError" then C_RunsError else if s = "Unlike" then C_Unlike else if s = "Unknown" then C_Unknown else if s = "Stray" then C_Stray else if s = "BadNumber" then C_BadNumber else if s = "BadLength" then C_BadLength else if s = "Twice" then C_Twice else if s = "BadName" then C_BadName else if s = "BadText" then C_BadText else if s = "BadDepth" then C_BadDepth else if s = "BadLine" then C_BadLine else if s = "BadSite" then C_BadSite else if s = "BadSpot" then C_BadSpot else if s = "BadFlow" then C_BadFlow else if s = "NoMain" then C_NoMain else if s = "Missing" then C_Missing else if s = "NoUnit" then C_NoUnit else if s = "BadFree" then C_BadFree else if s = "TooMany" then C_TooMany else if s = "BadPass" then C_BadPass else if s = "BadBase" then C_BadBase else 0) (fun s => if s = "ROWS" then (.ref d_ROWS) else if s = "BOUNDS" then (.ref d_BOUNDS) else if s = "FORMS" then (.ref d_FORMS) else if s = "BITS" then (.ref d_BITS) else .ref 0) none) 3 m__law_exchanged) := ⟨O8, k8, B8, PySem.W.mg_of X G a8⟩
  have O9 := ok__law_spoilt (P := l.prog) (w := w) (mg := mg) (base := base) (ca := fun s => if s = "BadRow" then C_BadRow else if s = "RunsError" then C_RunsError else if s = "Unlike" then C_Unlike else if s = "Unknown" then C_Unknown else if s = "Stray" then C_Stray else if s = "BadNumber" then C_BadNumber else if s = "BadLength" then C_BadLength else if s = "Twice" then C_Twice else if s = "BadName" then C_BadName else if s = "BadText" then C_BadText else if s = "BadDepth" then C_BadDepth else if s = "BadLine" then C_BadLine else if s = "BadSite" then C_BadSite else if s = "BadSpot" then C_BadSpot else if s = "BadFlow" then C_BadFlow else if s = "NoMain" then C_NoMain else if s = "Missing" then C_Missing else if s = "NoUnit" then C_NoUnit else if s = "BadFree" then C_BadFree else if s = "TooMany" then C_TooMany else if s = "BadPass" then C_BadPass else if s = "BadBase" then C_BadBase else 0) (fa := fun s => if s = "ROWS" then (.ref d_ROWS) else if s = "BOUNDS" then (.ref d_BOUNDS) else if s = "FORMS" then (.ref d_FORMS) else if s = "BITS" then (.ref d_BITS) else .ref 0) F9 C4 C5 C1 C2 C8 (PySem.W.mg_none_of X G z_range) (PySem.W.mg_none_of X G z_len)
  have C9 : Callee l.prog w K mg base 3 f9 _ "_law_spoilt" _ (spM (M.Env.mk K (fun s => if s = "BadRow" then C_BadRow else if s = "RunsError" then C_RunsError else if s = "Unlike" then C_Unlike else if s = "Unknown" then C_Unknown else if s = "Stray" then C_Stray else if s = "BadNumber" then C_BadNumber else if s = "BadLength" then C_BadLength else if s = "Twice" then C_Twice else if s = "BadName" then C_BadName else if s = "BadText" then C_BadText else if s = "BadDepth" then C_BadDepth else if s = "BadLine" then C_BadLine else if s = "BadSite" then C_BadSite else if s = "BadSpot" then C_BadSpot else if s = "BadFlow" then C_BadFlow else if s = "NoMain" then C_NoMain else if s = "Missing" then C_Missing else if s = "NoUnit" then C_NoUnit else if s = "BadFree" then C_BadFree else if s = "TooMany" then C_TooMany else if s = "BadPass" then C_BadPass else if s = "BadBase" then C_BadBase else 0) (fun s => if s = "ROWS" then (.ref d_ROWS) else if s = "BOUNDS" then (.ref d_BOUNDS) else if s = "FORMS" then (.ref d_FORMS) else if s = "BITS" then (.ref d_BITS) else .ref 0) none) 3 m__law_spoilt) := ⟨O9, k9, B9, PySem.W.mg_of X G a9⟩
  have O10 := ok__law_ends (P := l.prog) (w := w) (mg := mg) (base := base) (ca := fun s => if s = "BadRow" then C_BadRow else if s = "RunsError" then C_RunsError else if s = "Unlike" then C_Unlike else if s = "Unknown" then C_Unknown else if s = "Stray" then C_Stray else if s = "BadNumber" then C_BadNumber else if s = "BadLength" then C_BadLength else if s = "Twice" then C_Twice else if s = "BadName" then C_BadName else if s = "BadText" then C_BadText else if s = "BadDepth" then C_BadDepth else if s = "BadLine" then C_BadLine else if s = "BadSite" then C_BadSite else if s = "BadSpot" then C_BadSpot else if s = "BadFlow" then C_BadFlow else if s = "NoMain" then C_NoMain else if s = "Missing" then C_Missing else if s = "NoUnit" then C_NoUnit else if s = "BadFree" then C_BadFree else if s = "TooMany" then C_TooMany else if s = "BadPass" then C_BadPass else if s = "BadBase" then C_BadBase else 0) (fa := fun s => if s = "ROWS" then (.ref d_ROWS) else if s = "BOUNDS" then (.ref d_BOUNDS) else if s = "FORMS" then (.ref d_FORMS) else if s = "BITS" then (.ref d_BITS) else .ref 0) F10 C4 C5 C8 (PySem.W.mg_none_of X G z_range) (PySem.W.mg_none_of X G z_len)
  have C10 : Callee l.prog w K mg base 2 f10 _ "_law_ends" _ (spM (M.Env.mk K (fun s => if s = "BadRow" then C_BadRow else if s = "RunsError" then C_RunsError else if s = "Unlike" then C_Unlike else if s = "Unknown" then C_Unknown else if s = "Stray" then C_Stray else if s = "BadNumber" then C_BadNumber else if s = "BadLength" then C_BadLength else if s = "Twice" then C_Twice else if s = "BadName" then C_BadName else if s = "BadText" then C_BadText else if s = "BadDepth" then C_BadDepth else if s = "BadLine" then C_BadLine else if s = "BadSite" then C_BadSite else if s = "BadSpot" then C_BadSpot else if s = "BadFlow" then C_BadFlow else if s = "NoMain" then C_NoMain else if s = "Missing" then C_Missing else if s = "NoUnit" then C_NoUnit else if s = "BadFree" then C_BadFree else if s = "TooMany" then C_TooMany else if s = "BadPass" then C_BadPass else if s = "BadBase" then C_BadBase else 0) (fun s => if s = "ROWS" then (.ref d_ROWS) else if s = "BOUNDS" then (.ref d_BOUNDS) else if s = "FORMS" then (.ref d_FORMS) else if s = "BITS" then (.ref d_BITS) else .ref 0) none) 2 m__law_ends) := ⟨O10, k10, B10, PySem.W.mg_of X G a10⟩
  have O11 := ok__law_letters (P := l.prog) (w := w) (mg := mg) (base := base) (ca := fun s => if s = "BadRow" then C_BadRow else if s = "RunsError" then C_RunsError else if s = "Unlike" then C_Unlike else if s = "Unknown" then C_Unknown else if s = "Stray" then C_Stray else if s = "BadNumber" then C_BadNumber else if s = "BadLength" then C_BadLength else if s = "Twice" then C_Twice else if s = "BadName" then C_BadName else if s = "BadText" then C_BadText else if s = "BadDepth" then C_BadDepth else if s = "BadLine" then C_BadLine else if s = "BadSite" then C_BadSite else if s = "BadSpot" then C_BadSpot else if s = "BadFlow" then C_BadFlow else if s = "NoMain" then C_NoMain else if s = "Missing" then C_Missing else if s = "NoUnit" then C_NoUnit else if s = "BadFree" then C_BadFree else if s = "TooMany" then C_TooMany else if s = "BadPass" then C_BadPass else if s = "BadBase" then C_BadBase else 0) (fa := fun s => if s = "ROWS" then (.ref d_ROWS) else if s = "BOUNDS" then (.ref d_BOUNDS) else if s = "FORMS" then (.ref d_FORMS) else if s = "BITS" then (.ref d_BITS) else .ref 0) F11 C1 C2 (PySem.W.mg_none_of X G z_range)
  have C11 : Callee l.prog w K mg base 3 f11 _ "_law_letters" _ (spM (M.Env.mk K (fun s => if s = "BadRow" then C_BadRow else if s = "RunsError" then C_RunsError else if s = "Unlike" then C_Unlike else if s = "Unknown" then C_Unknown else if s = "Stray" then C_Stray else if s = "BadNumber" then C_BadNumber else if s = "BadLength" then C_BadLength else if s = "Twice" then C_Twice else if s = "BadName" then C_BadName else if s = "BadText" then C_BadText else if s = "BadDepth" then C_BadDepth else if s = "BadLine" then C_BadLine else if s = "BadSite" then C_BadSite else if s = "BadSpot" then C_BadSpot else if s = "BadFlow" then C_BadFlow else if s = "NoMain" then C_NoMain else if s = "Missing" then C_Missing else if s = "NoUnit" then C_NoUnit else if s = "BadFree" then C_BadFree else if s = "TooMany" then C_TooMany else if s = "BadPass" then C_BadPass else if s = "BadBase" then C_BadBase else 0) (fun s => if s = "ROWS" then (.ref d_ROWS) else if s = "BOUNDS" then (.ref d_BOUNDS) else if s = "FORMS" then (.ref d_FORMS) else if s = "BITS" then (.ref d_BITS) else .ref 0) none) 1 m__law_letters) := ⟨O11, k11, B11, PySem.W.mg_of X G a11⟩
  have O12 := ok__law_heads (P := l.prog) (w := w) (mg := mg) (base := base) (ca := fun s => if s = "BadRow" then C_BadRow else if s = "RunsError" then C_RunsError else if s = "Unlike" then C_Unlike else if s = "Unknown" then C_Unknown else if s = "Stray" then C_Stray else if s = "BadNumber" then C_BadNumber else if s = "BadLength" then C_BadLength else if s = "Twice" then C_Twice else if s = "BadName" then C_BadName else if s = "BadText" then C_BadText else if s = "BadDepth" then C_BadDepth else if s = "BadLine" then C_BadLine else if s = "BadSite" then C_BadSite else if s = "BadSpot" then C_BadSpot else if s = "BadFlow" then C_BadFlow else if s = "NoMain" then C_NoMain else if s = "Missing" then C_Missing else if s = "NoUnit" then C_NoUnit else if s = "BadFree" then C_BadFree else if s = "TooMany" then C_TooMany else if s = "BadPass" then C_BadPass else if s = "BadBase" then C_BadBase else 0) (fa := fun s => if s = "ROWS" then (.ref d_ROWS) else if s = "BOUNDS" then (.ref d_BOUNDS) else if s = "FORMS" then (.ref d_FORMS) else if s = "BITS" then (.ref d_BITS) else .ref 0) F12 C2 C3 C11
  have C12 : Callee l.prog w K mg base 4 f12 _ "_law_heads" _ (spM (M.Env.mk K (fun s => if s = "BadRow" then C_BadRow else if s = "RunsError" then C_RunsError else if s = "Unlike" then C_Unlike else if s = "Unknown" then C_Unknown else if s = "Stray" then C_Stray else if s = "BadNumber" then C_BadNumber else if s = "BadLength" then C_BadLength else if s = "Twice" then C_Twice else if s = "BadName" then C_BadName else if s = "BadText" then C_BadText else if s = "BadDepth" then C_BadDepth else if s = "BadLine" then C_BadLine else if s = "BadSite" then C_BadSite else if s = "BadSpot" then C_BadSpot else if s = "BadFlow" then C_BadFlow else if s = "NoMain" then C_NoMain else if s = "Missing" then C_Missing else if s = "NoUnit" then C_NoUnit else if s = "BadFree" then C_BadFree else if s = "TooMany" then C_TooMany else if s = "BadPass" then C_BadPass else if s = "BadBase" then C_BadBase else 0) (fun s => if s = "ROWS" then (.ref d_ROWS) else if s = "BOUNDS" then (.ref d_BOUNDS) else if s = "FORMS" then (.ref d_FORMS) else if s = "BITS" then (.ref d_BITS) else .ref 0) none) 2 m__law_heads) := ⟨O12, k12, B12, PySem.W.mg_of X G a12⟩
  have O13 := ok__law_kin (P := l.prog) (w := w) (mg := mg) (base := base) (ca := fun s => if s = "BadRow" then C_BadRow else if s = "RunsError" then C_RunsError else if s = "Unlike" then C_Unlike else if s = "Unknown" then C_Unknown else if s = "Stray" then C_Stray else if s = "BadNumber" then C_BadNumber else if s = "BadLength" then C_BadLength else if s = "Twice" then C_Twice else if s = "BadName" then C_BadName else if s = "BadText" then C_BadText else if s = "BadDepth" then C_BadDepth else if s = "BadLine" then C_BadLine else if s = "BadSite" then C_BadSite else if s = "BadSpot" then C_BadSpot else if s = "BadFlow" then C_BadFlow else if s = "NoMain" then C_NoMain else if s = "Missing" then C_Missing else if s = "NoUnit" then C_NoUnit else if s = "BadFree" then C_BadFree else if s = "TooMany" then C_TooMany else if s = "BadPass" then C_BadPass else if s = "BadBase" then C_BadBase else 0) (fa := fun s => if s = "ROWS" then (.ref d_ROWS) else if s = "BOUNDS" then (.ref d_BOUNDS) else if s = "FORMS" then (.ref d_FORMS) else if s = "BITS" then (.ref d_BITS) else .ref 0) F13 C1 C12 C8 (PySem.W.mg_none_of X G z_len) (PySem.W.mg_none_of X G z_max)
  have C13 : Callee l.prog w K mg base 5 f13 _ "_law_kin" _ (spM (M.Env.mk K (fun s => if s = "BadRow" then C_BadRow else if s = "RunsError" then C_RunsError else if s = "Unlike" then C_Unlike else if s = "Unknown" then C_Unknown else if s = "Stray" then C_Stray else if s = "BadNumber" then C_BadNumber else if s = "BadLength" then C_BadLength else if s = "Twice" then C_Twice else if s = "BadName" then C_BadName else if s = "BadText" then C_BadText else if s = "BadDepth" then C_BadDepth else if s = "BadLine" then C_BadLine else if s = "BadSite" then C_BadSite else if s = "BadSpot" then C_BadSpot else if s = "BadFlow" then C_BadFlow else if s = "NoMain" then C_NoMain else if s = "Missing" then C_Missing else if s = "NoUnit" then C_NoUnit else if s = "BadFree" then C_BadFree else if s = "TooMany" then C_TooMany else if s = "BadPass" then C_BadPass else if s = "BadBase" then C_BadBase else 0) (fun s => if s = "ROWS" then (.ref d_ROWS) else if s = "BOUNDS" then (.ref d_BOUNDS) else if s = "FORMS" then (.ref d_FORMS) else if s = "BITS" then (.ref d_BITS) else .ref 0) none) 2 m__law_kin) := ⟨O13, k13, B13, PySem.W.mg_of X G a13⟩
  have O14 := ok__law_form_of (P := l.prog) (w := w) (mg := mg) (base := base) (ca := fun s => if s = "BadRow" then C_BadRow else if s = "RunsError" then C_RunsError else if s = "Unlike" then C_Unlike else if s = "Unknown" then C_Unknown else if s = "Stray" then C_Stray else if s = "BadNumber" then C_BadNumber else if s = "BadLength" then C_BadLength else if s = "Twice" then C_Twice else if s = "BadName" then C_BadName else if s = "BadText" then C_BadText else if s = "BadDepth" then C_BadDepth else if s = "BadLine" then C_BadLine else if s = "BadSite" then C_BadSite else if s = "BadSpot" then C_BadSpot else if s = "BadFlow" then C_BadFlow else if s = "NoMain" then C_NoMain else if s = "Missing" then C_Missing else if s = "NoUnit" then C_NoUnit else if s = "BadFree" then C_BadFree else if s = "TooMany" then C_TooMany else if s = "BadPass" then C_BadPass else if s = "BadBase" then C_BadBase else 0) (fa := fun s => if s = "ROWS" then (.ref d_ROWS) else if s = "BOUNDS" then (.ref d_BOUNDS) else if s = "FORMS" then (.ref d_FORMS) else if s = "BITS" then (.ref d_BITS) else .ref 0) F14 C3
  have C14 : Callee l.prog w K mg base 2 f14 _ "_law_form_of" _ (spM (M.Env.mk K (fun s => if s = "BadRow" then C_BadRow else if s = "RunsError" then C_RunsError else if s = "Unlike" then C_Unlike else if s = "Unknown" then C_Unknown else if s = "Stray" then C_Stray else if s = "BadNumber" then C_BadNumber else if s = "BadLength" then C_BadLength else if s = "Twice" then C_Twice else if s = "BadName" then C_BadName else if s = "BadText" then C_BadText else if s = "BadDepth" then C_BadDepth else if s = "BadLine" then C_BadLine else if s = "BadSite" then C_BadSite else if s = "BadSpot" then C_BadSpot else if s = "BadFlow" then C_BadFlow else if s = "NoMain" then C_NoMain else if s = "Missing" then C_Missing else if s = "NoUnit" then C_NoUnit else if s = "BadFree" then C_BadFree else if s = "TooMany" then C_TooMany else if s = "BadPass" then C_BadPass else if s = "BadBase" then C_BadBase else 0) (fun s => if s = "ROWS" then (.ref d_ROWS) else if s = "BOUNDS" then (.ref d_BOUNDS) else if s = "FORMS" then (.ref d_FORMS) else if s = "BITS" then (.ref d_BITS) else .ref 0) none) 1 m__law_form_of) := ⟨O14, k14, B14, PySem.W.mg_of X G a14⟩
  have O15 := ok__law_fault (P := l.prog) (w := w) (mg := mg) (base := base) (ca := fun s => if s = "BadRow" then C_BadRow else if s = "RunsError" then C_RunsError else if s = "Unlike" then C_Unlike else if s = "Unknown" then C_Unknown else if s = "Stray" then C_Stray else if s = "BadNumber" then C_BadNumber else if s = "BadLength" then C_BadLength else if s = "Twice" then C_Twice else if s = "BadName" then C_BadName else if s = "BadText" then C_BadText else if s = "BadDepth" then C_BadDepth else if s = "BadLine" then C_BadLine else if s = "BadSite" then C_BadSite else if s = "BadSpot" then C_BadSpot else if s = "BadFlow" then C_BadFlow else if s = "NoMain" then C_NoMain else if s = "Missing" then C_Missing else if s = "NoUnit" then C_NoUnit else if s = "BadFree" then C_BadFree else if s = "TooMany" then C_TooMany else if s = "BadPass" then C_BadPass else if s = "BadBase" then C_BadBase else 0) (fa := fun s => if s = "ROWS" then (.ref d_ROWS) else if s = "BOUNDS" then (.ref d_BOUNDS) else if s = "FORMS" then (.ref d_FORMS) else if s = "BITS" then (.ref d_BITS) else .ref 0) F15 nonfaP C14 C4 C5 (PySem.W.mg_none_of X G z_len) (PySem.W.mg_none_of X G z_range) (PySem.W.mg_none_of X G z_int)
  have C15 : Callee l.prog w K mg base 3 f15 _ "_law_fault" _ (spM (M.Env.mk K (fun s => if s = "BadRow" then C_BadRow else if s = "RunsError" then C_RunsError else if s = "Unlike" then C_Unlike else if s = "Unknown" then C_Unknown else if s = "Stray" then C_Stray else if s = "BadNumber" then C_BadNumber else if s = "BadLength" then C_BadLength else if s = "Twice" then C_Twice else if s = "BadName" then C_BadName else if s = "BadText" then C_BadText else if s = "BadDepth" then C_BadDepth else if s = "BadLine" then C_BadLine else if s = "BadSite" then C_BadSite else if s = "BadSpot" then C_BadSpot else if s = "BadFlow" then C_BadFlow else if s = "NoMain" then C_NoMain else if s = "Missing" then C_Missing else if s = "NoUnit" then C_NoUnit else if s = "BadFree" then C_BadFree else if s = "TooMany" then C_TooMany else if s = "BadPass" then C_BadPass else if s = "BadBase" then C_BadBase else 0) (fun s => if s = "ROWS" then (.ref d_ROWS) else if s = "BOUNDS" then (.ref d_BOUNDS) else if s = "FORMS" then (.ref d_FORMS) else if s = "BITS" then (.ref d_BITS) else .ref 0) none) 1 m__law_fault) := ⟨O15, k15, B15, PySem.W.mg_of X G a15⟩
  have O16 := ok_fields_of (P := l.prog) (w := w) (mg := mg) (base := base) (ca := fun s => if s = "BadRow" then C_BadRow else if s = "RunsError" then C_RunsError else if s = "Unlike" then C_Unlike else if s = "Unknown" then C_Unknown else if s = "Stray" then C_Stray else if s = "BadNumber" then C_BadNumber else if s = "BadLength" then C_BadLength else if s = "Twice" then C_Twice else if s = "BadName" then C_BadName else if s = "BadText" then C_BadText else if s = "BadDepth" then C_BadDepth else if s = "BadLine" then C_BadLine else if s = "BadSite" then C_BadSite else if s = "BadSpot" then C_BadSpot else if s = "BadFlow" then C_BadFlow else if s = "NoMain" then C_NoMain else if s = "Missing" then C_Missing else if s = "NoUnit" then C_NoUnit else if s = "BadFree" then C_BadFree else if s = "TooMany" then C_TooMany else if s = "BadPass" then C_BadPass else if s = "BadBase" then C_BadBase else 0) (fa := fun s => if s = "ROWS" then (.ref d_ROWS) else if s = "BOUNDS" then (.ref d_BOUNDS) else if s = "FORMS" then (.ref d_FORMS) else if s = "BITS" then (.ref d_BITS) else .ref 0) F16 D_FORMS (PySem.W.mg_of X G zA_FORMS) ((if_neg (by decide +kernel)).trans ((if_neg (by decide +kernel)).trans (if_pos rfl))) kr_FORMS D_ROWS (PySem.W.mg_of X G zA_ROWS) (if_pos rfl) kr_ROWS ka_ROWS kf_ROWS
  have C16 : Callee l.prog w K mg base 1 f16 _ "fields_of" _ (spM (M.Env.mk K (fun s => if s = "BadRow" then C_BadRow else if s = "RunsError" then C_RunsError else if s = "Unlike" then C_Unlike else if s = "Unknown" then C_Unknown else if s = "Stray" then C_Stray else if s = "BadNumber" then C_BadNumber else if s = "BadLength" then C_BadLength else if s = "Twice" then C_Twice else if s = "BadName" then C_BadName else if s = "BadText" then C_BadText else if s = "BadDepth" then C_BadDepth else if s = "BadLine" then C_BadLine else if s = "BadSite" then C_BadSite else if s = "BadSpot" then C_BadSpot else if s = "BadFlow" then C_BadFlow else if s = "NoMain" then C_NoMain else if s = "Missing" then C_Missing else if s = "NoUnit" then C_NoUnit else if s = "BadFree" then C_BadFree else if s = "TooMany" then C_TooMany else if s = "BadPass" then C_BadPass else if s = "BadBase" then C_BadBase else 0) (fun s => if s = "ROWS" then (.ref d_ROWS) else if s = "BOUNDS" then (.ref d_BOUNDS) else if s = "FORMS" then (.ref d_FORMS) else if s = "BITS" then (.ref d_BITS) else .ref 0) none) 1 m_fields_of) := ⟨O16, k16, B16, PySem.W.mg_of X G a16⟩
  have O17 := ok_wrong_entry (P := l.prog) (w := w) (mg := mg) (base := base) (ca := fun s => if s = "BadRow" then C_BadRow else if s = "RunsError" then C_RunsError else if s = "Unlike" then C_Unlike else if s = "Unknown" then C_Unknown else if s = "Stray" then C_Stray else if s = "BadNumber" then C_BadNumber else if s = "BadLength" then C_BadLength else if s = "Twice" then C_Twice else if s = "BadName" then C_BadName else if s = "BadText" then C_BadText else if s = "BadDepth" then C_BadDepth else if s = "BadLine" then C_BadLine else if s = "BadSite" then C_BadSite else if s = "BadSpot" then C_BadSpot else if s = "BadFlow" then C_BadFlow else if s = "NoMain" then C_NoMain else if s = "Missing" then C_Missing else if s = "NoUnit" then C_NoUnit else if s = "BadFree" then C_BadFree else if s = "TooMany" then C_TooMany else if s = "BadPass" then C_BadPass else if s = "BadBase" then C_BadBase else 0) (fa := fun s => if s = "ROWS" then (.ref d_ROWS) else if s = "BOUNDS" then (.ref d_BOUNDS) else if s = "FORMS" then (.ref d_FORMS) else if s = "BITS" then (.ref d_BITS) else .ref 0) F17 D_ROWS (PySem.W.mg_of X G zA_ROWS) (if_pos rfl) kr_ROWS ka_ROWS kf_ROWS D_BOUNDS (PySem.W.mg_of X G zA_BOUNDS) ((if_neg (by decide +kernel)).trans (if_pos rfl)) kr_BOUNDS C16 (PySem.W.mg_none_of X G z_len) (PySem.W.mg_none_of X G z_enumerate)
  have C17 : Callee l.prog w K mg base 2 f17 _ "wrong_entry" _ (spM (M.Env.mk K (fun s => if s = "BadRow" then C_BadRow else if s = "RunsError" then C_RunsError else if s = "Unlike" then C_Unlike else if s = "Unknown" then C_Unknown else if s = "Stray" then C_Stray else if s = "BadNumber" then C_BadNumber else if s = "BadLength" then C_BadLength else if s = "Twice" then C_Twice else if s = "BadName" then C_BadName else if s = "BadText" then C_BadText else if s = "BadDepth" then C_BadDepth else if s = "BadLine" then C_BadLine else if s = "BadSite" then C_BadSite else if s = "BadSpot" then C_BadSpot else if s = "BadFlow" then C_BadFlow else if s = "NoMain" then C_NoMain else if s = "Missing" then C_Missing else if s = "NoUnit" then C_NoUnit else if s = "BadFree" then C_BadFree else if s = "TooMany" then C_TooMany else if s = "BadPass" then C_BadPass else if s = "BadBase" then C_BadBase else 0) (fun s => if s = "ROWS" then (.ref d_ROWS) else if s = "BOUNDS" then (.ref d_BOUNDS) else if s = "FORMS" then (.ref d_FORMS) else if s = "BITS" then (.ref d_BITS) else .ref 0) none) 1 m_wrong_entry) := ⟨O17, k17, B17, PySem.W.mg_of X G a17⟩
  have O18 := ok_BadRow___init__ (P := l.prog) (w := w) (mg := mg) (base := base) (ca := fun s => if s = "BadRow" then C_BadRow else if s = "RunsError" then C_RunsError else if s = "Unlike" then C_Unlike else if s = "Unknown" then C_Unknown else if s = "Stray" then C_Stray else if s = "BadNumber" then C_BadNumber else if s = "BadLength" then C_BadLength else if s = "Twice" then C_Twice else if s = "BadName" then C_BadName else if s = "BadText" then C_BadText else if s = "BadDepth" then C_BadDepth else if s = "BadLine" then C_BadLine else if s = "BadSite" then C_BadSite else if s = "BadSpot" then C_BadSpot else if s = "BadFlow" then C_BadFlow else if s = "NoMain" then C_NoMain else if s = "Missing" then C_Missing else if s = "NoUnit" then C_NoUnit else if s = "BadFree" then C_BadFree else if s = "TooMany" then C_TooMany else if s = "BadPass" then C_BadPass else if s = "BadBase" then C_BadBase else 0) (fa := fun s => if s = "ROWS" then (.ref d_ROWS) else if s = "BOUNDS" then (.ref d_BOUNDS) else if s = "FORMS" then (.ref d_FORMS) else if s = "BITS" then (.ref d_BITS) else .ref 0) F18
  have C18 : CalleeM l.prog w K mg base 1 f18 _ _ (spX1 (M.Env.mk K (fun s => if s = "BadRow" then C_BadRow else if s = "RunsError" then C_RunsError else if s = "Unlike" then C_Unlike else if s = "Unknown" then C_Unknown else if s = "Stray" then C_Stray else if s = "BadNumber" then C_BadNumber else if s = "BadLength" then C_BadLength else if s = "Twice" then C_Twice else if s = "BadName" then C_BadName else if s = "BadText" then C_BadText else if s = "BadDepth" then C_BadDepth else if s = "BadLine" then C_BadLine else if s = "BadSite" then C_BadSite else if s = "BadSpot" then C_BadSpot else if s = "BadFlow" then C_BadFlow else if s = "NoMain" then C_NoMain else if s = "Missing" then C_Missing else if s = "NoUnit" then C_NoUnit else if s = "BadFree" then C_BadFree else if s = "TooMany" then C_TooMany else if s = "BadPass" then C_BadPass else if s = "BadBase" then C_BadBase else 0) (fun s => if s = "ROWS" then (.ref d_ROWS) else if s = "BOUNDS" then (.ref d_BOUNDS) else if s = "FORMS" then (.ref d_FORMS) else if s = "BITS" then (.ref d_BITS) else .ref 0) none).K "index") := ⟨O18, B18⟩
  have O19 := ok_with_number (P := l.prog) (w := w) (mg := mg) (base := base) (ca := fun s => if s = "BadRow" then C_BadRow else if s = "RunsError" then C_RunsError else if s = "Unlike" then C_Unlike else if s = "Unknown" then C_Unknown else if s = "Stray" then C_Stray else if s = "BadNumber" then C_BadNumber else if s = "BadLength" then C_BadLength else if s = "Twice" then C_Twice else if s = "BadName" then C_BadName else if s = "BadText" then C_BadText else if s = "BadDepth" then C_BadDepth else if s = "BadLine" then C_BadLine else if s = "BadSite" then C_BadSite else if s = "BadSpot" then C_BadSpot else if s = "BadFlow" then C_BadFlow else if s = "NoMain" then C_NoMain else if s = "Missing" then C_Missing else if s = "NoUnit" then C_NoUnit else if s = "BadFree" then C_BadFree else if s = "TooMany" then C_TooMany else if s = "BadPass" then C_BadPass else if s = "BadBase" then C_BadBase else 0) (fa := fun s => if s = "ROWS" then (.ref d_ROWS) else if s = "BOUNDS" then (.ref d_BOUNDS) else if s = "FORMS" then (.ref d_FORMS) else if s = "BITS" then (.ref d_BITS) else .ref 0) F19 D_BITS (PySem.W.mg_of X G zA_BITS) ((if_neg (by decide +kernel)).trans ((if_neg (by decide +kernel)).trans ((if_neg (by decide +kernel)).trans (if_pos rfl)))) kr_BITS
  have C19 : Callee l.prog w K mg base 1 f19 _ "with_number" _ (spM (M.Env.mk K (fun s => if s = "BadRow" then C_BadRow else if s = "RunsError" then C_RunsError else if s = "Unlike" then C_Unlike else if s = "Unknown" then C_Unknown else if s = "Stray" then C_Stray else if s = "BadNumber" then C_BadNumber else if s = "BadLength" then C_BadLength else if s = "Twice" then C_Twice else if s = "BadName" then C_BadName else if s = "BadText" then C_BadText else if s = "BadDepth" then C_BadDepth else if s = "BadLine" then C_BadLine else if s = "BadSite" then C_BadSite else if s = "BadSpot" then C_BadSpot else if s = "BadFlow" then C_BadFlow else if s = "NoMain" then C_NoMain else if s = "Missing" then C_Missing else if s = "NoUnit" then C_NoUnit else if s = "BadFree" then C_BadFree else if s = "TooMany" then C_TooMany else if s = "BadPass" then C_BadPass else if s = "BadBase" then C_BadBase else 0) (fun s => if s = "ROWS" then (.ref d_ROWS) else if s = "BOUNDS" then (.ref d_BOUNDS) else if s = "FORMS" then (.ref d_FORMS) else if s = "BITS" then (.ref d_BITS) else .ref 0) none) 3 m_with_number) := ⟨O19, k19, B19, PySem.W.mg_of X G a19⟩
  have O20 := ok_encode (P := l.prog) (w := w) (mg := mg) (base := base) (ca := fun s => if s = "BadRow" then C_BadRow else if s = "RunsError" then C_RunsError else if s = "Unlike" then C_Unlike else if s = "Unknown" then C_Unknown else if s = "Stray" then C_Stray else if s = "BadNumber" then C_BadNumber else if s = "BadLength" then C_BadLength else if s = "Twice" then C_Twice else if s = "BadName" then C_BadName else if s = "BadText" then C_BadText else if s = "BadDepth" then C_BadDepth else if s = "BadLine" then C_BadLine else if s = "BadSite" then C_BadSite else if s = "BadSpot" then C_BadSpot else if s = "BadFlow" then C_BadFlow else if s = "NoMain" then C_NoMain else if s = "Missing" then C_Missing else if s = "NoUnit" then C_NoUnit else if s = "BadFree" then C_BadFree else if s = "TooMany" then C_TooMany else if s = "BadPass" then C_BadPass else if s = "BadBase" then C_BadBase else 0) (fa := fun s => if s = "ROWS" then (.ref d_ROWS) else if s = "BOUNDS" then (.ref d_BOUNDS) else if s = "FORMS" then (.ref d_FORMS) else if s = "BITS" then (.ref d_BITS) else .ref 0) F20 (if_pos rfl) (PySem.W.mg_of X G zc_BadRow) ((if_neg (by decide +kernel)).trans (if_pos rfl)) (PySem.W.mg_of X G zc_RunsError) nonfaP D_ROWS (PySem.W.mg_of X G zA_ROWS) (if_pos rfl) kr_ROWS ka_ROWS kf_ROWS C17 C18 C16 C19 ⟨⟨⟨_, _, _, _, _, _, _, _, _, _, _, _, _, _, _, xL_BadRow, by rfl⟩, xs_BadRow, xe_BadRow, xt_BadRow, xk_BadRow⟩, ⟨xg_BadRow, xh_BadRow, xe_BadRow, xd_BadRow⟩, ⟨xg_BadRow, xh_BadRow, xe_BadRow, xd_BadRow, xa_BadRow, xn_BadRow, xq_BadRow, xm_BadRow⟩, by intro f hf; simp only [List.mem_cons, List.not_mem_nil, or_false] at hf; rcases hf with rfl <;> assumption⟩ ⟨a18, jt_BadRow⟩ (PySem.W.mg_none_of X G z_zip)
  have C20 : CalleeX l.prog w K mg base 3 f20 _ "encode" _ (spM (M.Env.mk K (fun s => if s = "BadRow" then C_BadRow else if s = "RunsError" then C_RunsError else if s = "Unlike" then C_Unlike else if s = "Unknown" then C_Unknown else if s = "Stray" then C_Stray else if s = "BadNumber" then C_BadNumber else if s = "BadLength" then C_BadLength else if s = "Twice" then C_Twice else if s = "BadName" then C_BadName else if s = "BadText" then C_BadText else if s = "BadDepth" then C_BadDepth else if s = "BadLine" then C_BadLine else if s = "BadSite" then C_BadSite else if s = "BadSpot" then C_BadSpot else if s = "BadFlow" then C_BadFlow else if s = "NoMain" then C_NoMain else if s = "Missing" then C_Missing else if s = "NoUnit" then C_NoUnit else if s = "BadFree" then C_BadFree else if s = "TooMany" then C_TooMany else if s = "BadPass" then C_BadPass else if s = "BadBase" then C_BadBase else 0) (fun s => if s = "ROWS" then (.ref d_ROWS) else if s = "BOUNDS" then (.ref d_BOUNDS) else if s = "FORMS" then (.ref d_FORMS) else if s = "BITS" then (.ref d_BITS) else .ref 0) none) 1 m_encode) := ⟨O20, k20, B20, PySem.W.mg_of X G a20⟩
  have O21 := ok__law_asked (P := l.prog) (w := w) (mg := mg) (base := base) (ca := fun s => if s = "BadRow" then C_BadRow else if s = "RunsError" then C_RunsError else if s = "Unlike" then C_Unlike else if s = "Unknown" then C_Unknown else if s = "Stray" then C_Stray else if s = "BadNumber" then C_BadNumber else if s = "BadLength" then C_BadLength else if s = "Twice" then C_Twice else if s = "BadName" then C_BadName else if s = "BadText" then C_BadText else if s = "BadDepth" then C_BadDepth else if s = "BadLine" then C_BadLine else if s = "BadSite" then C_BadSite else if s = "BadSpot" then C_BadSpot else if s = "BadFlow" then C_BadFlow else if s = "NoMain" then C_NoMain else if s = "Missing" then C_Missing else if s = "NoUnit" then C_NoUnit else if s = "BadFree" then C_BadFree else if s = "TooMany" then C_TooMany else if s = "BadPass" then C_BadPass else if s = "BadBase" then C_BadBase else 0) (fa := fun s => if s = "ROWS" then (.ref d_ROWS) else if s = "BOUNDS" then (.ref d_BOUNDS) else if s = "FORMS" then (.ref d_FORMS) else if s = "BITS" then (.ref d_BITS) else .ref 0) F21 (if_pos rfl) (PySem.W.mg_of X G zc_BadRow) ((if_neg (by decide +kernel)).trans (if_pos rfl)) (PySem.W.mg_of X G zc_RunsError) ((if_neg (by decide +kernel)).trans ((if_neg (by decide +kernel)).trans (if_pos rfl))) (PySem.W.mg_of X G zc_Unlike) ((if_neg (by decide +kernel)).trans ((if_neg (by decide +kernel)).trans ((if_neg (by decide +kernel)).trans (if_pos rfl)))) (PySem.W.mg_of X G zc_Unknown) ((if_neg (by decide +kernel)).trans ((if_neg (by decide +kernel)).trans ((if_neg (by decide +kernel)).trans ((if_neg (by decide +kernel)).trans (if_pos rfl))))) (PySem.W.mg_of X G zc_Stray) ((if_neg (by decide +kernel)).trans ((if_neg (by decide +kernel)).trans ((if_neg (by decide +kernel)).trans ((if_neg (by decide +kernel)).trans ((if_neg (by decide +kernel)).trans (if_pos rfl)))))) (PySem.W.mg_of X G zc_BadNumber) ((if_neg (by decide +kernel)).trans ((if_neg (by decide +kernel)).trans ((if_neg (by decide +kernel)).trans ((if_neg (by decide +kernel)).trans ((if_neg (by decide +kernel)).trans ((if_neg (by decide +kernel)).trans (if_pos rfl))))))) (PySem.W.mg_of X G zc_BadLength) ((if_neg (by decide +kernel)).trans ((if_neg (by decide +kernel)).trans ((if_neg (by decide +kernel)).trans ((if_neg (by decide +kernel)).trans ((if_neg (by decide +kernel)).trans ((if_neg (by decide +kernel)).trans ((if_neg (by decide +kernel)).trans (if_pos rfl)))))))) (PySem.W.mg_of X G zc_Twice) ((if_neg (by decide +kernel)).trans ((if_neg (by decide +kernel)).trans ((if_neg (by decide +kernel)).trans ((if_neg (by decide +kernel)).trans ((if_neg (by decide +kernel)).trans ((if_neg (by decide +kernel)).trans ((if_neg (by decide +kernel)).trans ((if_neg (by decide +kernel)).trans (if_pos rfl))))))))) (PySem.W.mg_of X G zc_BadName) ((if_neg (by decide +kernel)).trans ((if_neg (by decide +kernel)).trans ((if_neg (by decide +kernel)).trans ((if_neg (by decide +kernel)).trans ((if_neg (by decide +kernel)).trans ((if_neg (by decide +kernel)).trans ((if_neg (by decide +kernel)).trans ((if_neg (by decide +kernel)).trans ((if_neg (by decide +kernel)).trans (if_pos rfl)))))))))) (PySem.W.mg_of X G zc_BadText) ((if_neg (by decide +kernel)).trans ((if_neg (by decide +kernel)).trans ((if_neg (by decide +kernel)).trans ((if_neg (by decide +kernel)).trans ((if_neg (by decide +kernel)).trans ((if_neg (by decide +kernel)).trans ((if_neg (by decide +kernel)).trans ((if_neg (by decide +kernel)).trans ((if_neg (by decide +kernel)).trans ((if_neg (by decide +kernel)).trans (if_pos rfl))))))))))) (PySem.W.mg_of X G zc_BadDepth) ((if_neg (by decide +kernel)).trans ((if_neg (by decide +kernel)).trans ((if_neg (by decide +kernel)).trans ((if_neg (by decide +kernel)).trans ((if_neg (by decide +kernel)).trans ((if_neg (by decide +kernel)).trans ((if_neg (by decide +kernel)).trans ((if_neg (by decide +kernel)).trans ((if_neg (by decide +kernel)).trans ((if_neg (by decide +kernel)).trans ((if_neg (by decide +kernel)).trans (if_pos rfl)))))))))))) (PySem.W.mg_of X G zc_BadLine) ((if_neg (by decide +kernel)).trans ((if_neg (by decide +kernel)).trans ((if_neg (by decide +kernel)).trans ((if_neg (by decide +kernel)).trans ((if_neg (by decide +kernel)).trans ((if_neg (by decide +kernel)).trans ((if_neg (by decide +kernel)).trans ((if_neg (by decide +kernel)).trans ((if_neg (by decide +kernel)).trans ((if_neg (by decide +kernel)).trans ((if_neg (by decide +kernel)).trans ((if_neg (by decide +kernel)).trans (if_pos rfl))))))))))))) (PySem.W.mg_of X G zc_BadSite) ((if_neg (by decide +kernel)).trans ((if_neg (by decide +kernel)).trans ((if_neg (by decide +kernel)).trans ((if_neg (by decide +kernel)).trans ((if_neg (by decide +kernel)).trans ((if_neg (by decide +kernel)).trans ((if_neg (by decide +kernel)).trans ((if_neg (by decide +kernel)).trans ((if_neg (by decide +kernel)).trans ((if_neg (by decide +kernel)).trans ((if_neg (by decide +kernel)).trans ((if_neg (by decide +kernel)).trans ((if_neg (by decide +kernel)).trans (if_pos rfl)))))))))))))) (PySem.W.mg_of X G zc_BadSpot) ((if_neg (by decide +kernel)).trans ((if_neg (by decide +kernel)).trans ((if_neg (by decide +kernel)).trans ((if_neg (by decide +kernel)).trans ((if_neg (by decide +kernel)).trans ((if_neg (by decide +kernel)).trans ((if_neg (by decide +kernel)).trans ((if_neg (by decide +kernel)).trans ((if_neg (by decide +kernel)).trans ((if_neg (by decide +kernel)).trans ((if_neg (by decide +kernel)).trans ((if_neg (by decide +kernel)).trans ((if_neg (by decide +kernel)).trans ((if_neg (by decide +kernel)).trans (if_pos rfl))))))))))))))) (PySem.W.mg_of X G zc_BadFlow) ((if_neg (by decide +kernel)).trans ((if_neg (by decide +kernel)).trans ((if_neg (by decide +kernel)).trans ((if_neg (by decide +kernel)).trans ((if_neg (by decide +kernel)).trans ((if_neg (by decide +kernel)).trans ((if_neg (by decide +kernel)).trans ((if_neg (by decide +kernel)).trans ((if_neg (by decide +kernel)).trans ((if_neg (by decide +kernel)).trans ((if_neg (by decide +kernel)).trans ((if_neg (by decide +kernel)).trans ((if_neg (by decide +kernel)).trans ((if_neg (by decide +kernel)).trans ((if_neg (by decide +kernel)).trans (if_pos rfl)))))))))))))))) (PySem.W.mg_of X G zc_NoMain) ((if_neg (by decide +kernel)).trans ((if_neg (by decide +kernel)).trans ((if_neg (by decide +kernel)).trans ((if_neg (by decide +kernel)).trans ((if_neg (by decide +kernel)).trans ((if_neg (by decide +kernel)).trans ((if_neg (by decide +kernel)).trans ((if_neg (by decide +kernel)).trans ((if_neg (by decide +kernel)).trans ((if_neg (by decide +kernel)).trans ((if_neg (by decide +kernel)).trans ((if_neg (by decide +kernel)).trans ((if_neg (by decide +kernel)).trans ((if_neg (by decide +kernel)).trans ((if_neg (by decide +kernel)).trans ((if_neg (by decide +kernel)).trans (if_pos rfl))))))))))))))))) (PySem.W.mg_of X G zc_Missing) ((if_neg (by decide +kernel)).trans ((if_neg (by decide +kernel)).trans ((if_neg (by decide +kernel)).trans ((if_neg (by decide +kernel)).trans ((if_neg (by decide +kernel)).trans ((if_neg (by decide +kernel)).trans ((if_neg (by decide +kernel)).trans ((if_neg (by decide +kernel)).trans ((if_neg (by decide +kernel)).trans ((if_neg (by decide +kernel)).trans ((if_neg (by decide +kernel)).trans ((if_neg (by decide +kernel)).trans ((if_neg (by decide +kernel)).trans ((if_neg (by decide +kernel)).trans ((if_neg (by decide +kernel)).trans ((if_neg (by decide +kernel)).trans ((if_neg (by decide +kernel)).trans (if_pos rfl)))))))))))))))))) (PySem.W.mg_of X G zc_NoUnit) ((if_neg (by decide +kernel)).trans ((if_neg (by decide +kernel)).trans ((if_neg (by decide +kernel)).trans ((if_neg (by decide +kernel)).trans ((if_neg (by decide +kernel)).trans ((if_neg (by decide +kernel)).trans ((if_neg (by decide +kernel)).trans ((if_neg (by decide +kernel)).trans ((if_neg (by decide +kernel)).trans ((if_neg (by decide +kernel)).trans ((if_neg (by decide +kernel)).trans ((if_neg (by decide +kernel)).trans ((if_neg (by decide +kernel)).trans ((if_neg (by decide +kernel)).trans ((if_neg (by decide +kernel)).trans ((if_neg (by decide +kernel)).trans ((if_neg (by decide +kernel)).trans ((if_neg (by decide +kernel)).trans (if_pos rfl))))))))))))))))))) (PySem.W.mg_of X G zc_BadFree) ((if_neg (by decide +kernel)).trans ((if_neg (by decide +kernel)).trans ((if_neg (by decide +kernel)).trans ((if_neg (by decide +kernel)).trans ((if_neg (by decide +kernel)).trans ((if_neg (by decide +kernel)).trans ((if_neg (by decide +kernel)).trans ((if_neg (by decide +kernel)).trans ((if_neg (by decide +kernel)).trans ((if_neg (by decide +kernel)).trans ((if_neg (by decide +kernel)).trans ((if_neg (by decide +kernel)).trans ((if_neg (by decide +kernel)).trans ((if_neg (by decide +kernel)).trans ((if_neg (by decide +kernel)).trans ((if_neg (by decide +kernel)).trans ((if_neg (by decide +kernel)).trans ((if_neg (by decide +kernel)).trans ((if_neg (by decide +kernel)).trans (if_pos rfl)))))))))))))))))))) (PySem.W.mg_of X G zc_TooMany) ((if_neg (by decide +kernel)).trans ((if_neg (by decide +kernel)).trans ((if_neg (by decide +kernel)).trans ((if_neg (by decide +kernel)).trans ((if_neg (by decide +kernel)).trans ((if_neg (by decide +kernel)).trans ((if_neg (by decide +kernel)).trans ((if_neg (by decide +kernel)).trans ((if_neg (by decide +kernel)).trans ((if_neg (by decide +kernel)).trans ((if_neg (by decide +kernel)).trans ((if_neg (by decide +kernel)).trans ((if_neg (by decide +kernel)).trans ((if_neg (by decide +kernel)).trans ((if_neg (by decide +kernel)).trans ((if_neg (by decide +kernel)).trans ((if_neg (by decide +kernel)).trans ((if_neg (by decide +kernel)).trans ((if_neg (by decide +kernel)).trans ((if_neg (by decide +kernel)).trans (if_pos rfl))))))))))))))))))))) (PySem.W.mg_of X G zc_BadPass) ((if_neg (by decide +kernel)).trans ((if_neg (by decide +kernel)).trans ((if_neg (by decide +kernel)).trans ((if_neg (by decide +kernel)).trans ((if_neg (by decide +kernel)).trans ((if_neg (by decide +kernel)).trans ((if_neg (by decide +kernel)).trans ((if_neg (by decide +kernel)).trans ((if_neg (by decide +kernel)).trans ((if_neg (by decide +kernel)).trans ((if_neg (by decide +kernel)).trans ((if_neg (by decide +kernel)).trans ((if_neg (by decide +kernel)).trans ((if_neg (by decide +kernel)).trans ((if_neg (by decide +kernel)).trans ((if_neg (by decide +kernel)).trans ((if_neg (by decide +kernel)).trans ((if_neg (by decide +kernel)).trans ((if_neg (by decide +kernel)).trans ((if_neg (by decide +kernel)).trans ((if_neg (by decide +kernel)).trans (if_pos rfl)))))))))))))))))))))) (PySem.W.mg_of X G zc_BadBase) C20 (exm_own ze1_BadRow_BadRow ze2_BadRow_BadRow ze3_BadRow_BadRow ze4_BadRow_BadRow) ⟨⟨⟨_, _, _, _, _, _, _, _, _, _, _, _, _, _, _, xL_BadRow, by rfl⟩, xs_BadRow, xe_BadRow, xt_BadRow, xk_BadRow⟩, ⟨xg_BadRow, xh_BadRow, xe_BadRow, xd_BadRow⟩, ⟨xg_BadRow, xh_BadRow, xe_BadRow, xd_BadRow, xa_BadRow, xn_BadRow, xq_BadRow, xm_BadRow⟩, by intro f hf; simp only [List.mem_cons, List.not_mem_nil, or_false] at hf; rcases hf with rfl <;> assumption⟩ (kit_own zk1_BadRow_Unlike zk2_BadRow_Unlike zk3_BadRow_Unlike zk4_BadRow_Unlike) (kit_own zk1_BadRow_Unknown zk2_BadRow_Unknown zk3_BadRow_Unknown zk4_BadRow_Unknown) (kit_own zk1_BadRow_Stray zk2_BadRow_Stray zk3_BadRow_Stray zk4_BadRow_Stray) (kit_own zk1_BadRow_BadNumber zk2_BadRow_BadNumber zk3_BadRow_BadNumber zk4_BadRow_BadNumber) (kit_own zk1_BadRow_BadLength zk2_BadRow_BadLength zk3_BadRow_BadLength zk4_BadRow_BadLength) (kit_own zk1_BadRow_Twice zk2_BadRow_Twice zk3_BadRow_Twice zk4_BadRow_Twice) (kit_own zk1_BadRow_BadName zk2_BadRow_BadName zk3_BadRow_BadName zk4_BadRow_BadName) (kit_own zk1_BadRow_BadText zk2_BadRow_BadText zk3_BadRow_BadText zk4_BadRow_BadText) (kit_own zk1_BadRow_BadDepth zk2_BadRow_BadDepth zk3_BadRow_BadDepth zk4_BadRow_BadDepth) (kit_own zk1_BadRow_BadLine zk2_BadRow_BadLine zk3_BadRow_BadLine zk4_BadRow_BadLine) (kit_own zk1_BadRow_BadSite zk2_BadRow_BadSite zk3_BadRow_BadSite zk4_BadRow_BadSite) (kit_own zk1_BadRow_BadSpot zk2_BadRow_BadSpot zk3_BadRow_BadSpot zk4_BadRow_BadSpot) (kit_own zk1_BadRow_BadFlow zk2_BadRow_BadFlow zk3_BadRow_BadFlow zk4_BadRow_BadFlow) (kit_own zk1_BadRow_NoMain zk2_BadRow_NoMain zk3_BadRow_NoMain zk4_BadRow_NoMain) (kit_own zk1_BadRow_Missing zk2_BadRow_Missing zk3_BadRow_Missing zk4_BadRow_Missing) (kit_own zk1_BadRow_NoUnit zk2_BadRow_NoUnit zk3_BadRow_NoUnit zk4_BadRow_NoUnit) (kit_own zk1_BadRow_BadFree zk2_BadRow_BadFree zk3_BadRow_BadFree zk4_BadRow_BadFree) (kit_own zk1_BadRow_TooMany zk2_BadRow_TooMany zk3_BadRow_TooMany zk4_BadRow_TooMany) (kit_own zk1_BadRow_BadPass zk2_BadRow_BadPass zk3_BadRow_BadPass zk4_BadRow_BadPass) (kit_own zk1_BadRow_BadBase zk2_BadRow_BadBase zk3_BadRow_BadBase zk4_BadRow_BadBase) (kit_own zk1_BadRow_RunsError zk2_BadRow_RunsError zk3_BadRow_RunsError zk4_BadRow_RunsError) (kit_type (by decide +kernel) zk3_BadRow_ValueError) (PySem.W.mg_none_of X G z_isinstance) (PySem.W.mg_none_of X G z_ValueError)
  have C21 : Callee l.prog w K mg base 4 f21 _ "_law_asked" _ (spM (M.Env.mk K (fun s => if s = "BadRow" then C_BadRow else if s = "RunsError" then C_RunsError else if s = "Unlike" then C_Unlike else if s = "Unknown" then C_Unknown else if s = "Stray" then C_Stray else if s = "BadNumber" then C_BadNumber else if s = "BadLength" then C_BadLength else if s = "Twice" then C_Twice else if s = "BadName" then C_BadName else if s = "BadText" then C_BadText else if s = "BadDepth" then C_BadDepth else if s = "BadLine" then C_BadLine else if s = "BadSite" then C_BadSite else if s = "BadSpot" then C_BadSpot else if s = "BadFlow" then C_BadFlow else if s = "NoMain" then C_NoMain else if s = "Missing" then C_Missing else if s = "NoUnit" then C_NoUnit else if s = "BadFree" then C_BadFree else if s = "TooMany" then C_TooMany else if s = "BadPass" then C_BadPass else if s = "BadBase" then C_BadBase else 0) (fun s => if s = "ROWS" then (.ref d_ROWS) else if s = "BOUNDS" then (.ref d_BOUNDS) else if s = "FORMS" then (.ref d_FORMS) else if s = "BITS" then (.ref d_BITS) else .ref 0) none) 1 m__law_asked) := ⟨O21, k21, B21, PySem.W.mg_of X G a21⟩
  have O22 := ok__law_jump_code (P := l.prog) (w := w) (mg := mg) (base := base) (ca := fun s => if s = "BadRow" then C_BadRow else if s = "RunsError" then C_RunsError else if s = "Unlike" then C_Unlike else if s = "Unknown" then C_Unknown else if s = "Stray" then C_Stray else if s = "BadNumber" then C_BadNumber else if s = "BadLength" then C_BadLength else if s = "Twice" then C_Twice else if s = "BadName" then C_BadName else if s = "BadText" then C_BadText else if s = "BadDepth" then C_BadDepth else if s = "BadLine" then C_BadLine else if s = "BadSite" then C_BadSite else if s = "BadSpot" then C_BadSpot else if s = "BadFlow" then C_BadFlow else if s = "NoMain" then C_NoMain else if s = "Missing" then C_Missing else if s = "NoUnit" then C_NoUnit else if s = "BadFree" then C_BadFree else if s = "TooMany" then C_TooMany else if s = "BadPass" then C_BadPass else if s = "BadBase" then C_BadBase else 0) (fa := fun s => if s = "ROWS" then (.ref d_ROWS) else if s = "BOUNDS" then (.ref d_BOUNDS) else if s = "FORMS" then (.ref d_FORMS) else if s = "BITS" then (.ref d_BITS) else .ref 0) F22 (PySem.W.mg_none_of X G z_int)
  have C22 : Callee l.prog w K mg base 1 f22 _ "_law_jump_code" _ (spM (M.Env.mk K (fun s => if s = "BadRow" then C_BadRow else if s = "RunsError" then C_RunsError else if s = "Unlike" then C_Unlike else if s = "Unknown" then C_Unknown else if s = "Stray" then C_Stray else if s = "BadNumber" then C_BadNumber else if s = "BadLength" then C_BadLength else if s = "Twice" then C_Twice else if s = "BadName" then C_BadName else if s = "BadText" then C_BadText else if s = "BadDepth" then C_BadDepth else if s = "BadLine" then C_BadLine else if s = "BadSite" then C_BadSite else if s = "BadSpot" then C_BadSpot else if s = "BadFlow" then C_BadFlow else if s = "NoMain" then C_NoMain else if s = "Missing" then C_Missing else if s = "NoUnit" then C_NoUnit else if s = "BadFree" then C_BadFree else if s = "TooMany" then C_TooMany else if s = "BadPass" then C_BadPass else if s = "BadBase" then C_BadBase else 0) (fun s => if s = "ROWS" then (.ref d_ROWS) else if s = "BOUNDS" then (.ref d_BOUNDS) else if s = "FORMS" then (.ref d_FORMS) else if s = "BITS" then (.ref d_BITS) else .ref 0) none) 1 m__law_jump_code) := ⟨O22, k22, B22, PySem.W.mg_of X G a22⟩
  have O23 := ok__law_branch_code (P := l.prog) (w := w) (mg := mg) (base := base) (ca := fun s => if s = "BadRow" then C_BadRow else if s = "RunsError" then C_RunsError else if s = "Unlike" then C_Unlike else if s = "Unknown" then C_Unknown else if s = "Stray" then C_Stray else if s = "BadNumber" then C_BadNumber else if s = "BadLength" then C_BadLength else if s = "Twice" then C_Twice else if s = "BadName" then C_BadName else if s = "BadText" then C_BadText else if s = "BadDepth" then C_BadDepth else if s = "BadLine" then C_BadLine else if s = "BadSite" then C_BadSite else if s = "BadSpot" then C_BadSpot else if s = "BadFlow" then C_BadFlow else if s = "NoMain" then C_NoMain else if s = "Missing" then C_Missing else if s = "NoUnit" then C_NoUnit else if s = "BadFree" then C_BadFree else if s = "TooMany" then C_TooMany else if s = "BadPass" then C_BadPass else if s = "BadBase" then C_BadBase else 0) (fa := fun s => if s = "ROWS" then (.ref d_ROWS) else if s = "BOUNDS" then (.ref d_BOUNDS) else if s = "FORMS" then (.ref d_FORMS) else if s = "BITS" then (.ref d_BITS) else .ref 0) F23 (PySem.W.mg_none_of X G z_int)
  have C23 : Callee l.prog w K mg base 1 f23 _ "_law_branch_code" _ (spM (M.Env.mk K (fun s => if s = "BadRow" then C_BadRow else if s = "RunsError" then C_RunsError else if s = "Unlike" then C_Unlike else if s = "Unknown" then C_Unknown else if s = "Stray" then C_Stray else if s = "BadNumber" then C_BadNumber else if s = "BadLength" then C_BadLength else if s = "Twice" then C_Twice else if s = "BadName" then C_BadName else if s = "BadText" then C_BadText else if s = "BadDepth" then C_BadDepth else if s = "BadLine" then C_BadLine else if s = "BadSite" then C_BadSite else if s = "BadSpot" then C_BadSpot else if s = "BadFlow" then C_BadFlow else if s = "NoMain" then C_NoMain else if s = "Missing" then C_Missing else if s = "NoUnit" then C_NoUnit else if s = "BadFree" then C_BadFree else if s = "TooMany" then C_TooMany else if s = "BadPass" then C_BadPass else if s = "BadBase" then C_BadBase else 0) (fun s => if s = "ROWS" then (.ref d_ROWS) else if s = "BOUNDS" then (.ref d_BOUNDS) else if s = "FORMS" then (.ref d_FORMS) else if s = "BITS" then (.ref d_BITS) else .ref 0) none) 2 m__law_branch_code) := ⟨O23, k23, B23, PySem.W.mg_of X G a23⟩
  have O24 := ok__law_code (P := l.prog) (w := w) (mg := mg) (base := base) (ca := fun s => if s = "BadRow" then C_BadRow else if s = "RunsError" then C_RunsError else if s = "Unlike" then C_Unlike else if s = "Unknown" then C_Unknown else if s = "Stray" then C_Stray else if s = "BadNumber" then C_BadNumber else if s = "BadLength" then C_BadLength else if s = "Twice" then C_Twice else if s = "BadName" then C_BadName else if s = "BadText" then C_BadText else if s = "BadDepth" then C_BadDepth else if s = "BadLine" then C_BadLine else if s = "BadSite" then C_BadSite else if s = "BadSpot" then C_BadSpot else if s = "BadFlow" then C_BadFlow else if s = "NoMain" then C_NoMain else if s = "Missing" then C_Missing else if s = "NoUnit" then C_NoUnit else if s = "BadFree" then C_BadFree else if s = "TooMany" then C_TooMany else if s = "BadPass" then C_BadPass else if s = "BadBase" then C_BadBase else 0) (fa := fun s => if s = "ROWS" then (.ref d_ROWS) else if s = "BOUNDS" then (.ref d_BOUNDS) else if s = "FORMS" then (.ref d_FORMS) else if s = "BITS" then (.ref d_BITS) else .ref 0) F24 C22 C23 (PySem.W.mg_none_of X G z_int)
  have C24 : Callee l.prog w K mg base 2 f24 _ "_law_code" _ (spM (M.Env.mk K (fun s => if s = "BadRow" then C_BadRow else if s = "RunsError" then C_RunsError else if s = "Unlike" then C_Unlike else if s = "Unknown" then C_Unknown else if s = "Stray" then C_Stray else if s = "BadNumber" then C_BadNumber else if s = "BadLength" then C_BadLength else if s = "Twice" then C_Twice else if s = "BadName" then C_BadName else if s = "BadText" then C_BadText else if s = "BadDepth" then C_BadDepth else if s = "BadLine" then C_BadLine else if s = "BadSite" then C_BadSite else if s = "BadSpot" then C_BadSpot else if s = "BadFlow" then C_BadFlow else if s = "NoMain" then C_NoMain else if s = "Missing" then C_Missing else if s = "NoUnit" then C_NoUnit else if s = "BadFree" then C_BadFree else if s = "TooMany" then C_TooMany else if s = "BadPass" then C_BadPass else if s = "BadBase" then C_BadBase else 0) (fun s => if s = "ROWS" then (.ref d_ROWS) else if s = "BOUNDS" then (.ref d_BOUNDS) else if s = "FORMS" then (.ref d_FORMS) else if s = "BITS" then (.ref d_BITS) else .ref 0) none) 2 m__law_code) := ⟨O24, k24, B24, PySem.W.mg_of X G a24⟩
  have O25 := ok__law_right (P := l.prog) (w := w) (mg := mg) (base := base) (ca := fun s => if s = "BadRow" then C_BadRow else if s = "RunsError" then C_RunsError else if s = "Unlike" then C_Unlike else if s = "Unknown" then C_Unknown else if s = "Stray" then C_Stray else if s = "BadNumber" then C_BadNumber else if s = "BadLength" then C_BadLength else if s = "Twice" then C_Twice else if s = "BadName" then C_BadName else if s = "BadText" then C_BadText else if s = "BadDepth" then C_BadDepth else if s = "BadLine" then C_BadLine else if s = "BadSite" then C_BadSite else if s = "BadSpot" then C_BadSpot else if s = "BadFlow" then C_BadFlow else if s = "NoMain" then C_NoMain else if s = "Missing" then C_Missing else if s = "NoUnit" then C_NoUnit else if s = "BadFree" then C_BadFree else if s = "TooMany" then C_TooMany else if s = "BadPass" then C_BadPass else if s = "BadBase" then C_BadBase else 0) (fa := fun s => if s = "ROWS" then (.ref d_ROWS) else if s = "BOUNDS" then (.ref d_BOUNDS) else if s = "FORMS" then (.ref d_FORMS) else if s = "BITS" then (.ref d_BITS) else .ref 0) F25 nonfaP C15 C21 C24 C14 (PySem.W.mg_none_of X G z_isinstance) (PySem.W.mg_none_of X G z_int) (PySem.W.mg_none_of X G z_bool)
  have C25 : Callee l.prog w K mg base 5 f25 _ "_law_right" _ (spM (M.Env.mk K (fun s => if s = "BadRow" then C_BadRow else if s = "RunsError" then C_RunsError else if s = "Unlike" then C_Unlike else if s = "Unknown" then C_Unknown else if s = "Stray" then C_Stray else if s = "BadNumber" then C_BadNumber else if s = "BadLength" then C_BadLength else if s = "Twice" then C_Twice else if s = "BadName" then C_BadName else if s = "BadText" then C_BadText else if s = "BadDepth" then C_BadDepth else if s = "BadLine" then C_BadLine else if s = "BadSite" then C_BadSite else if s = "BadSpot" then C_BadSpot else if s = "BadFlow" then C_BadFlow else if s = "NoMain" then C_NoMain else if s = "Missing" then C_Missing else if s = "NoUnit" then C_NoUnit else if s = "BadFree" then C_BadFree else if s = "TooMany" then C_TooMany else if s = "BadPass" then C_BadPass else if s = "BadBase" then C_BadBase else 0) (fun s => if s = "ROWS" then (.ref d_ROWS) else if s = "BOUNDS" then (.ref d_BOUNDS) else if s = "FORMS" then (.ref d_FORMS) else if s = "BITS" then (.ref d_BITS) else .ref 0) none) 1 m__law_right) := ⟨O25, k25, B25, PySem.W.mg_of X G a25⟩
  have O26 := ok__law_base_told (P := l.prog) (w := w) (mg := mg) (base := base) (ca := fun s => if s = "BadRow" then C_BadRow else if s = "RunsError" then C_RunsError else if s = "Unlike" then C_Unlike else if s = "Unknown" then C_Unknown else if s = "Stray" then C_Stray else if s = "BadNumber" then C_BadNumber else if s = "BadLength" then C_BadLength else if s = "Twice" then C_Twice else if s = "BadName" then C_BadName else if s = "BadText" then C_BadText else if s = "BadDepth" then C_BadDepth else if s = "BadLine" then C_BadLine else if s = "BadSite" then C_BadSite else if s = "BadSpot" then C_BadSpot else if s = "BadFlow" then C_BadFlow else if s = "NoMain" then C_NoMain else if s = "Missing" then C_Missing else if s = "NoUnit" then C_NoUnit else if s = "BadFree" then C_BadFree else if s = "TooMany" then C_TooMany else if s = "BadPass" then C_BadPass else if s = "BadBase" then C_BadBase else 0) (fa := fun s => if s = "ROWS" then (.ref d_ROWS) else if s = "BOUNDS" then (.ref d_BOUNDS) else if s = "FORMS" then (.ref d_FORMS) else if s = "BITS" then (.ref d_BITS) else .ref 0) F26 ((if_neg (by decide +kernel)).trans (if_pos rfl)) (PySem.W.mg_of X G zc_RunsError) (if_pos rfl) (PySem.W.mg_of X G zc_BadRow) C20 (exm_own ze1_BadRow_RunsError ze2_BadRow_RunsError ze3_BadRow_RunsError ze4_BadRow_RunsError) ⟨⟨⟨_, _, _, _, _, _, _, _, _, _, _, _, _, _, _, xL_BadRow, by rfl⟩, xs_BadRow, xe_BadRow, xt_BadRow, xk_BadRow⟩, ⟨xg_BadRow, xh_BadRow, xe_BadRow, xd_BadRow⟩, ⟨xg_BadRow, xh_BadRow, xe_BadRow, xd_BadRow, xa_BadRow, xn_BadRow, xq_BadRow, xm_BadRow⟩, by intro f hf; simp only [List.mem_cons, List.not_mem_nil, or_false] at hf; rcases hf with rfl <;> assumption⟩ kit_self (PySem.W.mg_none_of X G z_isinstance)
  have C26 : Callee l.prog w K mg base 4 f26 _ "_law_base_told" _ (spM (M.Env.mk K (fun s => if s = "BadRow" then C_BadRow else if s = "RunsError" then C_RunsError else if s = "Unlike" then C_Unlike else if s = "Unknown" then C_Unknown else if s = "Stray" then C_Stray else if s = "BadNumber" then C_BadNumber else if s = "BadLength" then C_BadLength else if s = "Twice" then C_Twice else if s = "BadName" then C_BadName else if s = "BadText" then C_BadText else if s = "BadDepth" then C_BadDepth else if s = "BadLine" then C_BadLine else if s = "BadSite" then C_BadSite else if s = "BadSpot" then C_BadSpot else if s = "BadFlow" then C_BadFlow else if s = "NoMain" then C_NoMain else if s = "Missing" then C_Missing else if s = "NoUnit" then C_NoUnit else if s = "BadFree" then C_BadFree else if s = "TooMany" then C_TooMany else if s = "BadPass" then C_BadPass else if s = "BadBase" then C_BadBase else 0) (fun s => if s = "ROWS" then (.ref d_ROWS) else if s = "BOUNDS" then (.ref d_BOUNDS) else if s = "FORMS" then (.ref d_FORMS) else if s = "BITS" then (.ref d_BITS) else .ref 0) none) 1 m__law_base_told) := ⟨O26, k26, B26, PySem.W.mg_of X G a26⟩
  have O27 := ok_law (P := l.prog) (w := w) (mg := mg) (base := base) (ca := fun s => if s = "BadRow" then C_BadRow else if s = "RunsError" then C_RunsError else if s = "Unlike" then C_Unlike else if s = "Unknown" then C_Unknown else if s = "Stray" then C_Stray else if s = "BadNumber" then C_BadNumber else if s = "BadLength" then C_BadLength else if s = "Twice" then C_Twice else if s = "BadName" then C_BadName else if s = "BadText" then C_BadText else if s = "BadDepth" then C_BadDepth else if s = "BadLine" then C_BadLine else if s = "BadSite" then C_BadSite else if s = "BadSpot" then C_BadSpot else if s = "BadFlow" then C_BadFlow else if s = "NoMain" then C_NoMain else if s = "Missing" then C_Missing else if s = "NoUnit" then C_NoUnit else if s = "BadFree" then C_BadFree else if s = "TooMany" then C_TooMany else if s = "BadPass" then C_BadPass else if s = "BadBase" then C_BadBase else 0) (fa := fun s => if s = "ROWS" then (.ref d_ROWS) else if s = "BOUNDS" then (.ref d_BOUNDS) else if s = "FORMS" then (.ref d_FORMS) else if s = "BITS" then (.ref d_BITS) else .ref 0) F27 C0 C2 C3 C7 C9 C10 C13 C25 C26
  exact O27
end Lk08
open PySem PySem.W PyProof.Rows
set_option maxRecDepth 100000 in
set_option maxHeartbeats 0 in
theorem PySem.Challenge.cw_sameruns_k08_bad_rows_holds : PySem.Challenge.rw_sameruns_k08_bad_rows.Holds := by
  w_on; o_law; k_head; (case hw => w_witness2)
  k_fill
  refine L2.walk_of (l := PySem.Challenge.rw_sameruns_k08_bad_rows) (n := 63) (k := 6) (x := "script") (CX := fun _ => L2.CX0) (sp := fun w => M.spLaw _) rfl (by decide) rfl ⟨rfl, by decide, by decide⟩ (fun w h Y => PySem.W.kIn_of Y) ?F (fun _ _ a ns hl _ hS => ⟨a, ns, rfl, hS, hl, fun _ => rfl⟩) (fun _ _ _ _ _ h => h)
  case F =>
    intro w mg fa h KX G hmg
    refine' M.law_end Lk08.law_true (Lk08.all_mk KX G hmg ?zc_BadRow ?zc_RunsError ?zc_Unlike ?zc_Unknown ?zc_Stray ?zc_BadNumber ?zc_BadLength ?zc_Twice ?zc_BadName ?zc_BadText ?zc_BadDepth ?zc_BadLine ?zc_BadSite ?zc_BadSpot ?zc_BadFlow ?zc_NoMain ?zc_Missing ?zc_NoUnit ?zc_BadFree ?zc_TooMany ?zc_BadPass ?zc_BadBase ?a0 ?l0 ?c0 ?k0 ?a1 ?l1 ?c1 ?k1 ?a2 ?l2 ?c2 ?k2 ?a3 ?l3 ?c3 ?k3 ?a4 ?l4 ?c4 ?k4 ?a5 ?l5 ?c5 ?k5 ?a6 ?l6 ?c6 ?k6 ?a7 ?l7 ?c7 ?k7 ?a8 ?l8 ?c8 ?k8 ?a9 ?l9 ?c9 ?k9 ?a10 ?l10 ?c10 ?k10 ?a11 ?l11 ?c11 ?k11 ?a12 ?l12 ?c12 ?k12 ?a13 ?l13 ?c13 ?k13 ?a14 ?l14 ?c14 ?k14 ?a15 ?l15 ?c15 ?k15 ?a16 ?l16 ?c16 ?k16 ?a17 ?l17 ?c17 ?k17 ?a18 ?l18 ?c18 ?k18 ?a19 ?l19 ?c19 ?k19 ?a20 ?l20 ?c20 ?k20 ?a21 ?l21 ?c21 ?k21 ?a22 ?l22 ?c22 ?k22 ?a23 ?l23 ?c23 ?k23 ?a24 ?l24 ?c24 ?k24 ?a25 ?l25 ?c25 ?k25 ?a26 ?l26 ?c26 ?k26 ?a27 ?l27 ?c27 ?k27 ?z_list ?z_len ?z_abs ?z_int ?z_max ?z_tuple ?z_range ?z_enumerate ?z_zip ?z_isinstance ?z_ValueError ?z_bool ?zA_FORMS ?zD_FORMS ?zL_FORMS ?zS_FORMS ?ze_FORMS_k0 ?zy_FORMS_k0 ?zx_FORMS_k0 ?zw_FORMS_k0 ?ze_FORMS_k1 ?zy_FORMS_k1 ?zx_FORMS_k1 ?zw_FORMS_k1 ?ze_FORMS_k2 ?zy_FORMS_k2 ?zx_FORMS_k2 ?zw_FORMS_k2 ?ze_FORMS_k3 ?zy_FORMS_k3 ?zx_FORMS_k3 ?zw_FORMS_k3 ?ze_FORMS_k4 ?zy_FORMS_k4 ?zx_FORMS_k4 ?zw_FORMS_k4 ?ze_FORMS_k5 ?zy_FORMS_k5 ?zx_FORMS_k5 ?zw_FORMS_k5 ?ze_FORMS_k6 ?zy_FORMS_k6 ?zx_FORMS_k6 ?zw_FORMS_k6 ?ze_FORMS_k7 ?zy_FORMS_k7 ?zx_FORMS_k7 ?zw_FORMS_k7 ?zA_ROWS ?zD_ROWS ?zL_ROWS ?zS_ROWS ?ze_ROWS_k0 ?zy_ROWS_k0 ?zx_ROWS_k0 ?zw_ROWS_k0 ?ze_ROWS_k1 ?zy_ROWS_k1 ?zx_ROWS_k1 ?zw_ROWS_k1 ?ze_ROWS_k2 ?zy_ROWS_k2 ?zx_ROWS_k2 ?zw_ROWS_k2 ?ze_ROWS_k3 ?zy_ROWS_k3 ?zx_ROWS_k3 ?zw_ROWS_k3 ?ze_ROWS_k4 ?zy_ROWS_k4 ?zx_ROWS_k4 ?zw_ROWS_k4 ?ze_ROWS_k5 ?zy_ROWS_k5 ?zx_ROWS_k5 ?zw_ROWS_k5 ?ze_ROWS_k6 ?zy_ROWS_k6 ?zx_ROWS_k6 ?zw_ROWS_k6 ?ze_ROWS_k7 ?zy_ROWS_k7 ?zx_ROWS_k7 ?zw_ROWS_k7 ?ze_ROWS_k8 ?zy_ROWS_k8 ?zx_ROWS_k8 ?zw_ROWS_k8 ?ze_ROWS_k9 ?zy_ROWS_k9 ?zx_ROWS_k9 ?zw_ROWS_k9 ?ze_ROWS_k10 ?zy_ROWS_k10 ?zx_ROWS_k10 ?zw_ROWS_k10 ?ze_ROWS_k11 ?zy_ROWS_k11 ?zx_ROWS_k11 ?zw_ROWS_k11 ?ze_ROWS_k12 ?zy_ROWS_k12 ?zx_ROWS_k12 ?zw_ROWS_k12 ?ze_ROWS_k13 ?zy_ROWS_k13 ?zx_ROWS_k13 ?zw_ROWS_k13 ?ze_ROWS_k14 ?zy_ROWS_k14 ?zx_ROWS_k14 ?zw_ROWS_k14 ?ze_ROWS_k15 ?zy_ROWS_k15 ?zx_ROWS_k15 ?zw_ROWS_k15 ?ze_ROWS_k16 ?zy_ROWS_k16 ?zx_ROWS_k16 ?zw_ROWS_k16 ?ze_ROWS_k17 ?zy_ROWS_k17 ?zx_ROWS_k17 ?zw_ROWS_k17 ?ze_ROWS_k18 ?zy_ROWS_k18 ?zx_ROWS_k18 ?zw_ROWS_k18 ?ze_ROWS_k19 ?zy_ROWS_k19 ?zx_ROWS_k19 ?zw_ROWS_k19 ?ze_ROWS_k20 ?zy_ROWS_k20 ?zx_ROWS_k20 ?zw_ROWS_k20 ?ze_ROWS_k21 ?zy_ROWS_k21 ?zx_ROWS_k21 ?zw_ROWS_k21 ?ze_ROWS_k22 ?zy_ROWS_k22 ?zx_ROWS_k22 ?zw_ROWS_k22 ?ze_ROWS_k23 ?zy_ROWS_k23 ?zx_ROWS_k23 ?zw_ROWS_k23 ?ze_ROWS_k24 ?zy_ROWS_k24 ?zx_ROWS_k24 ?zw_ROWS_k24 ?ze_ROWS_k25 ?zy_ROWS_k25 ?zx_ROWS_k25 ?zw_ROWS_k25 ?ze_ROWS_k26 ?zy_ROWS_k26 ?zx_ROWS_k26 ?zw_ROWS_k26 ?ze_ROWS_k27 ?zy_ROWS_k27 ?zx_ROWS_k27 ?zw_ROWS_k27 ?ze_ROWS_k28 ?zy_ROWS_k28 ?zx_ROWS_k28 ?zw_ROWS_k28 ?ze_ROWS_k29 ?zy_ROWS_k29 ?zx_ROWS_k29 ?zw_ROWS_k29 ?ze_ROWS_k30 ?zy_ROWS_k30 ?zx_ROWS_k30 ?zw_ROWS_k30 ?ze_ROWS_k31 ?zy_ROWS_k31 ?zx_ROWS_k31 ?zw_ROWS_k31 ?ze_ROWS_k32 ?zy_ROWS_k32 ?zx_ROWS_k32 ?zw_ROWS_k32 ?ze_ROWS_k33 ?zy_ROWS_k33 ?zx_ROWS_k33 ?zw_ROWS_k33 ?ze_ROWS_k34 ?zy_ROWS_k34 ?zx_ROWS_k34 ?zw_ROWS_k34 ?ze_ROWS_k35 ?zy_ROWS_k35 ?zx_ROWS_k35 ?zw_ROWS_k35 ?ze_ROWS_k36 ?zy_ROWS_k36 ?zx_ROWS_k36 ?zw_ROWS_k36 ?ze_ROWS_k37 ?zy_ROWS_k37 ?zx_ROWS_k37 ?zw_ROWS_k37 ?ze_ROWS_k38 ?zy_ROWS_k38 ?zx_ROWS_k38 ?zw_ROWS_k38 ?ze_ROWS_k39 ?zy_ROWS_k39 ?zx_ROWS_k39 ?zw_ROWS_k39 ?ze_ROWS_k40 ?zy_ROWS_k40 ?zx_ROWS_k40 ?zw_ROWS_k40 ?zI_ROWS ?zA_BOUNDS ?zD_BOUNDS ?zL_BOUNDS ?zS_BOUNDS ?ze_BOUNDS_k0 ?zy_BOUNDS_k0 ?zx_BOUNDS_k0 ?zw_BOUNDS_k0 ?ze_BOUNDS_k1 ?zy_BOUNDS_k1 ?zx_BOUNDS_k1 ?zw_BOUNDS_k1 ?ze_BOUNDS_k2 ?zy_BOUNDS_k2 ?zx_BOUNDS_k2 ?zw_BOUNDS_k2 ?ze_BOUNDS_k3 ?zy_BOUNDS_k3 ?zx_BOUNDS_k3 ?zw_BOUNDS_k3 ?ze_BOUNDS_k4 ?zy_BOUNDS_k4 ?zx_BOUNDS_k4 ?zw_BOUNDS_k4 ?ze_BOUNDS_k5 ?zy_BOUNDS_k5 ?zx_BOUNDS_k5 ?zw_BOUNDS_k5 ?ze_BOUNDS_k6 ?zy_BOUNDS_k6 ?zx_BOUNDS_k6 ?zw_BOUNDS_k6 ?ze_BOUNDS_k7 ?zy_BOUNDS_k7 ?zx_BOUNDS_k7 ?zw_BOUNDS_k7 ?ze_BOUNDS_k8 ?zy_BOUNDS_k8 ?zx_BOUNDS_k8 ?zw_BOUNDS_k8 ?zA_BITS ?zD_BITS ?zL_BITS ?zS_BITS ?ze_BITS_k0 ?zy_BITS_k0 ?zx_BITS_k0 ?zw_BITS_k0 ?zy_BITS_k0_0 ?zx_BITS_k0_0 ?zw_BITS_k0_0 ?ze_BITS_k1 ?zy_BITS_k1 ?zx_BITS_k1 ?zw_BITS_k1 ?zy_BITS_k1_0 ?zx_BITS_k1_0 ?zw_BITS_k1_0 ?ze_BITS_k2 ?zy_BITS_k2 ?zx_BITS_k2 ?zw_BITS_k2 ?zy_BITS_k2_0 ?zx_BITS_k2_0 ?zw_BITS_k2_0 ?ze_BITS_k3 ?zy_BITS_k3 ?zx_BITS_k3 ?zw_BITS_k3 ?zy_BITS_k3_0 ?zx_BITS_k3_0 ?zw_BITS_k3_0 ?ze_BITS_k4 ?zy_BITS_k4 ?zx_BITS_k4 ?zw_BITS_k4 ?zy_BITS_k4_0 ?zx_BITS_k4_0 ?zw_BITS_k4_0 ?ze_BITS_k5 ?zy_BITS_k5 ?zx_BITS_k5 ?zw_BITS_k5 ?zy_BITS_k5_0 ?zx_BITS_k5_0 ?zw_BITS_k5_0 ?zy_BITS_k5_1 ?zx_BITS_k5_1 ?zw_BITS_k5_1 ?ze_BITS_k6 ?zy_BITS_k6 ?zx_BITS_k6 ?zw_BITS_k6 ?zy_BITS_k6_0 ?zx_BITS_k6_0 ?zw_BITS_k6_0 ?ze_BITS_k7 ?zy_BITS_k7 ?zx_BITS_k7 ?zw_BITS_k7 ?zy_BITS_k7_0 ?zx_BITS_k7_0 ?zw_BITS_k7_0 ?zy_BITS_k7_1 ?zx_BITS_k7_1 ?zw_BITS_k7_1 ?zy_BITS_k7_2 ?zx_BITS_k7_2 ?zw_BITS_k7_2 ?zy_BITS_k7_3 ?zx_BITS_k7_3 ?zw_BITS_k7_3 ?ze_BITS_k8 ?zy_BITS_k8 ?zx_BITS_k8 ?zw_BITS_k8 ?zy_BITS_k8_0 ?zx_BITS_k8_0 ?zw_BITS_k8_0 ?zy_BITS_k8_1 ?zx_BITS_k8_1 ?zw_BITS_k8_1 ?zy_BITS_k8_2 ?zx_BITS_k8_2 ?zw_BITS_k8_2 ?zy_BITS_k8_3 ?zx_BITS_k8_3 ?zw_BITS_k8_3 ?xL_BadRow ?xs_BadRow ?xe_BadRow ?xt_BadRow ?xk_BadRow ?xg_BadRow ?xh_BadRow ?xd_BadRow ?xa_BadRow ?xn_BadRow ?xq_BadRow ?xm_BadRow ?xf_index_BadRow ?jt_BadRow ?ze1_BadRow_BadRow ?ze2_BadRow_BadRow ?ze3_BadRow_BadRow ?ze4_BadRow_BadRow ?zk1_BadRow_Unlike ?zk2_BadRow_Unlike ?zk3_BadRow_Unlike ?zk4_BadRow_Unlike ?zk1_BadRow_Unknown ?zk2_BadRow_Unknown ?zk3_BadRow_Unknown ?zk4_BadRow_Unknown ?zk1_BadRow_Stray ?zk2_BadRow_Stray ?zk3_BadRow_Stray ?zk4_BadRow_Stray ?zk1_BadRow_BadNumber ?zk2_BadRow_BadNumber ?zk3_BadRow_BadNumber ?zk4_BadRow_BadNumber ?zk1_BadRow_BadLength ?zk2_BadRow_BadLength ?zk3_BadRow_BadLength ?zk4_BadRow_BadLength ?zk1_BadRow_Twice ?zk2_BadRow_Twice ?zk3_BadRow_Twice ?zk4_BadRow_Twice ?zk1_BadRow_BadName ?zk2_BadRow_BadName ?zk3_BadRow_BadName ?zk4_BadRow_BadName ?zk1_BadRow_BadText ?zk2_BadRow_BadText ?zk3_BadRow_BadText ?zk4_BadRow_BadText ?zk1_BadRow_BadDepth ?zk2_BadRow_BadDepth ?zk3_BadRow_BadDepth ?zk4_BadRow_BadDepth ?zk1_BadRow_BadLine ?zk2_BadRow_BadLine ?zk3_BadRow_BadLine ?zk4_BadRow_BadLine ?zk1_BadRow_BadSite ?zk2_BadRow_BadSite ?zk3_BadRow_BadSite ?zk4_BadRow_BadSite ?zk1_BadRow_BadSpot ?zk2_BadRow_BadSpot ?zk3_BadRow_BadSpot ?zk4_BadRow_BadSpot ?zk1_BadRow_BadFlow ?zk2_BadRow_BadFlow ?zk3_BadRow_BadFlow ?zk4_BadRow_BadFlow ?zk1_BadRow_NoMain ?zk2_BadRow_NoMain ?zk3_BadRow_NoMain ?zk4_BadRow_NoMain ?zk1_BadRow_Missing ?zk2_BadRow_Missing ?zk3_BadRow_Missing ?zk4_BadRow_Missing ?zk1_BadRow_NoUnit ?zk2_BadRow_NoUnit ?zk3_BadRow_NoUnit ?zk4_BadRow_NoUnit ?zk1_BadRow_BadFree ?zk2_BadRow_BadFree ?zk3_BadRow_BadFree ?zk4_BadRow_BadFree ?zk1_BadRow_TooMany ?zk2_BadRow_TooMany ?zk3_BadRow_TooMany ?zk4_BadRow_TooMany ?zk1_BadRow_BadPass ?zk2_BadRow_BadPass ?zk3_BadRow_BadPass ?zk4_BadRow_BadPass ?zk1_BadRow_BadBase ?zk2_BadRow_BadBase ?zk3_BadRow_BadBase ?zk4_BadRow_BadBase ?zk1_BadRow_RunsError ?zk2_BadRow_RunsError ?zk3_BadRow_RunsError ?zk4_BadRow_RunsError ?zk3_BadRow_ValueError ?ze1_BadRow_RunsError ?ze2_BadRow_RunsError ?ze3_BadRow_RunsError ?ze4_BadRow_RunsError)
    (case zc_BadRow => k_is); (case zc_RunsError => k_is); (case zc_Unlike => k_is); (case zc_Unknown => k_is); (case zc_Stray => k_is); (case zc_BadNumber => k_is); (case zc_BadLength => k_is); (case zc_Twice => k_is); (case zc_BadName => k_is); (case zc_BadText => k_is); (case zc_BadDepth => k_is); (case zc_BadLine => k_is); (case zc_BadSite => k_is); (case zc_BadSpot => k_is); (case zc_BadFlow => k_is); (case zc_NoMain => k_is); (case zc_Missing => k_is); (case zc_NoUnit => k_is); (case zc_BadFree => k_is); (case zc_TooMany => k_is); (case zc_BadPass => k_is); (case zc_BadBase => k_is); (case a0 => k_is); (case l0 => k_is); (case c0 => k_is); (case k0 => k_is); (case a1 => k_is); (case l1 => k_is); (case c1 => k_is); (case k1 => k_is); (case a2 => k_is); (case l2 => k_is); (case c2 => k_is); (case k2 => k_is); (case a3 => k_is); (case l3 => k_is); (case c3 => k_is); (case k3 => k_is); (case a4 => k_is); (case l4 => k_is); (case c4 => k_is); (case k4 => k_is); (case a5 => k_is); (case l5 => k_is); (case c5 => k_is); (case k5 => k_is); (case a6 => k_is); (case l6 => k_is); (case c6 => k_is); (case k6 => k_is); (case a7 => k_is); (case l7 => k_is); (case c7 => k_is); (case k7 => k_is); (case a8 => k_is); (case l8 => k_is); (case c8 => k_is); (case k8 => k_is); (case a9 => k_is); (case l9 => k_is); (case c9 => k_is); (case k9 => k_is); (case a10 => k_is); (case l10 => k_is); (case c10 => k_is); (case k10 => k_is); (case a11 => k_is); (case l11 => k_is); (case c11 => k_is); (case k11 => k_is); (case a12 => k_is); (case l12 => k_is); (case c12 => k_is); (case k12 => k_is); (case a13 => k_is); (case l13 => k_is); (case c13 => k_is); (case k13 => k_is); (case a14 => k_is); (case l14 => k_is); (case c14 => k_is); (case k14 => k_is); (case a15 => k_is); (case l15 => k_is); (case c15 => k_is); (case k15 => k_is); (case a16 => k_is); (case l16 => k_is); (case c16 => k_is); (case k16 => k_is); (case a17 => k_is); (case l17 => k_is); (case c17 => k_is); (case k17 => k_is); (case a18 => k_is); (case l18 => k_is); (case c18 => k_is); (case k18 => k_is); (case a19 => k_is); (case l19 => k_is); (case c19 => k_is); (case k19 => k_is); (case a20 => k_is); (case l20 => k_is); (case c20 => k_is); (case k20 => k_is); (case a21 => k_is); (case l21 => k_is); (case c21 => k_is); (case k21 => k_is); (case a22 => k_is); (case l22 => k_is); (case c22 => k_is); (case k22 => k_is); (case a23 => k_is); (case l23 => k_is); (case c23 => k_is); (case k23 => k_is); (case a24 => k_is); (case l24 => k_is); (case c24 => k_is); (case k24 => k_is); (case a25 => k_is); (case l25 => k_is); (case c25 => k_is); (case k25 => k_is); (case a26 => k_is); (case l26 => k_is); (case c26 => k_is); (case k26 => k_is); (case a27 => k_is); (case l27 => k_is); (case c27 => k_is); (case k27 => k_is); (case z_list => k_is); (case z_len => k_is); (case z_abs => k_is); (case z_int => k_is); (case z_max => k_is); (case z_tuple => k_is); (case z_range => k_is); (case z_enumerate => k_is); (case z_zip => k_is); (case z_isinstance => k_is); (case z_ValueError => k_is); (case z_bool => k_is); (case zA_FORMS => k_is); (case zD_FORMS => k_is); (case zL_FORMS => (exact ⟨⟨_, _, rfl, rfl⟩, ⟨_, _, rfl, rfl⟩, ⟨_, _, rfl, rfl⟩, ⟨_, _, rfl, rfl⟩, ⟨_, _, rfl, rfl⟩, ⟨_, _, rfl, rfl⟩, ⟨_, _, rfl, rfl⟩, ⟨_, _, rfl, rfl⟩, trivial⟩)); (case zS_FORMS => rfl); (case ze_FORMS_k0 => k_is); (case zy_FORMS_k0 => k_is); (case zx_FORMS_k0 => decide); (case zw_FORMS_k0 => (repeat' (first | exact .nil | refine .cons ⟨_, rfl⟩ ?_ | refine .cons rfl ?_))); (case ze_FORMS_k1 => k_is); (case zy_FORMS_k1 => k_is); (case zx_FORMS_k1 => decide); (case zw_FORMS_k1 => (repeat' (first | exact .nil | refine .cons ⟨_, rfl⟩ ?_ | refine .cons rfl ?_))); (case ze_FORMS_k2 => k_is); (case zy_FORMS_k2 => k_is); (case zx_FORMS_k2 => decide); (case zw_FORMS_k2 => (repeat' (first | exact .nil | refine .cons ⟨_, rfl⟩ ?_ | refine .cons rfl ?_))); (case ze_FORMS_k3 => k_is); (case zy_FORMS_k3 => k_is); (case zx_FORMS_k3 => decide); (case zw_FORMS_k3 => (repeat' (first | exact .nil | refine .cons ⟨_, rfl⟩ ?_ | refine .cons rfl ?_))); (case ze_FORMS_k4 => k_is); (case zy_FORMS_k4 => k_is); (case zx_FORMS_k4 => decide); (case zw_FORMS_k4 => (repeat' (first | exact .nil | refine .cons ⟨_, rfl⟩ ?_ | refine .cons rfl ?_))); (case ze_FORMS_k5 => k_is); (case zy_FORMS_k5 => k_is); (case zx_FORMS_k5 => decide); (case zw_FORMS_k5 => (repeat' (first | exact .nil | refine .cons ⟨_, rfl⟩ ?_ | refine .cons rfl ?_))); (case ze_FORMS_k6 => k_is); (case zy_FORMS_k6 => k_is); (case zx_FORMS_k6 => decide); (case zw_FORMS_k6 => (repeat' (first | exact .nil | refine .cons ⟨_, rfl⟩ ?_ | refine .cons rfl ?_))); (case ze_FORMS_k7 => k_is); (case zy_FORMS_k7 => k_is); (case zx_FORMS_k7 => decide); (case zw_FORMS_k7 => (repeat' (first | exact .nil | refine .cons ⟨_, rfl⟩ ?_ | refine .cons rfl ?_))); (case zA_ROWS => k_is); (case zD_ROWS => k_is); (case zL_ROWS => (exact ⟨⟨_, _, rfl, rfl⟩, ⟨_, _, rfl, rfl⟩, ⟨_, _, rfl, rfl⟩, ⟨_, _, rfl, rfl⟩, ⟨_, _, rfl, rfl⟩, ⟨_, _, rfl, rfl⟩, ⟨_, _, rfl, rfl⟩, ⟨_, _, rfl, rfl⟩, ⟨_, _, rfl, rfl⟩, ⟨_, _, rfl, rfl⟩, ⟨_, _, rfl, rfl⟩, ⟨_, _, rfl, rfl⟩, ⟨_, _, rfl, rfl⟩, ⟨_, _, rfl, rfl⟩, ⟨_, _, rfl, rfl⟩, ⟨_, _, rfl, rfl⟩, ⟨_, _, rfl, rfl⟩, ⟨_, _, rfl, rfl⟩, ⟨_, _, rfl, rfl⟩, ⟨_, _, rfl, rfl⟩, ⟨_, _, rfl, rfl⟩, ⟨_, _, rfl, rfl⟩, ⟨_, _, rfl, rfl⟩, ⟨_, _, rfl, rfl⟩, ⟨_, _, rfl, rfl⟩, ⟨_, _, rfl, rfl⟩, ⟨_, _, rfl, rfl⟩, ⟨_, _, rfl, rfl⟩, ⟨_, _, rfl, rfl⟩, ⟨_, _, rfl, rfl⟩, ⟨_, _, rfl, rfl⟩, ⟨_, _, rfl, rfl⟩, ⟨_, _, rfl, rfl⟩, ⟨_, _, rfl, rfl⟩, ⟨_, _, rfl, rfl⟩, ⟨_, _, rfl, rfl⟩, ⟨_, _, rfl, rfl⟩, ⟨_, _, rfl, rfl⟩, ⟨_, _, rfl, rfl⟩, ⟨_, _, rfl, rfl⟩, ⟨_, _, rfl, rfl⟩, trivial⟩)); (case zS_ROWS => rfl); (case ze_ROWS_k0 => k_is); (case zy_ROWS_k0 => k_is); (case zx_ROWS_k0 => decide); (case zw_ROWS_k0 => (repeat' (first | exact .nil | refine .cons ⟨_, rfl⟩ ?_ | refine .cons rfl ?_))); (case ze_ROWS_k1 => k_is); (case zy_ROWS_k1 => k_is); (case zx_ROWS_k1 => decide); (case zw_ROWS_k1 => (repeat' (first | exact .nil | refine .cons ⟨_, rfl⟩ ?_ | refine .cons rfl ?_))); (case ze_ROWS_k2 => k_is); (case zy_ROWS_k2 => k_is); (case zx_ROWS_k2 => decide); (case zw_ROWS_k2 => (repeat' (first | exact .nil | refine .cons ⟨_, rfl⟩ ?_ | refine .cons rfl ?_))); (case ze_ROWS_k3 => k_is); (case zy_ROWS_k3 => k_is); (case zx_ROWS_k3 => decide); (case zw_ROWS_k3 => (repeat' (first | exact .nil | refine .cons ⟨_, rfl⟩ ?_ | refine .cons rfl ?_))); (case ze_ROWS_k4 => k_is); (case zy_ROWS_k4 => k_is); (case zx_ROWS_k4 => decide); (case zw_ROWS_k4 => (repeat' (first | exact .nil | refine .cons ⟨_, rfl⟩ ?_ | refine .cons rfl ?_))); (case ze_ROWS_k5 => k_is); (case zy_ROWS_k5 => k_is); (case zx_ROWS_k5 => decide); (case zw_ROWS_k5 => (repeat' (first | exact .nil | refine .cons ⟨_, rfl⟩ ?_ | refine .cons rfl ?_))); (case ze_ROWS_k6 => k_is); (case zy_ROWS_k6 => k_is); (case zx_ROWS_k6 => decide); (case zw_ROWS_k6 => (repeat' (first | exact .nil | refine .cons ⟨_, rfl⟩ ?_ | refine .cons rfl ?_))); (case ze_ROWS_k7 => k_is); (case zy_ROWS_k7 => k_is); (case zx_ROWS_k7 => decide); (case zw_ROWS_k7 => (repeat' (first | exact .nil | refine .cons ⟨_, rfl⟩ ?_ | refine .cons rfl ?_))); (case ze_ROWS_k8 => k_is); (case zy_ROWS_k8 => k_is); (case zx_ROWS_k8 => decide); (case zw_ROWS_k8 => (repeat' (first | exact .nil | refine .cons ⟨_, rfl⟩ ?_ | refine .cons rfl ?_))); (case ze_ROWS_k9 => k_is); (case zy_ROWS_k9 => k_is); (case zx_ROWS_k9 => decide); (case zw_ROWS_k9 => (repeat' (first | exact .nil | refine .cons ⟨_, rfl⟩ ?_ | refine .cons rfl ?_))); (case ze_ROWS_k10 => k_is); (case zy_ROWS_k10 => k_is); (case zx_ROWS_k10 => decide); (case zw_ROWS_k10 => (repeat' (first | exact .nil | refine .cons ⟨_, rfl⟩ ?_ | refine .cons rfl ?_))); (case ze_ROWS_k11 => k_is); (case zy_ROWS_k11 => k_is); (case zx_ROWS_k11 => decide); (case zw_ROWS_k11 => (repeat' (first | exact .nil | refine .cons ⟨_, rfl⟩ ?_ | refine .cons rfl ?_))); (case ze_ROWS_k12 => k_is); (case zy_ROWS_k12 => k_is); (case zx_ROWS_k12 => decide); (case zw_ROWS_k12 => (repeat' (first | exact .nil | refine .cons ⟨_, rfl⟩ ?_ | refine .cons rfl ?_))); (case ze_ROWS_k13 => k_is); (case zy_ROWS_k13 => k_is); (case zx_ROWS_k13 => decide); (case zw_ROWS_k13 => (repeat' (first | exact .nil | refine .cons ⟨_, rfl⟩ ?_ | refine .cons rfl ?_))); (case ze_ROWS_k14 => k_is); (case zy_ROWS_k14 => k_is); (case zx_ROWS_k14 => decide); (case zw_ROWS_k14 => (repeat' (first | exact .nil | refine .cons ⟨_, rfl⟩ ?_ | refine .cons rfl ?_))); (case ze_ROWS_k15 => k_is); (case zy_ROWS_k15 => k_is); (case zx_ROWS_k15 => decide); (case zw_ROWS_k15 => (repeat' (first | exact .nil | refine .cons ⟨_, rfl⟩ ?_ | refine .cons rfl ?_))); (case ze_ROWS_k16 => k_is); (case zy_ROWS_k16 => k_is); (case zx_ROWS_k16 => decide); (case zw_ROWS_k16 => (repeat' (first | exact .nil | refine .cons ⟨_, rfl⟩ ?_ | refine .cons rfl ?_))); (case ze_ROWS_k17 => k_is); (case zy_ROWS_k17 => k_is); (case zx_ROWS_k17 => decide); (case zw_ROWS_k17 => (repeat' (first | exact .nil | refine .cons ⟨_, rfl⟩ ?_ | refine .cons rfl ?_))); (case ze_ROWS_k18 => k_is); (case zy_ROWS_k18 => k_is); (case zx_ROWS_k18 => decide); (case zw_ROWS_k18 => (repeat' (first | exact .nil | refine .cons ⟨_, rfl⟩ ?_ | refine .cons rfl ?_))); (case ze_ROWS_k19 => k_is); (case zy_ROWS_k19 => k_is); (case zx_ROWS_k19 => decide); (case zw_ROWS_k19 => (repeat' (first | exact .nil | refine .cons ⟨_, rfl⟩ ?_ | refine .cons rfl ?_))); (case ze_ROWS_k20 => k_is); (case zy_ROWS_k20 => k_is); (case zx_ROWS_k20 => decide); (case zw_ROWS_k20 => (repeat' (first | exact .nil | refine .cons ⟨_, rfl⟩ ?_ | refine .cons rfl ?_))); (case ze_ROWS_k21 => k_is); (case zy_ROWS_k21 => k_is); (case zx_ROWS_k21 => decide); (case zw_ROWS_k21 => (repeat' (first | exact .nil | refine .cons ⟨_, rfl⟩ ?_ | refine .cons rfl ?_))); (case ze_ROWS_k22 => k_is); (case zy_ROWS_k22 => k_is); (case zx_ROWS_k22 => decide); (case zw_ROWS_k22 => (repeat' (first | exact .nil | refine .cons ⟨_, rfl⟩ ?_ | refine .cons rfl ?_))); (case ze_ROWS_k23 => k_is); (case zy_ROWS_k23 => k_is); (case zx_ROWS_k23 => decide); (case zw_ROWS_k23 => (repeat' (first | exact .nil | refine .cons ⟨_, rfl⟩ ?_ | refine .cons rfl ?_))); (case ze_ROWS_k24 => k_is); (case zy_ROWS_k24 => k_is); (case zx_ROWS_k24 => decide); (case zw_ROWS_k24 => (repeat' (first | exact .nil | refine .cons ⟨_, rfl⟩ ?_ | refine .cons rfl ?_))); (case ze_ROWS_k25 => k_is); (case zy_ROWS_k25 => k_is); (case zx_ROWS_k25 => decide); (case zw_ROWS_k25 => (repeat' (first | exact .nil | refine .cons ⟨_, rfl⟩ ?_ | refine .cons rfl ?_))); (case ze_ROWS_k26 => k_is); (case zy_ROWS_k26 => k_is); (case zx_ROWS_k26 => decide); (case zw_ROWS_k26 => (repeat' (first | exact .nil | refine .cons ⟨_, rfl⟩ ?_ | refine .cons rfl ?_))); (case ze_ROWS_k27 => k_is); (case zy_ROWS_k27 => k_is); (case zx_ROWS_k27 => decide); (case zw_ROWS_k27 => (repeat' (first | exact .nil | refine .cons ⟨_, rfl⟩ ?_ | refine .cons rfl ?_))); (case ze_ROWS_k28 => k_is); (case zy_ROWS_k28 => k_is); (case zx_ROWS_k28 => decide); (case zw_ROWS_k28 => (repeat' (first | exact .nil | refine .cons ⟨_, rfl⟩ ?_ | refine .cons rfl ?_))); (case ze_ROWS_k29 => k_is); (case zy_ROWS_k29 => k_is); (case zx_ROWS_k29 => decide); (case zw_ROWS_k29 => (repeat' (first | exact .nil | refine .cons ⟨_, rfl⟩ ?_ | refine .cons rfl ?_))); (case ze_ROWS_k30 => k_is); (case zy_ROWS_k30 => k_is); (case zx_ROWS_k30 => decide); (case zw_ROWS_k30 => (repeat' (first | exact .nil | refine .cons ⟨_, rfl⟩ ?_ | refine .cons rfl ?_))); (case ze_ROWS_k31 => k_is); (case zy_ROWS_k31 => k_is); (case zx_ROWS_k31 => decide); (case zw_ROWS_k31 => (repeat' (first | exact .nil | refine .cons ⟨_, rfl⟩ ?_ | refine .cons rfl ?_))); (case ze_ROWS_k32 => k_is); (case zy_ROWS_k32 => k_is); (case zx_ROWS_k32 => decide); (case zw_ROWS_k32 => (repeat' (first | exact .nil | refine .cons ⟨_, rfl⟩ ?_ | refine .cons rfl ?_))); (case ze_ROWS_k33 => k_is); (case zy_ROWS_k33 => k_is); (case zx_ROWS_k33 => decide); (case zw_ROWS_k33 => (repeat' (first | exact .nil | refine .cons ⟨_, rfl⟩ ?_ | refine .cons rfl ?_))); (case ze_ROWS_k34 => k_is); (case zy_ROWS_k34 => k_is); (case zx_ROWS_k34 => decide); (case zw_ROWS_k34 => (repeat' (first | exact .nil | refine .cons ⟨_, rfl⟩ ?_ | refine .cons rfl ?_))); (case ze_ROWS_k35 => k_is); (case zy_ROWS_k35 => k_is); (case zx_ROWS_k35 => decide); (case zw_ROWS_k35 => (repeat' (first | exact .nil | refine .cons ⟨_, rfl⟩ ?_ | refine .cons rfl ?_))); (case ze_ROWS_k36 => k_is); (case zy_ROWS_k36 => k_is); (case zx_ROWS_k36 => decide); (case zw_ROWS_k36 => (repeat' (first | exact .nil | refine .cons ⟨_, rfl⟩ ?_ | refine .cons rfl ?_))); (case ze_ROWS_k37 => k_is); (case zy_ROWS_k37 => k_is); (case zx_ROWS_k37 => decide); (case zw_ROWS_k37 => (repeat' (first | exact .nil | refine .cons ⟨_, rfl⟩ ?_ | refine .cons rfl ?_))); (case ze_ROWS_k38 => k_is); (case zy_ROWS_k38 => k_is); (case zx_ROWS_k38 => decide); (case zw_ROWS_k38 => (repeat' (first | exact .nil | refine .cons ⟨_, rfl⟩ ?_ | refine .cons rfl ?_))); (case ze_ROWS_k39 => k_is); (case zy_ROWS_k39 => k_is); (case zx_ROWS_k39 => decide); (case zw_ROWS_k39 => (repeat' (first | exact .nil | refine .cons ⟨_, rfl⟩ ?_ | refine .cons rfl ?_))); (case ze_ROWS_k40 => k_is); (case zy_ROWS_k40 => k_is); (case zx_ROWS_k40 => decide); (case zw_ROWS_k40 => (repeat' (first | exact .nil | refine .cons ⟨_, rfl⟩ ?_ | refine .cons rfl ?_))); (case zI_ROWS => (exact ⟨⟨⟨_, rfl⟩, rfl⟩, ⟨⟨_, rfl⟩, rfl⟩, ⟨⟨_, rfl⟩, rfl⟩, ⟨⟨_, rfl⟩, rfl⟩, ⟨⟨_, rfl⟩, rfl⟩, ⟨⟨_, rfl⟩, rfl⟩, ⟨⟨_, rfl⟩, rfl⟩, ⟨⟨_, rfl⟩, rfl⟩, ⟨⟨_, rfl⟩, rfl⟩, ⟨⟨_, rfl⟩, rfl⟩, ⟨⟨_, rfl⟩, rfl⟩, ⟨⟨_, rfl⟩, rfl⟩, ⟨⟨_, rfl⟩, rfl⟩, ⟨⟨_, rfl⟩, rfl⟩, ⟨⟨_, rfl⟩, rfl⟩, ⟨⟨_, rfl⟩, rfl⟩, ⟨⟨_, rfl⟩, rfl⟩, ⟨⟨_, rfl⟩, rfl⟩, ⟨⟨_, rfl⟩, rfl⟩, ⟨⟨_, rfl⟩, rfl⟩, ⟨⟨_, rfl⟩, rfl⟩, ⟨⟨_, rfl⟩, rfl⟩, ⟨⟨_, rfl⟩, rfl⟩, ⟨⟨_, rfl⟩, rfl⟩, ⟨⟨_, rfl⟩, rfl⟩, ⟨⟨_, rfl⟩, rfl⟩, ⟨⟨_, rfl⟩, rfl⟩, ⟨⟨_, rfl⟩, rfl⟩, ⟨⟨_, rfl⟩, rfl⟩, ⟨⟨_, rfl⟩, rfl⟩, ⟨⟨_, rfl⟩, rfl⟩, ⟨⟨_, rfl⟩, rfl⟩, ⟨⟨_, rfl⟩, rfl⟩, ⟨⟨_, rfl⟩, rfl⟩, ⟨⟨_, rfl⟩, rfl⟩, ⟨⟨_, rfl⟩, rfl⟩, ⟨⟨_, rfl⟩, rfl⟩, ⟨⟨_, rfl⟩, rfl⟩, ⟨⟨_, rfl⟩, rfl⟩, ⟨⟨_, rfl⟩, rfl⟩, ⟨⟨_, rfl⟩, rfl⟩, trivial⟩)); (case zA_BOUNDS => k_is); (case zD_BOUNDS => k_is); (case zL_BOUNDS => (exact ⟨⟨_, _, rfl, rfl⟩, ⟨_, _, rfl, rfl⟩, ⟨_, _, rfl, rfl⟩, ⟨_, _, rfl, rfl⟩, ⟨_, _, rfl, rfl⟩, ⟨_, _, rfl, rfl⟩, ⟨_, _, rfl, rfl⟩, ⟨_, _, rfl, rfl⟩, ⟨_, _, rfl, rfl⟩, trivial⟩)); (case zS_BOUNDS => rfl); (case ze_BOUNDS_k0 => k_is); (case zy_BOUNDS_k0 => k_is); (case zx_BOUNDS_k0 => decide); (case zw_BOUNDS_k0 => (repeat' (first | exact .nil | refine .cons ⟨_, rfl⟩ ?_ | refine .cons rfl ?_))); (case ze_BOUNDS_k1 => k_is); (case zy_BOUNDS_k1 => k_is); (case zx_BOUNDS_k1 => decide); (case zw_BOUNDS_k1 => (repeat' (first | exact .nil | refine .cons ⟨_, rfl⟩ ?_ | refine .cons rfl ?_))); (case ze_BOUNDS_k2 => k_is); (case zy_BOUNDS_k2 => k_is); (case zx_BOUNDS_k2 => decide); (case zw_BOUNDS_k2 => (repeat' (first | exact .nil | refine .cons ⟨_, rfl⟩ ?_ | refine .cons rfl ?_))); (case ze_BOUNDS_k3 => k_is); (case zy_BOUNDS_k3 => k_is); (case zx_BOUNDS_k3 => decide); (case zw_BOUNDS_k3 => (repeat' (first | exact .nil | refine .cons ⟨_, rfl⟩ ?_ | refine .cons rfl ?_))); (case ze_BOUNDS_k4 => k_is); (case zy_BOUNDS_k4 => k_is); (case zx_BOUNDS_k4 => decide); (case zw_BOUNDS_k4 => (repeat' (first | exact .nil | refine .cons ⟨_, rfl⟩ ?_ | refine .cons rfl ?_))); (case ze_BOUNDS_k5 => k_is); (case zy_BOUNDS_k5 => k_is); (case zx_BOUNDS_k5 => decide); (case zw_BOUNDS_k5 => (repeat' (first | exact .nil | refine .cons ⟨_, rfl⟩ ?_ | refine .cons rfl ?_))); (case ze_BOUNDS_k6 => k_is); (case zy_BOUNDS_k6 => k_is); (case zx_BOUNDS_k6 => decide); (case zw_BOUNDS_k6 => (repeat' (first | exact .nil | refine .cons ⟨_, rfl⟩ ?_ | refine .cons rfl ?_))); (case ze_BOUNDS_k7 => k_is); (case zy_BOUNDS_k7 => k_is); (case zx_BOUNDS_k7 => decide); (case zw_BOUNDS_k7 => (repeat' (first | exact .nil | refine .cons ⟨_, rfl⟩ ?_ | refine .cons rfl ?_))); (case ze_BOUNDS_k8 => k_is); (case zy_BOUNDS_k8 => k_is); (case zx_BOUNDS_k8 => decide); (case zw_BOUNDS_k8 => (repeat' (first | exact .nil | refine .cons ⟨_, rfl⟩ ?_ | refine .cons rfl ?_))); (case zA_BITS => k_is); (case zD_BITS => k_is); (case zL_BITS => (exact ⟨⟨_, _, rfl, rfl⟩, ⟨_, _, rfl, rfl⟩, ⟨_, _, rfl, rfl⟩, ⟨_, _, rfl, rfl⟩, ⟨_, _, rfl, rfl⟩, ⟨_, _, rfl, rfl⟩, ⟨_, _, rfl, rfl⟩, ⟨_, _, rfl, rfl⟩, ⟨_, _, rfl, rfl⟩, trivial⟩)); (case zS_BITS => rfl); (case ze_BITS_k0 => k_is); (case zy_BITS_k0 => k_is); (case zx_BITS_k0 => decide); (case zw_BITS_k0 => (repeat' (first | exact .nil | refine .cons ⟨_, rfl⟩ ?_ | refine .cons rfl ?_))); (case zy_BITS_k0_0 => k_is); (case zx_BITS_k0_0 => decide); (case zw_BITS_k0_0 => (repeat' (first | exact .nil | refine .cons ⟨_, rfl⟩ ?_ | refine .cons rfl ?_))); (case ze_BITS_k1 => k_is); (case zy_BITS_k1 => k_is); (case zx_BITS_k1 => decide); (case zw_BITS_k1 => (repeat' (first | exact .nil | refine .cons ⟨_, rfl⟩ ?_ | refine .cons rfl ?_))); (case zy_BITS_k1_0 => k_is); (case zx_BITS_k1_0 => decide); (case zw_BITS_k1_0 => (repeat' (first | exact .nil | refine .cons ⟨_, rfl⟩ ?_ | refine .cons rfl ?_))); (case ze_BITS_k2 => k_is); (case zy_BITS_k2 => k_is); (case zx_BITS_k2 => decide); (case zw_BITS_k2 => (repeat' (first | exact .nil | refine .cons ⟨_, rfl⟩ ?_ | refine .cons rfl ?_))); (case zy_BITS_k2_0 => k_is); (case zx_BITS_k2_0 => decide); (case zw_BITS_k2_0 => (repeat' (first | exact .nil | refine .cons ⟨_, rfl⟩ ?_ | refine .cons rfl ?_))); (case ze_BITS_k3 => k_is); (case zy_BITS_k3 => k_is); (case zx_BITS_k3 => decide); (case zw_BITS_k3 => (repeat' (first | exact .nil | refine .cons ⟨_, rfl⟩ ?_ | refine .cons rfl ?_))); (case zy_BITS_k3_0 => k_is); (case zx_BITS_k3_0 => decide); (case zw_BITS_k3_0 => (repeat' (first | exact .nil | refine .cons ⟨_, rfl⟩ ?_ | refine .cons rfl ?_))); (case ze_BITS_k4 => k_is); (case zy_BITS_k4 => k_is); (case zx_BITS_k4 => decide); (case zw_BITS_k4 => (repeat' (first | exact .nil | refine .cons ⟨_, rfl⟩ ?_ | refine .cons rfl ?_))); (case zy_BITS_k4_0 => k_is); (case zx_BITS_k4_0 => decide); (case zw_BITS_k4_0 => (repeat' (first | exact .nil | refine .cons ⟨_, rfl⟩ ?_ | refine .cons rfl ?_))); (case ze_BITS_k5 => k_is); (case zy_BITS_k5 => k_is); (case zx_BITS_k5 => decide); (case zw_BITS_k5 => (repeat' (first | exact .nil | refine .cons ⟨_, rfl⟩ ?_ | refine .cons rfl ?_))); (case zy_BITS_k5_0 => k_is); (case zx_BITS_k5_0 => decide); (case zw_BITS_k5_0 => (repeat' (first | exact .nil | refine .cons ⟨_, rfl⟩ ?_ | refine .cons rfl ?_))); (case zy_BITS_k5_1 => k_is); (case zx_BITS_k5_1 => decide); (case zw_BITS_k5_1 => (repeat' (first | exact .nil | refine .cons ⟨_, rfl⟩ ?_ | refine .cons rfl ?_))); (case ze_BITS_k6 => k_is); (case zy_BITS_k6 => k_is); (case zx_BITS_k6 => decide); (case zw_BITS_k6 => (repeat' (first | exact .nil | refine .cons ⟨_, rfl⟩ ?_ | refine .cons rfl ?_))); (case zy_BITS_k6_0 => k_is); (case zx_BITS_k6_0 => decide); (case zw_BITS_k6_0 => (repeat' (first | exact .nil | refine .cons ⟨_, rfl⟩ ?_ | refine .cons rfl ?_))); (case ze_BITS_k7 => k_is); (case zy_BITS_k7 => k_is); (case zx_BITS_k7 => decide); (case zw_BITS_k7 => (repeat' (first | exact .nil | refine .cons ⟨_, rfl⟩ ?_ | refine .cons rfl ?_))); (case zy_BITS_k7_0 => k_is); (case zx_BITS_k7_0 => decide); (case zw_BITS_k7_0 => (repeat' (first | exact .nil | refine .cons ⟨_, rfl⟩ ?_ | refine .cons rfl ?_))); (case zy_BITS_k7_1 => k_is); (case zx_BITS_k7_1 => decide); (case zw_BITS_k7_1 => (repeat' (first | exact .nil | refine .cons ⟨_, rfl⟩ ?_ | refine .cons rfl ?_))); (case zy_BITS_k7_2 => k_is); (case zx_BITS_k7_2 => decide); (case zw_BITS_k7_2 => (repeat' (first | exact .nil | refine .cons ⟨_, rfl⟩ ?_ | refine .cons rfl ?_))); (case zy_BITS_k7_3 => k_is); (case zx_BITS_k7_3 => decide); (case zw_BITS_k7_3 => (repeat' (first | exact .nil | refine .cons ⟨_, rfl⟩ ?_ | refine .cons rfl ?_))); (case ze_BITS_k8 => k_is); (case zy_BITS_k8 => k_is); (case zx_BITS_k8 => decide); (case zw_BITS_k8 => (repeat' (first | exact .nil | refine .cons ⟨_, rfl⟩ ?_ | refine .cons rfl ?_))); (case zy_BITS_k8_0 => k_is); (case zx_BITS_k8_0 => decide); (case zw_BITS_k8_0 => (repeat' (first | exact .nil | refine .cons ⟨_, rfl⟩ ?_ | refine .cons rfl ?_))); (case zy_BITS_k8_1 => k_is); (case zx_BITS_k8_1 => decide); (case zw_BITS_k8_1 => (repeat' (first | exact .nil | refine .cons ⟨_, rfl⟩ ?_ | refine .cons rfl ?_))); (case zy_BITS_k8_2 => k_is); (case zx_BITS_k8_2 => decide); (case zw_BITS_k8_2 => (repeat' (first | exact .nil | refine .cons ⟨_, rfl⟩ ?_ | refine .cons rfl ?_))); (case zy_BITS_k8_3 => k_is); (case zx_BITS_k8_3 => decide); (case zw_BITS_k8_3 => (repeat' (first | exact .nil | refine .cons ⟨_, rfl⟩ ?_ | refine .cons rfl ?_))); (case xL_BadRow => k_is); (case xs_BadRow => k_is); (case xe_BadRow => k_is); (case xt_BadRow => k_is); (case xk_BadRow => k_is); (case xg_BadRow => k_is); (case xh_BadRow => k_is); (case xd_BadRow => k_is); (case xa_BadRow => k_is); (case xn_BadRow => k_is); (case xq_BadRow => k_is); (case xm_BadRow => k_is); (case xf_index_BadRow => k_is); (case jt_BadRow => k_is); (case ze1_BadRow_BadRow => k_is); (case ze2_BadRow_BadRow => k_is); (case ze3_BadRow_BadRow => k_is); (case ze4_BadRow_BadRow => k_is); (case zk1_BadRow_Unlike => k_is); (case zk2_BadRow_Unlike => k_is); (case zk3_BadRow_Unlike => k_is); (case zk4_BadRow_Unlike => rfl); (case zk1_BadRow_Unknown => k_is); (case zk2_BadRow_Unknown => k_is); (case zk3_BadRow_Unknown => k_is); (case zk4_BadRow_Unknown => rfl); (case zk1_BadRow_Stray => k_is); (case zk2_BadRow_Stray => k_is); (case zk3_BadRow_Stray => k_is); (case zk4_BadRow_Stray => rfl); (case zk1_BadRow_BadNumber => k_is); (case zk2_BadRow_BadNumber => k_is); (case zk3_BadRow_BadNumber => k_is); (case zk4_BadRow_BadNumber => rfl); (case zk1_BadRow_BadLength => k_is); (case zk2_BadRow_BadLength => k_is); (case zk3_BadRow_BadLength => k_is); (case zk4_BadRow_BadLength => rfl); (case zk1_BadRow_Twice => k_is); (case zk2_BadRow_Twice => k_is); (case zk3_BadRow_Twice => k_is); (case zk4_BadRow_Twice => rfl); (case zk1_BadRow_BadName => k_is); (case zk2_BadRow_BadName => k_is); (case zk3_BadRow_BadName => k_is); (case zk4_BadRow_BadName => rfl); (case zk1_BadRow_BadText => k_is); (case zk2_BadRow_BadText => k_is); (case zk3_BadRow_BadText => k_is); (case zk4_BadRow_BadText => rfl); (case zk1_BadRow_BadDepth => k_is); (case zk2_BadRow_BadDepth => k_is); (case zk3_BadRow_BadDepth => k_is); (case zk4_BadRow_BadDepth => rfl); (case zk1_BadRow_BadLine => k_is); (case zk2_BadRow_BadLine => k_is); (case zk3_BadRow_BadLine => k_is); (case zk4_BadRow_BadLine => rfl); (case zk1_BadRow_BadSite => k_is); (case zk2_BadRow_BadSite => k_is); (case zk3_BadRow_BadSite => k_is); (case zk4_BadRow_BadSite => rfl); (case zk1_BadRow_BadSpot => k_is); (case zk2_BadRow_BadSpot => k_is); (case zk3_BadRow_BadSpot => k_is); (case zk4_BadRow_BadSpot => rfl); (case zk1_BadRow_BadFlow => k_is); (case zk2_BadRow_BadFlow => k_is); (case zk3_BadRow_BadFlow => k_is); (case zk4_BadRow_BadFlow => rfl); (case zk1_BadRow_NoMain => k_is); (case zk2_BadRow_NoMain => k_is); (case zk3_BadRow_NoMain => k_is); (case zk4_BadRow_NoMain => rfl); (case zk1_BadRow_Missing => k_is); (case zk2_BadRow_Missing => k_is); (case zk3_BadRow_Missing => k_is); (case zk4_BadRow_Missing => rfl); (case zk1_BadRow_NoUnit => k_is); (case zk2_BadRow_NoUnit => k_is); (case zk3_BadRow_NoUnit => k_is); (case zk4_BadRow_NoUnit => rfl); (case zk1_BadRow_BadFree => k_is); (case zk2_BadRow_BadFree => k_is); (case zk3_BadRow_BadFree => k_is); (case zk4_BadRow_BadFree => rfl); (case zk1_BadRow_TooMany => k_is); (case zk2_BadRow_TooMany => k_is); (case zk3_BadRow_TooMany => k_is); (case zk4_BadRow_TooMany => rfl); (case zk1_BadRow_BadPass => k_is); (case zk2_BadRow_BadPass => k_is); (case zk3_BadRow_BadPass => k_is); (case zk4_BadRow_BadPass => rfl); (case zk1_BadRow_BadBase => k_is); (case zk2_BadRow_BadBase => k_is); (case zk3_BadRow_BadBase => k_is); (case zk4_BadRow_BadBase => rfl); (case zk1_BadRow_RunsError => k_is); (case zk2_BadRow_RunsError => k_is); (case zk3_BadRow_RunsError => k_is); (case zk4_BadRow_RunsError => rfl); (case zk3_BadRow_ValueError => k_is); (case ze1_BadRow_RunsError => k_is); (case ze2_BadRow_RunsError => k_is); (case ze3_BadRow_RunsError => k_is); (case ze4_BadRow_RunsError => k_is)
