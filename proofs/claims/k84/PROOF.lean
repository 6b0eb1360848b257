import PyProof.Rows.All
import Wide.All
import OpenK.AllK
import Wide.FinOn
import HandS.ForMost
import HandS.ForExc
import HandS.Wide
import HandS.IsInst
import HandS.CallLocal
import HandS.More
import HandS.Codes
import HandS.TupAny
import HandS.Conv
import HandS.ExcInit
import HandS.TryOnly
import HandS.Zip
import HandS.Zip0
import HandS.Iter
import KE.GoesMore
import HandS.ExcIs
import HandS.ExcField
import HandS.ExcOwn
import HandS.WordsExc
import HandS.SetFor
import HandS.NoneIn
import KE.KExcIs
import HandS.TupMul
import HandS.Star
import HandS.Rev
import HandS.DictComp
import KE.KDictWalk
import HandS.Style
import HandS.WideBits
import HandS.SortInts
import HandS.RevRange
import HandS.FStr
import PySem.Challenge.RW_sameruns_k84_bad_flows
set_option Elab.async false
set_option linter.all false
set_option maxRecDepth 100000
set_option maxHeartbeats 4000000
namespace ENT
open PySem PySem.Spec PyProof.Rows L2
theorem meets_enumT (l : Addr) (items : Array Value) :
    Meets (Builtin.«enumerate.__new__» ⟨[.type "enumerate", .ref l], []⟩) (fun _ R s => s.heap.IsTuple l items ∧
      R (.ok (.ret (.ref (s.heap.push { cls := .type "tuple_iterator", data := .fields #[.ref l, .int 0 0] }).objs.size)))
        { s with heap := (s.heap.push { cls := .type "tuple_iterator", data := .fields #[.ref l, .int 0 0] }).push { cls := .type "enumerate", data := .fields #[.none, .bool false, .ref s.heap.objs.size, rawInt 0, .none, .none] } }) :=
  .of_wp fun prog w A R s h => by
    obtain ⟨hp, g, d, tk, os⟩ := s; obtain ⟨hl, h⟩ := h
    have hsub := sub_enumerate
    have hL : Heap.IsTuple (Shared.heap ⟨hp, g, d, tk, os⟩) l items := hl
    wp_walk using wpAny_pyIter_tuple hL
    refine wpAny_stack_any fun st => wpAny_pure ?_
    split
    · rename_i c _ _ _ _ _
      cases (c == Value.type "enumerate")
      · wp_walk using wpAny_pyIter_tuple hL
        exact ⟨_, rfl, h⟩
      · wp_walk using wpAny_pyIter_tuple hL
        exact ⟨_, rfl, h⟩
    · wp_walk using wpAny_pyIter_tuple hL
      exact ⟨_, rfl, h⟩
theorem call_enumT {prog : Program} {w : World} {A : Around} {E : Value → Shared → Prop} {s : Shared} {l : Addr} {items : Array Value} {Q : Value → Shared → Prop} (hL : s.heap.IsTuple l items)
    (h : ∀ h', IsEnum h' (s.heap.objs.size + 1) s.heap.objs.size ((0 : Nat) : Int) .none → h'.IsTupleIter s.heap.objs.size l 0 → h'.objs.size = s.heap.objs.size + 2 →
      (∀ b o, s.heap.get? b = some o → h'.get? b = some o) → Q (.ref (s.heap.objs.size + 1)) { s with heap := h' }) :
    wpAny (model prog w) A (call (.type "enumerate") [.ref l]) Q E s := by
  refine callType_new F.called_enumerate (by decide) (F.typeCall_enumerate_1 _) (F.newCall_enumerate_1 _) (fun obj => F.args_object_init_2 obj _) F.entry_enumerate_new (meets_enumT l items) ⟨hL, ?_⟩
  generalize ho : ({ cls := .type "tuple_iterator", data := .fields #[.ref l, .int 0 0] } : Obj) = o
  have hz : (s.heap.push o).objs.size = s.heap.objs.size + 1 := Heap.size_push ..
  show _ ∧ _
  rw [hz]
  have he : IsEnum ((s.heap.push o).push { cls := .type "enumerate", data := .fields #[.none, .bool false, .ref s.heap.objs.size, rawInt 0, .none, .none] }) (s.heap.objs.size + 1) s.heap.objs.size 0 .none := by
    have := Heap.get?_push_size (s.heap.push o) (o := { cls := .type "enumerate", data := .fields #[.none, .bool false, .ref s.heap.objs.size, rawInt 0, .none, .none] }) rfl
    rw [hz] at this; exact this
  exact ⟨⟨_, he, rfl⟩, h _ he ⟨_, Heap.get?_push_of_some _ (Heap.get?_push_size _ (by subst ho; rfl)), by subst ho; rfl, by subst ho; rfl⟩ (by rw [Heap.size_push, hz]) fun b o x => Heap.get?_push_of_some _ (Heap.get?_push_of_some _ x)⟩
/-- enumerate of the tuple at a -/
def ItT (K : PySem.W.Frag) (a : Addr) : It :=
  ⟨fun i H => ∃ (xs : List V) (x : V), SqT K H a xs ∧ xs[i]? = some x, fun i H v H' => ∃ T x, v = .ref T ∧ H T = none ∧ H' = upd H T (.tup [.int (i : Nat), x]) ∧ ∀ xs, SqT K H a xs → xs[i]? = some x, fun i H => ∃ xs : List V, SqT K H a xs ∧ xs.length ≤ i⟩
theorem turn_enumT {P : Program} {w : World} {K : PySem.W.Frag} {elts : List Expr} {kk : Nat} {tpos : Pos} (a e it : Addr) :
    Turn P w K (.Tuple elts kk tpos) (ItT K a) [e, it] e (fun i h => (∃ old, IsEnum h e it ((i : Nat) : Int) old) ∧ h.IsTupleIter it a i ∧ e ≠ it ∧ a ≠ it ∧ a ≠ e) where
  mem := by simp
  obj := fun i h st b hb => by
    obtain ⟨⟨old, he⟩, ⟨o, ho, hc, hd⟩, _⟩ := st
    rcases List.mem_cons.mp hb with z | z
    · rw [z]; exact ⟨_, he, fun v q => nomatch q⟩
    · rw [List.mem_singleton.mp z]; exact ⟨o, ho, fun v q => by rw [hd] at q; cases q⟩
  keep := fun i h h' st k => let ⟨⟨old, he⟩, hi, hne⟩ := st; ⟨⟨old, k e (by simp) _ he⟩, hi.at fun o q => k it (by simp) o q, hne⟩
  item := by
    intro X hP hw hK hc i pins s σ H E I hf st hg
    subst hP hw hK
    obtain ⟨⟨old, he⟩, hit, hne, hai, hae⟩ := st
    obtain ⟨xs, x, hq, hx⟩ := hg
    obtain ⟨its, rv, p, _⟩ := I.tuple hq
    obtain ⟨u, hu, ru⟩ := rv.get hx
    have hel : e < s.heap.objs.size := Heap.lt_size he
    have hlt : i < its.toArray.size := by
      have := (List.getElem?_eq_some_iff.mp hu).1
      simpa using this
    have p' : s.heap.IsTuple a its.toArray := p
    refine wpAny_pyNext_enum_itemD (Draws.tuple (by exact I.ok.hd hc) it a hai its.toArray) he ⟨hit, p'⟩ hlt hne (by simp [hne, Ne.symm hae]) fun x' h' tk hP ho hst hT hsz hk => ?_
    have ex : x' = u := by
      have hP' : its.toArray[i]? = some x' := hP
      rw [List.getElem?_toArray, hu] at hP'
      exact (Option.some.inj hP').symm
    subst ex
    refine ⟨_, rfl, wpAny_letOwnedTupleGo_enum (s := { s with heap := h', toks := tk + 1 }) ho fun h'' he' sb => ?_⟩
    have hT2 : h''.get? s.heap.objs.size = some { cls := .type "tuple", data := .seq #[.int i tk, x'] } := (sb.2 _ (Nat.ne_of_gt hel)).trans hT
    have new : ObjOk X.prog X.w (upd H s.heap.objs.size (.tup [.int (i : Nat), x])) h'' s.heap.objs.size (.tup [.int (i : Nat), x]) :=
      ⟨by show 2 ≤ sizeLine; decide, [.int i tk, x'], .cons ⟨_, rfl⟩ (.cons ru .nil), ⟨_, hT2, rfl, _, rfl⟩⟩
    have I1 : Inv X pins σ (upd H s.heap.objs.size (.tup [.int (i : Nat), x])) { s with heap := h'', toks := tk + 1 } :=
      I.turnedNew (ch := [e, it]) (fun b ob hb q => (sb.2 b (fun z => hb (by simp [z]))).trans (hk b ob (fun z => hb (by simp [z])) (fun z => hb (by simp [z])) q)) hf (Nat.le_refl _) new
    refine ⟨.ref s.heap.objs.size, _, I1, rfl, ⟨_, x, rfl, I.hok.fresh (Nat.le_refl _), rfl, fun ys hy => by rw [I.tuple_inj hy hq]; exact hx⟩, ⟨⟨x', ?_⟩, hst.1.at fun o q => (sb.2 it (Ne.symm hne)).trans q, hne, hai, hae⟩, fun b hb => ?_⟩
    · have e1 : ((i + 1 : Nat) : Int) = (i : Int) + 1 := by omega
      rw [e1]; exact he'
    · have hb' : b < s.heap.objs.size := by
        rcases List.mem_cons.mp hb with z | z
        · rw [z]; exact hel
        · rw [List.mem_singleton.mp z]; obtain ⟨_, q, _⟩ := hit; exact Heap.lt_size q
      rw [upd_ne (Nat.ne_of_lt hb')]
      exact (hf b hb).1
  done := by
    intro X hP hw hK hc i pins s σ H E I hf st hg
    subst hP hw hK
    obtain ⟨⟨old, he⟩, hit, hne, hai, hae⟩ := st
    obtain ⟨xs, hq, hx⟩ := hg
    obtain ⟨its, rv, p, _⟩ := I.tuple hq
    have p' : s.heap.IsTuple a its.toArray := p
    obtain ⟨f0, f1, f2, f3, f4, f5⟩ := hf it (by simp)
    have hl := rv.length
    have hT : s.TypeIs (.ref e) "enumerate" := ⟨_, he, rfl⟩
    unfold pyNext
    refine wpAny_bind (wpAny_attempt (wpAny_callSpecial?_slot (name := Str.ofString "__next__") hT F.slot_enumerate_next
      (wpAny_call_entry F.slot_enumerate_next hT F.entry_enumerate_next ?_ (F.args_enumerate_next_1 _))))
    show wpAny _ _ (field (.ref e) 2 >>= _) _ _ _
    refine wpAny_bind (wpAny_field he rfl (x := .ref it) rfl ?_)
    refine wpAny_bind (RZ.nextOf_tuple_end (by exact I.ok.hd hc) hit p' (by simp; omega) fun h' x he' hx' => ?_)
    obtain ⟨o, ho, hcl⟩ := hx'
    refine wpAny_bind (wpAny_isInstance (T := "StopIteration") (b := true) ⟨o, ho, hcl⟩ isSubtype_stop ?_)
    exact wpAny_pure ⟨rfl, I.turned (t' := s.toks) (fun b o hb q => he' b o hb q) f0 f1 f3 f4 f5⟩
  self := fun A i s Q E st h => let ⟨⟨_, he⟩, _⟩ := st; wpAny_pyIter_enum he h
def iEnumT (K : PySem.W.Frag) (ta : TA) : TI := fun σ H R => ta σ H fun vs H1 => ∃ a xs, vs = [.ref a] ∧ SqT K H1 a xs ∧ R (ItT K a) H1
theorem pi_enumT {X : Cx} {e : Expr} {ta : TA} {p pos tpos : Pos} {elts : List Expr} {kk : Nat} (hg : Gl X "enumerate") (hm : X.mg "enumerate" = none) (ha : PA X [e] ta) (hs : starEach [e] X.env = [(false, eval e X.env)] := by rfl) :
    PI X (.Tuple elts kk tpos) (.Call (.Name "enumerate" p) [e] [] pos) (iEnumT X.K ta) := by
  refine ⟨fun pins s σ H R I h => ?_⟩
  refine Call_ (ld_blt I hg hm boot_enumerate (PyProof.Rows.callWith_type1 (thn (ha.run pos pins s σ H _ I h) fun us s1 ⟨vs, H1, I1, r1, q1⟩ => ?_) hs rfl))
  obtain ⟨a, xs, ex, hq, q⟩ := q1
  subst ex
  cases r1 with
  | cons r rr =>
    cases rr
    cases r
    obtain ⟨its, rv, p', _⟩ := I1.tuple hq
    have hT : s1.heap.IsTuple a its.toArray := p'
    obtain ⟨oa, hoa, _⟩ := id p'
    have hal : a < s1.heap.objs.size := Heap.lt_size hoa
    refine call_enumT hT fun h' he hit hsz hk => wpAny_pyIter_enum he ?_
    have I2 : Inv X pins σ H1 { s1 with heap := h' } := I1.kept (t' := s1.toks) hk
    refine ⟨s1.heap.objs.size + 1, [s1.heap.objs.size + 1, s1.heap.objs.size], _, _, H1, rfl, I2, turn_enumT a (s1.heap.objs.size + 1) s1.heap.objs.size, ⟨⟨.none, he⟩, hit, Nat.succ_ne_self _, Nat.ne_of_lt hal, Nat.ne_of_lt (Nat.lt_succ_of_lt hal)⟩, fun b hb => ?_, q⟩
    have hle : s1.heap.objs.size ≤ b := by
      rcases List.mem_cons.mp hb with z | z
      · rw [z]; exact Nat.le_add_right _ _
      · rw [List.mem_singleton.mp z]; exact Nat.le_refl _
    exact I1.fpOk hle (I1.hok.fresh hle)
/-- for i, x in enumerate(t), the two names of the target alone changing among the slots -/
theorem for_enumT {K : PySem.W.Frag} {a : Addr} {xs : List V} {tb : TS} {D : Ends} {σ : L2.St} {H : Hp} {g : TG} (Pv : Nat → L2.St → Hp → Prop) (h0 : Pv 0 σ H) (hq : ∀ i σ H, Pv i σ H → SqT K H a xs)
    (hs : ∀ (i : Nat) (x : V) (T : Addr) (σ : L2.St) (H : Hp), xs[i]? = some x → Pv i σ H → H T = none → g (.ref T) σ (upd H T (.tup [.int (i : Nat), x])) fun σ2 H2 => tb { D with nx := Pv (i + 1), ct := Pv (i + 1), bk := D.nx } σ2 H2) (hd : ∀ σ H, Pv xs.length σ H → D.nx σ H) :
    ∃ W : Nat → Nat → L2.St → Hp → Prop, (∃ m, W 0 m σ H) ∧ ∀ i m σ H, W i m σ H →
      ((ItT K a).stop i H ∧ D.nx σ H) ∨ ((ItT K a).go i H ∧ ∃ N : L2.St → Hp → Prop, (∀ σ' H', N σ' H' → ∃ m', m' < m ∧ W (i + 1) m' σ' H') ∧ ∀ v H', (ItT K a).yld i H v H' → g v σ H' fun σ2 H2 => tb { D with nx := N, ct := N, bk := D.nx } σ2 H2) := by
  refine ⟨fun i m σ H => m = xs.length - i ∧ i ≤ xs.length ∧ Pv i σ H, ⟨xs.length, rfl, Nat.zero_le _, h0⟩, ?_⟩
  rintro i m σ H ⟨rfl, hi, p⟩
  have qx := hq i σ H p
  by_cases hlt : i < xs.length
  · have hx : xs[i]? = some xs[i] := List.getElem?_eq_getElem hlt
    refine .inr ⟨⟨xs, _, qx, hx⟩, Pv (i + 1), fun σ' H' p' => ⟨xs.length - (i + 1), by omega, rfl, hlt, p'⟩, fun v H' y => ?_⟩
    obtain ⟨T, x', rfl, hT, rfl, f1⟩ := y
    exact hs i x' T σ H (f1 xs qx) p hT
  · have e : i = xs.length := by omega
    subst e
    exact .inl ⟨⟨xs, qx, Nat.le_refl _⟩, hd σ H p⟩
end ENT
/-! ### values as trees, the tracked heap, and how they stand for the layer's values and heap -/
namespace M
open PySem PySem.Spec PyProof.Rows L2

/-- a value: a tree of what never changes any more, and tracked objects by number -/
inductive T where
  | non | bl (b : Bool) | int (i : Int) | str (x : Str) | ref (a : Str)
  | tup (l : List T) | ktp (l : List T) | lst (l : List T) | rdl (l : List T) | inst (c : Str) (ns : List Str) (l : List T) | dct (ks : List Key) (l : List T) | dctT (ks : List (List Key)) (l : List T)
  | obj (i : Nat)
  deriving Inhabited
/-- a tracked object -/
inductive O where
  | lst (l : List T) | dct (m : List (Key × T)) | dctT (m : List (List Key × T)) | ins (c : Str) (m : List (Str × T))
  deriving Inhabited
abbrev AH := List (Option O)
/-- what is raised: its class, its fields -/
structure Exc where
  c : Str
  ns : List Str
  l : List T
  deriving Inhabited
/-- what an except suite holds: where it stands, its class, its own dict, the slot of its name -/
structure Ex where
  a : Addr
  cls : Value
  d : Option Addr
  i : Nat
  e : Exc
/-- what the names of the module stand for: the written part, the classes, other things by name; what is caught -/
structure Env where
  K : PySem.W.Frag
  ca : Str → Addr
  fa : Str → V
  ex : Option Ex
structure Sta where
  G : Env
  al : List Addr
  h : AH
  H : Hp
  /-- what is being made and may be touched by nobody -/
  pv : List Addr
def Trk (S : Sta) (p : Addr) : Prop := ∃ (i : Nat) (o : O), S.al[i]? = some p ∧ S.h[i]? = some (some o)
def Own (S : Sta) (p : Addr) : Prop := Trk S p ∨ p ∈ S.pv
/-- at p stands o, and it is not tracked -/
def Fz (S : Sta) (p : Addr) (o : HO) : Prop := S.H p = some o ∧ ¬ Own S p
def KL (K : PySem.W.Frag) (a : Addr) (xs : List V) : Prop := ∃ (o : Obj) (its : Array Value) (n : Nat), K.lookup a = some o ∧ o.cls = .type "list" ∧ o.dict = none ∧ o.data = .seq its n ∧ its.size ≤ sizeLine ∧ Vals xs its.toList
def KT (K : PySem.W.Frag) (a : Addr) (xs : List V) : Prop := ∃ (o : Obj) (its : Array Value) (n : Nat), K.lookup a = some o ∧ o.cls = .type "tuple" ∧ o.data = .seq its n ∧ its.size ≤ sizeLine ∧ Vals xs its.toList
/-- a dict that stands, or is walked just now -/
def FzD (S : Sta) (p : Addr) (kvs : List (Key × V)) : Prop := Fz S p (.dK kvs) ∨ ∃ od, Fz S p (.frz od (.dK kvs))
theorem FzD.rd {S : Sta} {p : Addr} {kvs : List (Key × V)} (f : FzD S p kvs) : Rd S.H p (.dK kvs) := f.imp (fun f => f.1) (fun ⟨od, f⟩ => ⟨od, f.1⟩)
/-- a list that may be read but not extended -/
def RdL (S : Sta) (p : Addr) (vs : List V) : Prop := (∃ ob, Fz S p (.frz ob (.lst vs))) ∨ Fz S p (.lst vs) ∨ KL S.G.K p vs
mutual
def Rv (S : Sta) : T → V → Prop
  | .non, v => v = .non
  | .bl b, v => v = .bl b
  | .int i, v => v = .int i
  | .str x, v => v = .str x
  | .ref a, v => v = S.G.fa a
  | .tup l, v => ∃ p vs, v = .ref p ∧ Fz S p (.tup vs) ∧ RvL S l vs
  | .ktp l, v => ∃ p vs, v = .ref p ∧ KT S.G.K p vs ∧ RvL S l vs
  | .lst l, v => ∃ p vs, v = .ref p ∧ Fz S p (.lst vs) ∧ RvL S l vs
  | .rdl l, v => ∃ p vs, v = .ref p ∧ RdL S p vs ∧ RvL S l vs
  | .inst c ns l, v => ∃ p dx vs, v = .ref p ∧ Fz S p (.ins (S.G.ca c) dx (ns.zip vs)) ∧ ns.length = l.length ∧ RvL S l vs
  | .dct ks l, v => ∃ p vs, v = .ref p ∧ FzD S p (ks.zip vs) ∧ ks.length = l.length ∧ RvL S l vs
  | .dctT ks l, v => ∃ p vs, v = .ref p ∧ Fz S p (.dT (ks.zip vs)) ∧ ks.length = l.length ∧ RvL S l vs
  | .obj i, v => ∃ p, S.al[i]? = some p ∧ v = .ref p
def RvL (S : Sta) : List T → List V → Prop
  | [], vs => vs = []
  | t :: ts, vs => ∃ v r, vs = v :: r ∧ Rv S t v ∧ RvL S ts r
end
def RvK {κ : Type} (S : Sta) : List (κ × T) → List (κ × V) → Prop
  | [], m => m = []
  | (k, t) :: r, m => ∃ v m', m = (k, v) :: m' ∧ Rv S t v ∧ RvK S r m'
def RO (S : Sta) : O → HO → Prop
  | .lst l, u => ∃ vs, u = .lst vs ∧ RvL S l vs
  | .dct m, u => ∃ vs, u = .dK vs ∧ RvK S m vs
  | .dctT m, u => ∃ vs, u = .dT vs ∧ RvK S m vs
  | .ins c m, u => ∃ dx vs, u = .ins (S.G.ca c) dx vs ∧ RvK S m vs
structure Ok (S : Sta) : Prop where
  len : S.al.length = S.h.length
  rel : ∀ (i : Nat) (o : O) (p : Addr), S.h[i]? = some (some o) → S.al[i]? = some p → ∃ u, S.H p = some u ∧ RO S o u
  inj : ∀ (i j : Nat) (o o' : O) (p : Addr), S.h[i]? = some (some o) → S.h[j]? = some (some o') → S.al[i]? = some p → S.al[j]? = some p → i = j
  priv : ∀ p ∈ S.pv, (∃ u, S.H p = some u) ∧ ¬ Trk S p
structure Step (S S' : Sta) : Prop where
  G : S'.G = S.G
  al : S.al <+: S'.al
  keep : ∀ b o, S.H b = some o → ¬ Own S b → S'.H b = some o
  own : ∀ b, Own S' b → Own S b ∨ S.H b = none
  pv : S'.pv = S.pv
  pk : ∀ b ∈ S.pv, S'.H b = S.H b
theorem Ok.addr {S : Sta} (k : Ok S) {i : Nat} {o : O} (h : S.h[i]? = some (some o)) : ∃ p, S.al[i]? = some p := by
  have := (List.getElem?_eq_some_iff.mp h).1
  exact ⟨S.al[i]'(by rw [k.len]; exact this), List.getElem?_eq_getElem _⟩
theorem Ok.some {S : Sta} (k : Ok S) {p : Addr} (h : Own S p) : ∃ o, S.H p = some o := by
  rcases h with ⟨i, o, h1, h2⟩ | h
  · obtain ⟨u, hu, _⟩ := k.rel i o p h2 h1
    exact ⟨u, hu⟩
  · exact (k.priv p h).1
theorem Ok.fresh {S : Sta} (k : Ok S) {p : Addr} (h : S.H p = none) : ¬ Own S p := fun o => by
  obtain ⟨u, e⟩ := k.some o
  rw [h] at e; cases e
theorem Step.refl (S : Sta) : Step S S := ⟨rfl, List.prefix_rfl, fun _ _ h _ => h, fun _ h => .inl h, rfl, fun _ _ => rfl⟩
theorem Step.nown {S S' : Sta} (s : Step S S') {b : Addr} {o : HO} (h : S.H b = some o) (n : ¬ Own S b) : ¬ Own S' b := fun z => by
  rcases s.own b z with z | z
  · exact n z
  · rw [h] at z; cases z
theorem Step.trans {S S1 S2 : Sta} (a : Step S S1) (b : Step S1 S2) : Step S S2 :=
  ⟨b.G.trans a.G, a.al.trans b.al, fun c o h n => b.keep c o (a.keep c o h n) (a.nown h n), (fun c h => by
    rcases b.own c h with z | z
    · exact a.own c z
    · by_cases n : Own S c
      · exact .inl n
      · cases e : S.H c with
        | none => exact .inr rfl
        | some o => rw [a.keep c o e n] at z; cases z), b.pv.trans a.pv, fun c h => (b.pk c (by rw [a.pv]; exact h)).trans (a.pk c h)⟩
theorem Fz.mono {S S' : Sta} (s : Step S S') {p : Addr} {o : HO} (f : Fz S p o) : Fz S' p o := by
  obtain ⟨r, n⟩ := f
  exact ⟨s.keep _ _ r n, s.nown r n⟩
/-- what is frozen stays as it is -/
structure Tr (S S' : Sta) : Prop where
  G : S'.G = S.G
  al : S.al <+: S'.al
  fz : ∀ p o, Fz S p o → Fz S' p o
theorem Step.tr {S S' : Sta} (s : Step S S') : Tr S S' := ⟨s.G, s.al, fun _ _ f => f.mono s⟩
theorem Tr.refl (S : Sta) : Tr S S := ⟨rfl, List.prefix_rfl, fun _ _ h => h⟩
theorem Tr.trans {S S1 S2 : Sta} (a : Tr S S1) (b : Tr S1 S2) : Tr S S2 := ⟨b.G.trans a.G, a.al.trans b.al, fun _ _ h => b.fz _ _ (a.fz _ _ h)⟩
theorem RdL.tr {S S' : Sta} (s : Tr S S') {p : Addr} {vs : List V} (h : RdL S p vs) : RdL S' p vs :=
  h.imp (fun ⟨ob, f⟩ => ⟨ob, s.fz _ _ f⟩) (fun z => z.imp (s.fz _ _) (fun z => by rw [s.G]; exact z))
mutual
theorem Rv.tr {S S' : Sta} (s : Tr S S') : ∀ {t : T} {v : V}, Rv S t v → Rv S' t v
  | .non, v, h => by simp only [Rv] at h ⊢; exact h
  | .bl b, v, h => by simp only [Rv] at h ⊢; exact h
  | .int i, v, h => by simp only [Rv] at h ⊢; exact h
  | .str x, v, h => by simp only [Rv] at h ⊢; exact h
  | .ref a, v, h => by simp only [Rv] at h ⊢; rw [s.G]; exact h
  | .tup l, v, h => by
    simp only [Rv] at h ⊢
    obtain ⟨p, vs, e, f, r⟩ := h
    exact ⟨p, vs, e, s.fz _ _ f, RvL.tr s r⟩
  | .ktp l, v, h => by
    simp only [Rv] at h ⊢
    obtain ⟨p, vs, e, f, r⟩ := h
    exact ⟨p, vs, e, by rw [s.G]; exact f, RvL.tr s r⟩
  | .lst l, v, h => by
    simp only [Rv] at h ⊢
    obtain ⟨p, vs, e, f, r⟩ := h
    exact ⟨p, vs, e, s.fz _ _ f, RvL.tr s r⟩
  | .rdl l, v, h => by
    simp only [Rv] at h ⊢
    obtain ⟨p, vs, e, f, r⟩ := h
    exact ⟨p, vs, e, f.tr s, RvL.tr s r⟩
  | .inst c ns l, v, h => by
    simp only [Rv] at h ⊢
    obtain ⟨p, dx, vs, e, f, n, r⟩ := h
    exact ⟨p, dx, vs, e, by rw [s.G]; exact s.fz _ _ f, n, RvL.tr s r⟩
  | .dct ks l, v, h => by
    simp only [Rv] at h ⊢
    obtain ⟨p, vs, e, f, n, r⟩ := h
    exact ⟨p, vs, e, f.imp (s.fz _ _) (fun ⟨od, f⟩ => ⟨od, s.fz _ _ f⟩), n, RvL.tr s r⟩
  | .dctT ks l, v, h => by
    simp only [Rv] at h ⊢
    obtain ⟨p, vs, e, f, n, r⟩ := h
    exact ⟨p, vs, e, s.fz _ _ f, n, RvL.tr s r⟩
  | .obj i, v, h => by
    simp only [Rv] at h ⊢
    obtain ⟨p, e, q⟩ := h
    refine ⟨p, ?_, q⟩
    obtain ⟨r, hr⟩ := s.al
    rw [← hr, List.getElem?_append_left (List.getElem?_eq_some_iff.mp e).1]
    exact e
theorem RvL.tr {S S' : Sta} (s : Tr S S') : ∀ {l : List T} {vs : List V}, RvL S l vs → RvL S' l vs
  | [], _, h => by simp only [RvL] at h ⊢; exact h
  | t :: ts, vs, h => by
    simp only [RvL] at h ⊢
    obtain ⟨v, r, e, h1, h2⟩ := h
    exact ⟨v, r, e, Rv.tr s h1, RvL.tr s h2⟩
end
theorem RdL.mono {S S' : Sta} (s : Step S S') {p : Addr} {vs : List V} (h : RdL S p vs) : RdL S' p vs := h.tr s.tr
theorem Rv.mono {S S' : Sta} (s : Step S S') {t : T} {v : V} (h : Rv S t v) : Rv S' t v := h.tr s.tr
theorem RvL.mono {S S' : Sta} (s : Step S S') {l : List T} {vs : List V} (h : RvL S l vs) : RvL S' l vs := h.tr s.tr
theorem RvK.tr {κ : Type} {S S' : Sta} (s : Tr S S') : ∀ {m : List (κ × T)} {vs : List (κ × V)}, RvK S m vs → RvK S' m vs
  | [], _, h => h
  | (k, t) :: r, _, ⟨v, m', e, h1, h2⟩ => ⟨v, m', e, h1.tr s, RvK.tr s h2⟩
theorem RvK.mono {κ : Type} {S S' : Sta} (s : Step S S') {m : List (κ × T)} {vs : List (κ × V)} (h : RvK S m vs) : RvK S' m vs := h.tr s.tr
theorem RO.tr {S S' : Sta} (s : Tr S S') : ∀ {o : O} {u : HO}, RO S o u → RO S' o u
  | .lst _, _, ⟨vs, e, r⟩ => ⟨vs, e, r.tr s⟩
  | .dct _, _, ⟨vs, e, r⟩ => ⟨vs, e, r.tr s⟩
  | .dctT _, _, ⟨vs, e, r⟩ => ⟨vs, e, r.tr s⟩
  | .ins _ _, _, ⟨dx, vs, e, r⟩ => ⟨dx, vs, by rw [s.G]; exact e, r.tr s⟩
theorem RO.mono {S S' : Sta} (s : Step S S') {o : O} {u : HO} (h : RO S o u) : RO S' o u := h.tr s.tr
theorem RvL.len {S : Sta} : ∀ {l : List T} {vs : List V}, RvL S l vs → vs.length = l.length
  | [], _, h => by simp only [RvL] at h; subst h; rfl
  | t :: ts, vs, h => by
    simp only [RvL] at h
    obtain ⟨v, r, rfl, _, h2⟩ := h
    simp [RvL.len h2]
theorem RvL.get {S : Sta} : ∀ {l : List T} {vs : List V} {i : Nat} {t : T}, RvL S l vs → l[i]? = some t → ∃ v, vs[i]? = some v ∧ Rv S t v
  | [], _, _, _, _, e => by simp at e
  | t :: ts, vs, 0, _, h, e => by
    simp only [RvL] at h
    obtain ⟨v, r, rfl, h1, h2⟩ := h
    simp at e; subst e
    exact ⟨v, by simp, h1⟩
  | t :: ts, vs, i + 1, u, h, e => by
    simp only [RvL] at h
    obtain ⟨v, r, rfl, h1, h2⟩ := h
    obtain ⟨w, hw, q⟩ := RvL.get (i := i) (t := u) h2 (by simpa using e)
    exact ⟨w, by simpa using hw, q⟩
theorem RvL.nil {S : Sta} : RvL S [] [] := by simp only [RvL]
theorem RvL.cons {S : Sta} {t : T} {v : V} {l : List T} {vs : List V} (a : Rv S t v) (b : RvL S l vs) : RvL S (t :: l) (v :: vs) := by
  simp only [RvL]; exact ⟨v, vs, rfl, a, b⟩
theorem RvL.app {S : Sta} : ∀ {l m : List T} {vs ws : List V}, RvL S l vs → RvL S m ws → RvL S (l ++ m) (vs ++ ws)
  | [], _, _, _, a, b => by simp only [RvL] at a; subst a; exact b
  | t :: ts, m, vs, ws, a, b => by
    simp only [RvL] at a
    obtain ⟨v, r, rfl, h1, h2⟩ := a
    exact RvL.cons h1 (RvL.app h2 b)
theorem RvL.take {S : Sta} : ∀ {l : List T} {vs : List V} (n : Nat), RvL S l vs → RvL S (l.take n) (vs.take n)
  | l, vs, 0, _ => by simp only [List.take_zero]; exact RvL.nil
  | [], _, n + 1, h => by simp only [RvL] at h; subst h; exact RvL.nil
  | t :: ts, vs, n + 1, h => by
    simp only [RvL] at h
    obtain ⟨v, r, rfl, h1, h2⟩ := h
    exact RvL.cons h1 (RvL.take n h2)
theorem RvL.drop {S : Sta} : ∀ {l : List T} {vs : List V} (n : Nat), RvL S l vs → RvL S (l.drop n) (vs.drop n)
  | l, vs, 0, h => h
  | [], _, n + 1, h => by simp only [RvL] at h; subst h; exact RvL.nil
  | t :: ts, vs, n + 1, h => by
    simp only [RvL] at h
    obtain ⟨v, r, rfl, h1, h2⟩ := h
    exact RvL.drop n h2
theorem RvL.set {S : Sta} {t : T} {v : V} (a : Rv S t v) : ∀ {l : List T} {vs : List V} (i : Nat), RvL S l vs → RvL S (l.set i t) (vs.set i v)
  | [], _, _, h => by simp only [RvL] at h; subst h; exact RvL.nil
  | t' :: ts, vs, 0, h => by
    simp only [RvL] at h
    obtain ⟨w, r, rfl, h1, h2⟩ := h
    exact RvL.cons a h2
  | t' :: ts, vs, i + 1, h => by
    simp only [RvL] at h
    obtain ⟨w, r, rfl, h1, h2⟩ := h
    exact RvL.cons h1 (RvL.set a i h2)
theorem RvL.erase {S : Sta} : ∀ {l : List T} {vs : List V} (i : Nat), RvL S l vs → RvL S (l.eraseIdx i) (vs.eraseIdx i)
  | [], _, _, h => by simp only [RvL] at h; subst h; exact RvL.nil
  | t' :: ts, vs, 0, h => by
    simp only [RvL] at h
    obtain ⟨w, r, rfl, h1, h2⟩ := h
    exact h2
  | t' :: ts, vs, i + 1, h => by
    simp only [RvL] at h
    obtain ⟨w, r, rfl, h1, h2⟩ := h
    exact RvL.cons h1 (RvL.erase i h2)
theorem RvL.rev {S : Sta} : ∀ {l : List T} {vs : List V}, RvL S l vs → RvL S l.reverse vs.reverse
  | [], _, h => by simp only [RvL] at h; subst h; exact RvL.nil
  | t :: ts, vs, h => by
    simp only [RvL] at h
    obtain ⟨w, r, rfl, h1, h2⟩ := h
    rw [List.reverse_cons, List.reverse_cons]
    exact (RvL.rev h2).app (RvL.cons h1 RvL.nil)
/-- ints -/
theorem RvL.ints {S : Sta} : ∀ {ns : List Int} {vs : List V}, RvL S (ns.map T.int) vs → vs = ns.map V.int
  | [], _, h => by simp only [List.map_nil, RvL] at h; exact h
  | n :: ns, vs, h => by
    simp only [List.map_cons, RvL] at h
    obtain ⟨w, r, rfl, h1, h2⟩ := h
    simp only [Rv] at h1
    subst h1
    rw [RvL.ints h2]; rfl

/-! ### the moves of the tracked heap -/
variable {S : Sta}
/-- a new tracked object -/
def Sta.push (S : Sta) (p : Addr) (o : O) (H' : Hp) : Sta := ⟨S.G, S.al ++ [p], S.h ++ [some o], H', S.pv⟩
theorem Step.al_lt {S S' : Sta} (s : Step S S') {i : Nat} {p : Addr} (h : S.al[i]? = some p) : S'.al[i]? = some p := by
  obtain ⟨r, hr⟩ := s.al
  rw [← hr, List.getElem?_append_left (List.getElem?_eq_some_iff.mp h).1]
  exact h
theorem trk_push {p : Addr} {o : O} {H' : Hp} (k : Ok S) {b : Addr} : Trk (S.push p o H') b ↔ Trk S b ∨ b = p := by
  constructor
  · rintro ⟨i, o', h1, h2⟩
    by_cases hi : i < S.al.length
    · simp only [Sta.push] at h1 h2
      rw [List.getElem?_append_left hi] at h1
      rw [List.getElem?_append_left (by rw [← k.len]; exact hi)] at h2
      exact .inl ⟨i, o', h1, h2⟩
    · simp only [Sta.push] at h1
      rw [List.getElem?_append_right (by omega)] at h1
      have : i - S.al.length = 0 := by
        have := (List.getElem?_eq_some_iff.mp h1).1
        simp at this; omega
      rw [this] at h1
      simp at h1
      exact .inr h1.symm
  · rintro (⟨i, o', h1, h2⟩ | rfl)
    · refine ⟨i, o', ?_, ?_⟩
      · simp only [Sta.push]; rw [List.getElem?_append_left (List.getElem?_eq_some_iff.mp h1).1]; exact h1
      · simp only [Sta.push]; rw [List.getElem?_append_left (List.getElem?_eq_some_iff.mp h2).1]; exact h2
    · refine ⟨S.al.length, o, ?_, ?_⟩
      · simp [Sta.push]
      · simp only [Sta.push]; rw [k.len]; simp
theorem own_push {p : Addr} {o : O} {H' : Hp} (k : Ok S) {b : Addr} : Own (S.push p o H') b ↔ Own S b ∨ b = p := by
  unfold Own
  rw [trk_push k]
  show (Trk S b ∨ b = p) ∨ b ∈ S.pv ↔ _
  constructor
  · rintro ((h | h) | h)
    · exact .inl (.inl h)
    · exact .inr h
    · exact .inl (.inr h)
  · rintro ((h | h) | h)
    · exact .inl (.inl h)
    · exact .inr h
    · exact .inl (.inr h)
/-- the heap that grows by what was free -/
def Grow (H H' : Hp) : Prop := ∀ b o, H b = some o → H' b = some o
theorem Grow.upd {H : Hp} {p : Addr} {u : HO} (n : H p = none) : Grow H (upd H p u) := fun b o e => by
  rw [upd_ne (ne_of_none e n)]; exact e
theorem Grow.trans {H H1 H2 : Hp} (a : Grow H H1) (b : Grow H1 H2) : Grow H H2 := fun c o e => b c o (a c o e)
theorem grow_pv {H' : Hp} (k : Ok S) (g : Grow S.H H') : ∀ b ∈ S.pv, H' b = S.H b := fun b hb => by
  obtain ⟨u, hu⟩ := (k.priv b hb).1
  rw [hu]; exact g _ _ hu
theorem step_push {p : Addr} {o : O} {H' : Hp} (k : Ok S) (n : S.H p = none) (g : Grow S.H H') : Step S (S.push p o H') :=
  ⟨rfl, List.prefix_append _ _, fun b o e _ => g b o e, fun b h => ((own_push k).mp h).imp id (fun e => by rw [e]; exact n), rfl, grow_pv k g⟩
theorem ok_push {p : Addr} {o : O} {u : HO} {H' : Hp} (k : Ok S) (n : S.H p = none) (g : Grow S.H H') (hp : H' p = some u) (r : RO (S.push p o H') o u) : Ok (S.push p o H') := by
  have st := step_push (o := o) k n g
  refine ⟨by simp [Sta.push, k.len], ?_, ?_, fun q hq => ⟨?_, fun z => ?_⟩⟩
  rotate_left 2
  · obtain ⟨u', hu⟩ := (k.priv q hq).1
    exact ⟨u', g _ _ hu⟩
  · rcases (trk_push k).mp z with z | z
    · exact (k.priv q hq).2 z
    · obtain ⟨u', hu⟩ := (k.priv q hq).1
      rw [z, n] at hu; cases hu
  · intro i o' q h1 h2
    by_cases hi : i < S.h.length
    · simp only [Sta.push] at h1 h2
      rw [List.getElem?_append_left hi] at h1
      rw [List.getElem?_append_left (by rw [k.len]; exact hi)] at h2
      obtain ⟨u', hu, ru⟩ := k.rel i o' q h1 h2
      exact ⟨u', g _ _ hu, ru.mono st⟩
    · simp only [Sta.push] at h1 h2
      rw [List.getElem?_append_right (by omega)] at h1
      rw [List.getElem?_append_right (by rw [k.len]; omega)] at h2
      have : i - S.h.length = 0 := by
        have := (List.getElem?_eq_some_iff.mp h1).1
        simp at this; omega
      rw [k.len, this] at h2
      rw [this] at h1
      simp at h1 h2
      subst h1; subst h2
      exact ⟨u, hp, r⟩
  · intro i j o1 o2 q h1 h2 a1 a2
    have key : ∀ i o1, (S.push p o H').h[i]? = some (some o1) → (S.push p o H').al[i]? = some q → (i < S.h.length ∧ S.h[i]? = some (some o1) ∧ S.al[i]? = some q ∧ S.H q ≠ none) ∨ (i = S.h.length ∧ q = p) := by
      intro i o1 h1 a1
      by_cases hi : i < S.h.length
      · simp only [Sta.push] at h1 a1
        rw [List.getElem?_append_left hi] at h1
        rw [List.getElem?_append_left (by rw [k.len]; exact hi)] at a1
        obtain ⟨u', hu, _⟩ := k.rel i o1 q h1 a1
        exact .inl ⟨hi, h1, a1, by rw [hu]; simp⟩
      · simp only [Sta.push] at h1 a1
        rw [List.getElem?_append_right (by omega)] at h1
        rw [List.getElem?_append_right (by rw [k.len]; omega)] at a1
        have e : i - S.h.length = 0 := by
          have := (List.getElem?_eq_some_iff.mp h1).1
          simp at this; omega
        rw [k.len, e] at a1
        simp at a1
        exact .inr ⟨by omega, a1.symm⟩
    rcases key i o1 h1 a1 with ⟨b1, b2, b3, b4⟩ | ⟨b1, b2⟩ <;> rcases key j o2 h2 a2 with ⟨c1, c2, c3, c4⟩ | ⟨c1, c2⟩
    · exact k.inj i j o1 o2 q b2 c2 b3 c3
    · subst c2; exact absurd n b4
    · subst b2; exact absurd n c4
    · omega
/-- the heap grows, nothing new is tracked -/
def Sta.at (S : Sta) (H' : Hp) : Sta := ⟨S.G, S.al, S.h, H', S.pv⟩
theorem own_at {H' : Hp} {b : Addr} : Own (S.at H') b ↔ Own S b := Iff.rfl
theorem step_at {H' : Hp} (k : Ok S) (g : Grow S.H H') : Step S (S.at H') := ⟨rfl, List.prefix_rfl, fun b o e _ => g b o e, fun _ h => .inl h, rfl, grow_pv k g⟩
theorem ok_at {H' : Hp} (k : Ok S) (g : Grow S.H H') : Ok (S.at H') :=
  ⟨k.len, fun i o p h1 h2 => by
    obtain ⟨u, hu, r⟩ := k.rel i o p h1 h2
    exact ⟨u, g _ _ hu, r.mono (step_at k g)⟩, k.inj, fun q hq => ⟨by
      obtain ⟨u', hu⟩ := (k.priv q hq).1
      exact ⟨u', g _ _ hu⟩, (k.priv q hq).2⟩⟩
theorem fz_new {H' : Hp} {p : Addr} {u : HO} (k : Ok S) (n : S.H p = none) (hp : H' p = some u) : Fz (S.at H') p u := ⟨hp, fun z => k.fresh n z⟩
/-- a tracked object changes -/
def Sta.put (S : Sta) (i : Nat) (o : O) (H' : Hp) : Sta := ⟨S.G, S.al, S.h.set i (some o), H', S.pv⟩
theorem trk_put {i : Nat} {o o' : O} {H' : Hp} (h : S.h[i]? = some (some o)) {b : Addr} : Trk (S.put i o' H') b ↔ Trk S b := by
  have hl := (List.getElem?_eq_some_iff.mp h).1
  constructor
  · rintro ⟨j, u, h1, h2⟩
    by_cases e : i = j
    · subst e; exact ⟨i, o, h1, h⟩
    · exact ⟨j, u, h1, by simp only [Sta.put] at h2; rw [List.getElem?_set_ne e] at h2; exact h2⟩
  · rintro ⟨j, u, h1, h2⟩
    by_cases e : i = j
    · subst e; exact ⟨i, o', h1, by simp only [Sta.put]; rw [List.getElem?_set_self hl]⟩
    · exact ⟨j, u, h1, by simp only [Sta.put]; rw [List.getElem?_set_ne e]; exact h2⟩
theorem own_put {i : Nat} {o o' : O} {H' : Hp} (h : S.h[i]? = some (some o)) {b : Addr} : Own (S.put i o' H') b ↔ Own S b := by
  unfold Own
  rw [trk_put h]
  exact Iff.rfl
theorem step_put {i : Nat} {o o' : O} {p : Addr} {u : HO} (k : Ok S) (h : S.h[i]? = some (some o)) (hp : S.al[i]? = some p) : Step S (S.put i o' (upd S.H p u)) :=
  ⟨rfl, List.prefix_rfl, fun b w e n => by
    simp only [Sta.put]
    rw [upd_ne (fun z => n (by rw [z]; exact .inl ⟨i, o, hp, h⟩))]; exact e, fun b z => .inl ((own_put h).mp z), rfl, fun b hb => by
    show upd S.H p u b = _
    rw [upd_ne (fun z => (k.priv b hb).2 (by rw [z]; exact ⟨i, o, hp, h⟩))]⟩
theorem ok_put {i : Nat} {o o' : O} {p : Addr} {u : HO} (k : Ok S) (h : S.h[i]? = some (some o)) (hp : S.al[i]? = some p) (r : RO S o' u) : Ok (S.put i o' (upd S.H p u)) := by
  have st := step_put (o' := o') (u := u) k h hp
  have hl := (List.getElem?_eq_some_iff.mp h).1
  have back : ∀ (j : Nat) (w : O), (S.put i o' (upd S.H p u)).h[j]? = some (some w) → ∃ w' : O, S.h[j]? = some (some w') := by
    intro j w hj
    simp only [Sta.put] at hj
    by_cases e : i = j
    · subst e; exact ⟨o, h⟩
    · rw [List.getElem?_set_ne e] at hj; exact ⟨w, hj⟩
  refine ⟨by simp [Sta.put, k.len], ?_, ?_, fun q hq => ⟨?_, fun z => (k.priv q hq).2 ((trk_put h).mp z)⟩⟩
  rotate_left 2
  · obtain ⟨u', hu⟩ := (k.priv q hq).1
    rw [← st.pk q hq] at hu
    exact ⟨u', hu⟩
  · intro j w q h1 h2
    by_cases e : i = j
    · subst e
      simp only [Sta.put] at h1 h2
      rw [List.getElem?_set_self hl] at h1
      rw [hp] at h2
      cases h1; cases h2
      exact ⟨u, upd_same, r.mono st⟩
    · simp only [Sta.put] at h1 h2
      rw [List.getElem?_set_ne e] at h1
      obtain ⟨u', hu, ru⟩ := k.rel j w q h1 h2
      refine ⟨u', ?_, ru.mono st⟩
      simp only [Sta.put]
      rw [upd_ne]
      · exact hu
      · rintro rfl
        exact e (k.inj i j o w q h h1 hp h2)
  · intro j l w1 w2 q h1 h2 a1 a2
    obtain ⟨w1', h1'⟩ := back j w1 h1
    obtain ⟨w2', h2'⟩ := back l w2 h2
    exact k.inj j l w1' w2' q h1' h2' a1 a2
/-- a tracked object is let go -/
def Sta.gone (S : Sta) (i : Nat) : Sta := ⟨S.G, S.al, S.h.set i none, S.H, S.pv⟩
theorem trk_gone {i : Nat} {b : Addr} (h : Trk (S.gone i) b) : ∃ (j : Nat) (o : O), j ≠ i ∧ S.al[j]? = some b ∧ S.h[j]? = some (some o) := by
  obtain ⟨j, o, h1, h2⟩ := h
  simp only [Sta.gone] at h1 h2
  by_cases e : i = j
  · subst e
    rw [List.getElem?_set] at h2
    simp at h2
  · rw [List.getElem?_set_ne e] at h2
    exact ⟨j, o, Ne.symm e, h1, h2⟩
theorem own_gone {i : Nat} {b : Addr} (h : Own (S.gone i) b) : Own S b := by
  rcases h with h | h
  · obtain ⟨j, o, _, h1, h2⟩ := trk_gone h
    exact .inl ⟨j, o, h1, h2⟩
  · exact .inr h
theorem step_gone (i : Nat) : Step S (S.gone i) := ⟨rfl, List.prefix_rfl, fun _ _ h _ => h, fun b z => .inl (own_gone z), rfl, fun _ _ => rfl⟩
theorem ok_gone {i : Nat} (k : Ok S) : Ok (S.gone i) := by
  have back : ∀ (j : Nat) (w : O), (S.gone i).h[j]? = some (some w) → S.h[j]? = some (some w) := by
    intro j w hj
    simp only [Sta.gone] at hj
    by_cases e : i = j
    · subst e; rw [List.getElem?_set] at hj; simp at hj
    · rw [List.getElem?_set_ne e] at hj; exact hj
  exact ⟨by simp [Sta.gone, k.len], fun j w q h1 h2 => by
    obtain ⟨u, hu, ru⟩ := k.rel j w q (back j w h1) h2
    exact ⟨u, hu, ru.mono (step_gone i)⟩, fun j l w1 w2 q h1 h2 => k.inj j l w1 w2 q (back _ _ h1) (back _ _ h2), fun q hq => ⟨(k.priv q hq).1, fun z => by
      obtain ⟨j, o, _, h1, h2⟩ := trk_gone z
      exact (k.priv q hq).2 ⟨j, o, h1, h2⟩⟩⟩
theorem nown_gone {i : Nat} {o : O} {p : Addr} (k : Ok S) (h : S.h[i]? = some (some o)) (hp : S.al[i]? = some p) : ¬ Own (S.gone i) p := fun z => by
  rcases z with z | z
  · obtain ⟨j, o', ne, h1, h2⟩ := trk_gone z
    exact ne (k.inj j i o' o p h2 h h1 hp)
  · exact (k.priv p z).2 ⟨i, o, hp, h⟩
/-- something new is made in private -/
def Sta.hide (S : Sta) (p : Addr) (H' : Hp) : Sta := ⟨S.G, S.al, S.h, H', p :: S.pv⟩
/-- what was made in private is given out -/
def Sta.show (S : Sta) (pv : List Addr) : Sta := ⟨S.G, S.al, S.h, S.H, pv⟩
theorem tr_hide {p : Addr} {u : HO} (n : S.H p = none) : Tr S (S.hide p (upd S.H p u)) := ⟨rfl, List.prefix_rfl, fun q o f => by
  have ne : q ≠ p := fun z => by rw [z] at f; rw [f.1] at n; cases n
  refine ⟨by show upd S.H p u q = _; rw [upd_ne ne]; exact f.1, fun z => ?_⟩
  rcases z with z | z
  · exact f.2 (.inl z)
  · rcases List.mem_cons.mp z with z | z
    · exact ne z
    · exact f.2 (.inr z)⟩
theorem ok_hide {p : Addr} {u : HO} (k : Ok S) (n : S.H p = none) : Ok (S.hide p (upd S.H p u)) := ⟨k.len, fun i o q h1 h2 => by
    obtain ⟨w, hw, r⟩ := k.rel i o q h1 h2
    exact ⟨w, Grow.upd n _ _ hw, r.tr (tr_hide n)⟩, k.inj, fun q hq => by
    rcases List.mem_cons.mp hq with rfl | hq
    · exact ⟨⟨u, upd_same⟩, fun z => k.fresh n (.inl z)⟩
    · obtain ⟨⟨w, hw⟩, nt⟩ := k.priv q hq
      exact ⟨⟨w, Grow.upd n _ _ hw⟩, nt⟩⟩
theorem tr_show {p : Addr} {pv : List Addr} (e : S.pv = p :: pv) : Tr S (S.show pv) := ⟨rfl, List.prefix_rfl, fun q o f => ⟨f.1, fun z => by
  rcases z with z | z
  · exact f.2 (.inl z)
  · exact f.2 (.inr (by rw [e]; exact List.mem_cons_of_mem _ z))⟩⟩
theorem ok_show {p : Addr} {pv : List Addr} (k : Ok S) (e : S.pv = p :: pv) : Ok (S.show pv) := ⟨k.len, fun i o q h1 h2 => by
    obtain ⟨w, hw, r⟩ := k.rel i o q h1 h2
    exact ⟨w, hw, r.tr (tr_show e)⟩, k.inj, fun q hq => k.priv q (by rw [e]; exact List.mem_cons_of_mem _ hq)⟩
/-- the private thing changes -/
def Sta.fill (S : Sta) (H' : Hp) : Sta := ⟨S.G, S.al, S.h, H', S.pv⟩
theorem tr_fill {p : Addr} {u : HO} (h : p ∈ S.pv) : Tr S (S.fill (upd S.H p u)) := ⟨rfl, List.prefix_rfl, fun q o f => ⟨by
    show upd S.H p u q = _
    rw [upd_ne (fun z => f.2 (.inr (by rw [z]; exact h)))]; exact f.1, f.2⟩⟩
theorem ok_fill {p : Addr} {u : HO} (k : Ok S) (h : p ∈ S.pv) : Ok (S.fill (upd S.H p u)) := ⟨k.len, fun i o q h1 h2 => by
    obtain ⟨w, hw, r⟩ := k.rel i o q h1 h2
    refine ⟨w, ?_, r.tr (tr_fill h)⟩
    show upd S.H p u q = _
    rw [upd_ne (fun z => (k.priv p h).2 ⟨i, o, by rw [← z]; exact h2, h1⟩)]; exact hw, k.inj, fun q hq => by
    obtain ⟨⟨w, hw⟩, nt⟩ := k.priv q hq
    by_cases z : q = p
    · subst z; exact ⟨⟨u, upd_same⟩, nt⟩
    · exact ⟨⟨w, by show upd S.H p u q = _; rw [upd_ne z]; exact hw⟩, nt⟩⟩
/-- what the public sees while something is made in private: S0 before, S now -/
structure Priv (S0 S : Sta) (p : Addr) : Prop where
  st : Step S0 (S.show S0.pv)
  pv : S.pv = p :: S0.pv
  new : S0.H p = none
theorem Priv.start {p : Addr} {u : HO} (k : Ok S) (n : S.H p = none) : Priv S (S.hide p (upd S.H p u)) p :=
  ⟨⟨rfl, List.prefix_rfl, fun b o e _ => Grow.upd n b o e, fun b z => .inl z, rfl, fun b hb => grow_pv k (Grow.upd n) b hb⟩, rfl, n⟩
theorem Priv.tr {S0 S : Sta} {p : Addr} (x : Priv S0 S p) : Tr S0 S := ⟨x.st.G, x.st.al, fun q o f => by
  obtain ⟨h1, h2⟩ := f.mono x.st
  refine ⟨h1, fun z => ?_⟩
  rcases z with z | z
  · exact h2 (.inl z)
  · rw [x.pv] at z
    rcases List.mem_cons.mp z with z | z
    · rw [z] at f; have := f.1; rw [x.new] at this; cases this
    · exact h2 (.inr z)⟩
theorem Priv.step {S0 S S' : Sta} {p : Addr} (x : Priv S0 S p) (k0 : Ok S0) (k : Ok S) (k' : Ok S') (s : Step S S') : Priv S0 S' p := by
  have hp : p ∈ S.pv := by rw [x.pv]; exact List.mem_cons_self
  refine ⟨x.st.trans ⟨s.G, s.al, fun b o e n => ?_, fun b z => ?_, rfl, fun b hb => ?_⟩, s.pv.trans x.pv, x.new⟩
  · by_cases z : b = p
    · subst z; exact (s.pk b hp).trans e
    · refine s.keep b o e fun w => ?_
      rcases w with w | w
      · exact n (.inl w)
      · rw [x.pv] at w
        rcases List.mem_cons.mp w with w | w
        · exact z w
        · exact n (.inr w)
  · have hb : Own S' b := by
      rcases z with z | z
      · exact .inl z
      · exact .inr (by rw [s.pv, x.pv]; exact List.mem_cons_of_mem _ z)
    rcases s.own b hb with w | w
    · rcases w with w | w
      · exact .inl (.inl w)
      · rw [x.pv] at w
        rcases List.mem_cons.mp w with w | w
        · subst w
          rcases z with z | z
          · exact absurd z (k'.priv b (by rw [s.pv]; exact hp)).2
          · exact .inl (.inr z)
        · exact .inl (.inr w)
    · exact .inr w
  · exact s.pk b (by rw [x.pv]; exact List.mem_cons_of_mem _ hb)
theorem Priv.fill {S0 S : Sta} {p : Addr} {u : HO} (x : Priv S0 S p) (k0 : Ok S0) : Priv S0 (S.fill (upd S.H p u)) p := by
  refine ⟨⟨x.st.G, x.st.al, fun b o e n => ?_, x.st.own, rfl, fun b hb => ?_⟩, x.pv, x.new⟩
  · have ne : b ≠ p := fun z => by rw [z, x.new] at e; cases e
    show upd S.H p u b = _
    rw [upd_ne ne]; exact x.st.keep b o e n
  · have ne : b ≠ p := fun z => by
      obtain ⟨w, hw⟩ := (k0.priv b hb).1
      rw [z, x.new] at hw; cases hw
    show upd S.H p u b = _
    rw [upd_ne ne]; exact x.st.pk b hb
theorem Priv.nown {S0 S : Sta} {p : Addr} (x : Priv S0 S p) (k0 : Ok S0) (k : Ok S) : ¬ Own (S.show S0.pv) p := fun z => by
  rcases z with z | z
  · exact (k.priv p (by rw [x.pv]; exact List.mem_cons_self)).2 z
  · exact k0.fresh x.new (.inr z)
/-- the private thing becomes a tracked one -/
def Sta.adopt (S : Sta) (pv : List Addr) (p : Addr) (o : O) : Sta := ⟨S.G, S.al ++ [p], S.h ++ [some o], S.H, pv⟩
theorem Priv.adopt {S0 S : Sta} {p : Addr} {o : O} {u : HO} (x : Priv S0 S p) (k0 : Ok S0) (k : Ok S) (hp : S.H p = some u) (r : RO S o u) : Ok (S.adopt S0.pv p o) ∧ Step S0 (S.adopt S0.pv p o) := by
  have hm : p ∈ S.pv := by rw [x.pv]; exact List.mem_cons_self
  have nt := (k.priv p hm).2
  have trk : ∀ b, Trk (S.adopt S0.pv p o) b → Trk S b ∨ b = p := by
    rintro b ⟨i, o', h1, h2⟩
    by_cases hi : i < S.al.length
    · simp only [Sta.adopt] at h1 h2
      rw [List.getElem?_append_left hi] at h1
      rw [List.getElem?_append_left (by rw [← k.len]; exact hi)] at h2
      exact .inl ⟨i, o', h1, h2⟩
    · simp only [Sta.adopt] at h1
      rw [List.getElem?_append_right (by omega)] at h1
      have : i - S.al.length = 0 := by
        have := (List.getElem?_eq_some_iff.mp h1).1
        simp at this; omega
      rw [this] at h1
      simp at h1
      exact .inr h1.symm
  have tr : Tr S (S.adopt S0.pv p o) := ⟨rfl, List.prefix_append _ _, fun q w f => ⟨f.1, fun z => by
    rcases z with z | z
    · rcases trk q z with z | z
      · exact f.2 (.inl z)
      · exact f.2 (.inr (by rw [z]; exact hm))
    · exact f.2 (.inr (by rw [x.pv]; exact List.mem_cons_of_mem _ z))⟩⟩
  constructor
  · refine ⟨by simp [Sta.adopt, k.len], ?_, ?_, ?_⟩
    · intro i o' q h1 h2
      by_cases hi : i < S.h.length
      · simp only [Sta.adopt] at h1 h2
        rw [List.getElem?_append_left hi] at h1
        rw [List.getElem?_append_left (by rw [k.len]; exact hi)] at h2
        obtain ⟨u', hu, ru⟩ := k.rel i o' q h1 h2
        exact ⟨u', hu, ru.tr tr⟩
      · simp only [Sta.adopt] at h1 h2
        rw [List.getElem?_append_right (by omega)] at h1
        rw [List.getElem?_append_right (by rw [k.len]; omega)] at h2
        have : i - S.h.length = 0 := by
          have := (List.getElem?_eq_some_iff.mp h1).1
          simp at this; omega
        rw [k.len, this] at h2
        rw [this] at h1
        simp at h1 h2
        subst h1; subst h2
        exact ⟨u, hp, r.tr tr⟩
    · intro i j o1 o2 q h1 h2 a1 a2
      have key : ∀ (i : Nat) (o1 : O), (S.adopt S0.pv p o).h[i]? = some (some o1) → (S.adopt S0.pv p o).al[i]? = some q → (i < S.h.length ∧ S.h[i]? = some (some o1) ∧ S.al[i]? = some q ∧ q ≠ p) ∨ (i = S.h.length ∧ q = p) := by
        intro i o1 h1 a1
        by_cases hi : i < S.h.length
        · simp only [Sta.adopt] at h1 a1
          rw [List.getElem?_append_left hi] at h1
          rw [List.getElem?_append_left (by rw [k.len]; exact hi)] at a1
          exact .inl ⟨hi, h1, a1, fun z => nt ⟨i, o1, by rw [← z]; exact a1, h1⟩⟩
        · simp only [Sta.adopt] at h1 a1
          rw [List.getElem?_append_right (by omega)] at h1
          rw [List.getElem?_append_right (by rw [k.len]; omega)] at a1
          have e : i - S.h.length = 0 := by
            have := (List.getElem?_eq_some_iff.mp h1).1
            simp at this; omega
          rw [k.len, e] at a1
          simp at a1
          exact .inr ⟨by omega, a1.symm⟩
      rcases key i o1 h1 a1 with ⟨b1, b2, b3, b4⟩ | ⟨b1, b2⟩ <;> rcases key j o2 h2 a2 with ⟨c1, c2, c3, c4⟩ | ⟨c1, c2⟩
      · exact k.inj i j o1 o2 q b2 c2 b3 c3
      · exact absurd c2 b4
      · exact absurd b2 c4
      · omega
    · intro q hq
      refine ⟨(k.priv q (by rw [x.pv]; exact List.mem_cons_of_mem _ hq)).1, fun z => ?_⟩
      rcases trk q z with z | z
      · exact (k.priv q (by rw [x.pv]; exact List.mem_cons_of_mem _ hq)).2 z
      · exact k0.fresh x.new (.inr (by rw [← z]; exact hq))
  · refine ⟨x.st.G, x.st.al.trans (List.prefix_append _ _), x.st.keep, fun b z => ?_, rfl, x.st.pk⟩
    rcases z with z | z
    · rcases trk b z with z | z
      · exact x.st.own b (.inl z)
      · rw [z]; exact .inr x.new
    · exact .inl (.inr z)
end M
/-! ### what a piece of the program does, as a function on trees and the tracked heap; and that it stands for the layer's readings -/
namespace M
open PySem PySem.Spec PyProof.Rows L2

inductive Res (α : Type) where
  | bad | ok (a : α) (h : AH) | exc (e : Exc) (h : AH)
  deriving Inhabited
def Res.bind {α β : Type} (x : Res α) (f : α → AH → Res β) : Res β := match x with | .bad => .bad | .ok a h => f a h | .exc e h => .exc e h
@[simp] theorem bind_ok {α β : Type} {a : α} {h : AH} {f : α → AH → Res β} : Res.bind (.ok a h) f = f a h := rfl
@[simp] theorem bind_bad {α β : Type} {f : α → AH → Res β} : Res.bind .bad f = .bad := rfl
@[simp] theorem bind_exc {α β : Type} {e : Exc} {h : AH} {f : α → AH → Res β} : Res.bind (.exc e h) f = .exc e h := rfl
def pur {α : Type} (o : Option α) (h : AH) : Res α := match o with | some a => .ok a h | none => .bad
@[simp] theorem pur_some {α : Type} {a : α} {h : AH} : pur (some a) h = .ok a h := rfl
@[simp] theorem pur_none {α : Type} {h : AH} : pur (none : Option α) h = .bad := rfl
def PostG {α : Type} (S : Sta) (X : Exc → Sta → Prop) (P : α → Sta → Prop) : Res α → Prop
  | .bad => False
  | .ok a h' => ∀ S', S'.h = h' → Ok S' → Step S S' → P a S'
  | .exc e h' => ∀ S', S'.h = h' → Ok S' → Step S S' → X e S'
theorem PostG.mono {α : Type} {S S1 : Sta} {X : Exc → Sta → Prop} {P : α → Sta → Prop} (s : Step S S1) : ∀ {r : Res α}, PostG S X P r → PostG S1 X P r
  | .bad, h => h
  | .ok _ _, h => fun S' e k st => h S' e k (s.trans st)
  | .exc _ _, h => fun S' e k st => h S' e k (s.trans st)
theorem PostG.imp {α : Type} {S : Sta} {X : Exc → Sta → Prop} {P P' : α → Sta → Prop} : ∀ {r : Res α}, (∀ a S', P a S' → P' a S') → PostG S X P r → PostG S X P' r
  | .bad, _, h => h
  | .ok _ _, f, h => fun S' e k st => f _ _ (h S' e k st)
  | .exc _ _, _, h => h
theorem PostG.bind {α β : Type} {S : Sta} {X : Exc → Sta → Prop} {P : β → Sta → Prop} {f : α → AH → Res β} : ∀ {x : Res α}, PostG S X P (x.bind f) → PostG S X (fun a S1 => Ok S1 ∧ Step S S1 ∧ PostG S1 X P (f a S1.h)) x
  | .bad, h => h
  | .ok a h', h => fun S' e k st => by
    subst e
    exact ⟨k, st, PostG.mono st h⟩
  | .exc _ _, h => h
/-- the caught thing, as the layer has it -/
def RX (S : Sta) (e : Exc) (cls : Value) (d : Option Addr) : Prop := cls = .ref (S.G.ca e.c) ∧ ((e.ns = [] ∧ e.l = [] ∧ d = none) ∨ ∃ a vs, d = some a ∧ Fz S a (.xd (e.ns.zip vs)) ∧ e.ns.length = e.l.length ∧ RvL S e.l vs)
def XP (E : XK) : Exc → Sta → Prop := fun e S => ∀ cls d, RX S e cls d → E cls d S.H
abbrev LS := List (Option T)
def RS0 (S : Sta) : LS → L2.St → Prop
  | [], σ => σ = []
  | o :: τ, σ => ∃ v r, σ = v :: r ∧ (∀ t, o = some t → ∃ w, v = some w ∧ Rv S t w) ∧ RS0 S τ r
theorem RS0.mono {S S' : Sta} (s : Step S S') : ∀ {τ : LS} {σ : L2.St}, RS0 S τ σ → RS0 S' τ σ
  | [], _, h => h
  | _ :: _, _, ⟨v, r, e, h, q⟩ => ⟨v, r, e, fun t ht => let ⟨w, h1, h2⟩ := h t ht; ⟨w, h1, h2.mono s⟩, RS0.mono s q⟩
theorem RS0.get {S : Sta} : ∀ {τ : LS} {σ : L2.St} {i : Nat} {t : T}, RS0 S τ σ → τ[i]? = some (some t) → ∃ w : V, σ[i]? = some (some w) ∧ Rv S t w
  | [], _, _, _, _, e => by simp at e
  | o :: τ, _, 0, t, ⟨v, r, rfl, h, q⟩, e => by
    simp at e
    obtain ⟨w, h1, h2⟩ := h t e
    exact ⟨w, by simp [h1], h2⟩
  | o :: τ, _, i + 1, t, ⟨v, r, rfl, h, q⟩, e => by
    obtain ⟨w, h1, h2⟩ := RS0.get (i := i) q (by simpa using e)
    exact ⟨w, by simpa using h1, h2⟩
theorem RS0.set {S : Sta} {t : T} {w : V} (a : Rv S t w) : ∀ {τ : LS} {σ : L2.St} (i : Nat), RS0 S τ σ → RS0 S (τ.set i (some t)) (σ.set i (some w))
  | [], _, _, h => by rw [show _ = [] from h]; rfl
  | _ :: _, _, 0, ⟨v, r, rfl, h, q⟩ => ⟨_, _, rfl, fun t' ht => by cases ht; exact ⟨w, rfl, a⟩, q⟩
  | _ :: _, _, i + 1, ⟨v, r, rfl, h, q⟩ => ⟨_, _, rfl, h, RS0.set a i q⟩
theorem RS0.unset {S : Sta} {v' : Option V} : ∀ {τ : LS} {σ : L2.St} (i : Nat), RS0 S τ σ → RS0 S (τ.set i none) (σ.set i v')
  | [], _, _, h => by rw [show _ = [] from h]; rfl
  | _ :: _, _, 0, ⟨v, r, rfl, h, q⟩ => ⟨_, _, rfl, (fun t' ht => by cases ht), q⟩
  | _ :: _, _, i + 1, ⟨v, r, rfl, h, q⟩ => ⟨_, _, rfl, h, RS0.unset i q⟩
/-- a slot is forgotten -/
theorem RS0.drop1 {S : Sta} : ∀ {τ : LS} {σ : L2.St} (i : Nat), RS0 S τ σ → RS0 S (τ.set i none) σ
  | [], _, _, h => by rw [show _ = [] from h]; rfl
  | _ :: _, _, 0, ⟨v, r, e, h, q⟩ => ⟨v, r, e, (fun t' ht => by cases ht), q⟩
  | _ :: _, _, i + 1, ⟨v, r, e, h, q⟩ => ⟨v, r, e, h, RS0.drop1 i q⟩

theorem RX.tr {S S' : Sta} (s : Tr S S') {e : Exc} {cls : Value} {d : Option Addr} (h : RX S e cls d) : RX S' e cls d := by
  obtain ⟨h1, h2⟩ := h
  refine ⟨by rw [s.G]; exact h1, h2.imp id ?_⟩
  rintro ⟨a, vs, e1, f, n, r⟩
  exact ⟨a, vs, e1, s.fz _ _ f, n, r.tr s⟩
/-- what is caught stands in its slot -/
def XI (S : Sta) (σ : L2.St) : Prop := ∀ x, S.G.ex = some x → σ[x.i]? = some (some (.ref x.a)) ∧ RX S x.e x.cls x.d
theorem XI.tr {S S' : Sta} (s : Tr S S') {σ : L2.St} (h : XI S σ) : XI S' σ := fun x hx => by
  rw [s.G] at hx
  exact ⟨(h x hx).1, (h x hx).2.tr s⟩
/-- the slot is not that of what is caught -/
def NoSl (G : Env) (i : Nat) : Prop := ∀ x, G.ex = some x → i ≠ x.i
theorem noSl_none {G : Env} {i : Nat} (h : G.ex = none) : NoSl G i := fun x hx => by rw [h] at hx; cases hx
theorem noSl_ne {K : PySem.W.Frag} {ca : Str → Addr} {fa : Str → V} {a : Addr} {cls : Value} {d : Option Addr} {i0 : Nat} {e : Exc} {i : Nat} (h : i ≠ i0) : NoSl (Env.mk K ca fa (some ⟨a, cls, d, i0, e⟩)) i := fun y hy => by cases hy; exact h
theorem XI.set {S : Sta} {σ : L2.St} {i : Nat} {v : Option V} (h : XI S σ) (hn : NoSl S.G i) : XI S (σ.set i v) := fun x hx => by
  refine ⟨?_, (h x hx).2⟩
  rw [List.getElem?_set_ne (hn x hx)]
  exact (h x hx).1
structure RS (S : Sta) (τ : LS) (σ : L2.St) : Prop where
  r : RS0 S τ σ
  x : XI S σ
theorem RS.mono {S S' : Sta} (s : Step S S') {τ : LS} {σ : L2.St} (h : RS S τ σ) : RS S' τ σ := ⟨h.r.mono s, h.x.tr s.tr⟩
theorem RS.get {S : Sta} {τ : LS} {σ : L2.St} {i : Nat} {t : T} (h : RS S τ σ) (e : τ[i]? = some (some t)) : ∃ w : V, σ[i]? = some (some w) ∧ Rv S t w := h.r.get e
theorem RS.set {S : Sta} {t : T} {w : V} (a : Rv S t w) {τ : LS} {σ : L2.St} (i : Nat) (hn : NoSl S.G i) (h : RS S τ σ) : RS S (τ.set i (some t)) (σ.set i (some w)) := ⟨RS0.set a i h.r, h.x.set hn⟩
theorem RS.unset {S : Sta} {v' : Option V} {τ : LS} {σ : L2.St} (i : Nat) (hn : NoSl S.G i) (h : RS S τ σ) : RS S (τ.set i none) (σ.set i v') := ⟨RS0.unset i h.r, h.x.set hn⟩
theorem RS.drop1 {S : Sta} {τ : LS} {σ : L2.St} (i : Nat) (h : RS S τ σ) : RS S (τ.set i none) σ := ⟨RS0.drop1 i h.r, h.x⟩
abbrev FE := LS → AH → Res T
abbrev FA := LS → AH → Res (List T)
abbrev FT := LS → AH → Res Bool
def SimE (G : Env) (E : L2.St → XK) (te : TE) (f : FE) : Prop := ∀ (S : Sta) (σ : L2.St) (τ : LS) (Q : VK), S.G = G → Ok S → RS S τ σ → PostG S (XP (E σ)) (fun t S' => ∀ v, Rv S' t v → Q v S'.H) (f τ S.h) → te σ S.H Q
def SimA (G : Env) (E : L2.St → XK) (te : TA) (f : FA) : Prop := ∀ (S : Sta) (σ : L2.St) (τ : LS) (Q : List V → Hp → Prop), S.G = G → Ok S → RS S τ σ → PostG S (XP (E σ)) (fun t S' => ∀ v, RvL S' t v → Q v S'.H) (f τ S.h) → te σ S.H Q
def SimT (G : Env) (E : L2.St → XK) (te : TT) (f : FT) : Prop := ∀ (S : Sta) (σ : L2.St) (τ : LS) (Q : Bool → Hp → Prop), S.G = G → Ok S → RS S τ σ → PostG S (XP (E σ)) (fun t S' => Q t S'.H) (f τ S.h) → te σ S.H Q
def SimR2 (G : Env) (r : R2) (g : T → T → AH → Res T) : Prop := ∀ (S : Sta) (x y : T) (u v : V) (X : Exc → Sta → Prop) (Q : VK), S.G = G → Ok S → Rv S x u → Rv S y v → PostG S X (fun t S' => ∀ v, Rv S' t v → Q v S'.H) (g x y S.h) → r u v S.H Q
def SimR1 (G : Env) (r : V → Hp → VK → Prop) (g : T → AH → Res T) : Prop := ∀ (S : Sta) (x : T) (u : V) (X : Exc → Sta → Prop) (Q : VK), S.G = G → Ok S → Rv S x u → PostG S X (fun t S' => ∀ v, Rv S' t v → Q v S'.H) (g x S.h) → r u S.H Q
def SimRC (G : Env) (r : List V → Hp → VK → Prop) (g : List T → AH → Res T) : Prop := ∀ (S : Sta) (xs : List T) (us : List V) (X : Exc → Sta → Prop) (Q : VK), S.G = G → Ok S → RvL S xs us → PostG S X (fun t S' => ∀ v, Rv S' t v → Q v S'.H) (g xs S.h) → r us S.H Q

section
variable {G : Env} {E : L2.St → XK} {ta tb tc : TE} {fa fb fc : FE}
@[simp] def mVar (i : Nat) : FE := fun τ h => match τ[i]? with | some (some t) => .ok t h | _ => .bad
theorem sim_var {i : Nat} : SimE G E (tVar i) (mVar i) := fun S σ τ Q e k r p => by
  unfold mVar at p
  split at p
  · rename_i t ht
    obtain ⟨w, h1, h2⟩ := r.get ht
    exact ⟨w, h1, p S rfl k (Step.refl S) w h2⟩
  · exact p.elim
@[simp] def mC (t : T) : FE := fun _ h => .ok t h
theorem sim_c {t : T} {v : V} (h : ∀ S, S.G = G → Rv S t v) : SimE G E (tC v) (mC t) := fun S σ τ Q e k r p => p S rfl k (Step.refl S) v (h S e)
theorem sim_int {i : Int} : SimE G E (tC (.int i)) (mC (.int i)) := sim_c fun _ _ => by simp only [Rv]
theorem sim_bl {b : Bool} : SimE G E (tC (.bl b)) (mC (.bl b)) := sim_c fun _ _ => by simp only [Rv]
theorem sim_str {x : Str} : SimE G E (tC (.str x)) (mC (.str x)) := sim_c fun _ _ => by simp only [Rv]
theorem sim_non : SimE G E (tC .non) (mC .non) := sim_c fun _ _ => by simp only [Rv]
theorem sim_ref {x : Str} {v : V} (h : G.fa x = v) : SimE G E (tC v) (mC (.ref x)) := sim_c fun S e => by simp only [Rv]; rw [e]; exact h.symm
@[simp] def mOp (g : T → T → AH → Res T) (fa fb : FE) : FE := fun τ h => (fa τ h).bind fun x h1 => (fb τ h1).bind fun y h2 => g x y h2
theorem sim_op {r : R2} {g : T → T → AH → Res T} (hr : SimR2 G r g) (ha : SimE G E ta fa) (hb : SimE G E tb fb) : SimE G E (tOp r ta tb) (mOp g fa fb) := fun S σ τ Q e k rs p => by
  refine ha S σ τ _ e k rs (PostG.imp (fun x S1 q u ru => ?_) (PostG.bind p))
  obtain ⟨k1, s1, q⟩ := q
  refine hb S1 σ τ _ (s1.G.trans e) k1 (rs.mono s1) (PostG.imp (fun y S2 q v rv => ?_) (PostG.bind q))
  obtain ⟨k2, s2, q⟩ := q
  exact hr S2 x y u v _ Q (s2.G.trans (s1.G.trans e)) k2 (ru.mono s2) rv q
@[simp] def mUn (g : T → AH → Res T) (fa : FE) : FE := fun τ h => (fa τ h).bind fun x h1 => g x h1
theorem sim_un {r : V → Hp → VK → Prop} {g : T → AH → Res T} (hr : SimR1 G r g) (ha : SimE G E ta fa) : SimE G E (tUn r ta) (mUn g fa) := fun S σ τ Q e k rs p => by
  refine ha S σ τ _ e k rs (PostG.imp (fun x S1 q u ru => ?_) (PostG.bind p))
  obtain ⟨k1, s1, q⟩ := q
  exact hr S1 x u _ Q (s1.G.trans e) k1 ru q
/-! arguments -/
@[simp] def mNil : FA := fun _ h => .ok [] h
@[simp] def mCons (fa : FE) (fr : FA) : FA := fun τ h => (fa τ h).bind fun x h1 => (fr τ h1).bind fun xs h2 => .ok (x :: xs) h2
theorem sim_nil : SimA G E tNil mNil := fun S σ τ Q e k rs p => p S rfl k (Step.refl S) [] RvL.nil
theorem sim_cons {tr : TA} {fr : FA} (ha : SimE G E ta fa) (hb : SimA G E tr fr) : SimA G E (tCons ta tr) (mCons fa fr) := fun S σ τ Q e k rs p => by
  refine ha S σ τ _ e k rs (PostG.imp (fun x S1 q u ru => ?_) (PostG.bind p))
  obtain ⟨k1, s1, q⟩ := q
  refine hb S1 σ τ _ (s1.G.trans e) k1 (rs.mono s1) (PostG.imp (fun y S2 q v rv => ?_) (PostG.bind q))
  obtain ⟨k2, s2, q⟩ := q
  exact q S2 rfl k2 (Step.refl S2) _ (RvL.cons (ru.mono s2) rv)
@[simp] def mCB (g : List T → AH → Res T) (fr : FA) : FE := fun τ h => (fr τ h).bind fun xs h1 => g xs h1
theorem sim_CB {r : List V → Hp → VK → Prop} {g : List T → AH → Res T} {tr : TA} {fr : FA} (hr : SimRC G r g) (ha : SimA G E tr fr) : SimE G E (tCB r tr) (mCB g fr) := fun S σ τ Q e k rs p => by
  refine ha S σ τ _ e k rs (PostG.imp (fun x S1 q u ru => ?_) (PostG.bind p))
  obtain ⟨k1, s1, q⟩ := q
  exact hr S1 x u _ Q (s1.G.trans e) k1 ru q
/-! tests -/
@[simp] def mB (fa : FE) : FT := fun τ h => (fa τ h).bind fun x h1 => match x with | .bl b => .ok b h1 | _ => .bad
theorem sim_B (ha : SimE G E ta fa) : SimT G E (tB ta) (mB fa) := fun S σ τ Q e k rs p => by
  refine ha S σ τ _ e k rs (PostG.imp (fun x S1 q u ru => ?_) (PostG.bind p))
  obtain ⟨k1, s1, q⟩ := q
  split at q
  · simp only [Rv] at ru; exact ⟨_, ru, q S1 rfl k1 (Step.refl S1)⟩
  · exact q.elim
theorem sim_test (ha : SimE G E ta fa) : SimT G E (tTest ta) (mB fa) := fun S σ τ Q e k rs p => by
  refine ha S σ τ _ e k rs (PostG.imp (fun x S1 q u ru => ?_) (PostG.bind p))
  obtain ⟨k1, s1, q⟩ := q
  split at q
  · simp only [Rv] at ru; exact ⟨_, ru, q S1 rfl k1 (Step.refl S1)⟩
  · exact q.elim
@[simp] def mAnd (f g : FT) : FT := fun τ h => (f τ h).bind fun c h1 => if c = true then g τ h1 else .ok false h1
@[simp] def mOr (f g : FT) : FT := fun τ h => (f τ h).bind fun c h1 => if c = true then .ok true h1 else g τ h1
@[simp] def mNot (f : FT) : FT := fun τ h => (f τ h).bind fun c h1 => .ok (!c) h1
theorem sim_and {t u : TT} {f g : FT} (ha : SimT G E t f) (hb : SimT G E u g) : SimT G E (tAnd t u) (mAnd f g) := fun S σ τ Q e k rs p => by
  refine ha S σ τ _ e k rs (PostG.imp (fun c S1 q => ?_) (PostG.bind p))
  obtain ⟨k1, s1, q⟩ := q
  cases c with
  | true => exact hb S1 σ τ Q (s1.G.trans e) k1 (rs.mono s1) q
  | false => exact q S1 rfl k1 (Step.refl S1)
theorem sim_or {t u : TT} {f g : FT} (ha : SimT G E t f) (hb : SimT G E u g) : SimT G E (tOr t u) (mOr f g) := fun S σ τ Q e k rs p => by
  refine ha S σ τ _ e k rs (PostG.imp (fun c S1 q => ?_) (PostG.bind p))
  obtain ⟨k1, s1, q⟩ := q
  cases c with
  | true => exact q S1 rfl k1 (Step.refl S1)
  | false => exact hb S1 σ τ Q (s1.G.trans e) k1 (rs.mono s1) q
theorem sim_not {t : TT} {f : FT} (ha : SimT G E t f) : SimT G E (tNot t) (mNot f) := fun S σ τ Q e k rs p => by
  refine ha S σ τ _ e k rs (PostG.imp (fun c S1 q => ?_) (PostG.bind p))
  obtain ⟨k1, s1, q⟩ := q
  exact q S1 rfl k1 (Step.refl S1)
@[simp] def mAndV (fa fb : FE) : FE := fun τ h => (fa τ h).bind fun x h1 => match x with | .bl c => if c = true then fb τ h1 else .ok (.bl false) h1 | _ => .bad
@[simp] def mOrV (fa fb : FE) : FE := fun τ h => (fa τ h).bind fun x h1 => match x with | .bl c => if c = true then .ok (.bl true) h1 else fb τ h1 | _ => .bad
@[simp] def mNotV (fa : FE) : FE := fun τ h => (fa τ h).bind fun x h1 => match x with | .bl c => .ok (.bl (!c)) h1 | _ => .bad
theorem sim_andV (ha : SimE G E ta fa) (hb : SimE G E tb fb) : SimE G E (tAndV ta tb) (mAndV fa fb) := fun S σ τ Q e k rs p => by
  refine ha S σ τ _ e k rs (PostG.imp (fun x S1 q u ru => ?_) (PostG.bind p))
  obtain ⟨k1, s1, q⟩ := q
  split at q
  · rename_i c
    simp only [Rv] at ru
    refine ⟨c, ru, ?_⟩
    cases c with
    | true => exact hb S1 σ τ Q (s1.G.trans e) k1 (rs.mono s1) q
    | false => exact q S1 rfl k1 (Step.refl S1) _ (by simp only [Rv])
  · exact q.elim
theorem sim_orV (ha : SimE G E ta fa) (hb : SimE G E tb fb) : SimE G E (tOrV ta tb) (mOrV fa fb) := fun S σ τ Q e k rs p => by
  refine ha S σ τ _ e k rs (PostG.imp (fun x S1 q u ru => ?_) (PostG.bind p))
  obtain ⟨k1, s1, q⟩ := q
  split at q
  · rename_i c
    simp only [Rv] at ru
    refine ⟨c, ru, ?_⟩
    cases c with
    | true => exact q S1 rfl k1 (Step.refl S1) _ (by simp only [Rv])
    | false => exact hb S1 σ τ Q (s1.G.trans e) k1 (rs.mono s1) q
  · exact q.elim
theorem sim_notV (ha : SimE G E ta fa) : SimE G E (tNotV ta) (mNotV fa) := fun S σ τ Q e k rs p => by
  refine ha S σ τ _ e k rs (PostG.imp (fun x S1 q u ru => ?_) (PostG.bind p))
  obtain ⟨k1, s1, q⟩ := q
  split at q
  · simp only [Rv] at ru
    exact ⟨_, ru, q S1 rfl k1 (Step.refl S1) _ (by simp only [Rv])⟩
  · exact q.elim
@[simp] def mIfE (f : FT) (fa fb : FE) : FE := fun τ h => (f τ h).bind fun c h1 => if c = true then fa τ h1 else fb τ h1
theorem sim_ifE {t : TT} {f : FT} (hc : SimT G E t f) (ha : SimE G E ta fa) (hb : SimE G E tb fb) : SimE G E (tIf t ta tb) (mIfE f fa fb) := fun S σ τ Q e k rs p => by
  refine hc S σ τ _ e k rs (PostG.imp (fun c S1 q => ?_) (PostG.bind p))
  obtain ⟨k1, s1, q⟩ := q
  cases c with
  | true => exact ha S1 σ τ Q (s1.G.trans e) k1 (rs.mono s1) q
  | false => exact hb S1 σ τ Q (s1.G.trans e) k1 (rs.mono s1) q
@[simp] def mChain (g g' : T → T → AH → Res T) (fa fb fc : FE) : FE := fun τ h => (fa τ h).bind fun x h1 => (fb τ h1).bind fun y h2 => (g x y h2).bind fun z h3 => match z with
  | .bl c => if c = true then (fc τ h3).bind fun w h4 => g' y w h4 else .ok (.bl false) h3
  | _ => .bad
theorem sim_chain {r r' : R2} {g g' : T → T → AH → Res T} (hr : SimR2 G r g) (hr' : SimR2 G r' g') (ha : SimE G E ta fa) (hb : SimE G E tb fb) (hc : SimE G E tc fc) : SimE G E (tChain r r' ta tb tc) (mChain g g' fa fb fc) := fun S σ τ Q e k rs p => by
  refine ha S σ τ _ e k rs (PostG.imp (fun x S1 q u ru => ?_) (PostG.bind p))
  obtain ⟨k1, s1, q⟩ := q
  refine hb S1 σ τ _ (s1.G.trans e) k1 (rs.mono s1) (PostG.imp (fun y S2 q v rv => ?_) (PostG.bind q))
  obtain ⟨k2, s2, q⟩ := q
  refine hr S2 x y u v _ _ (s2.G.trans (s1.G.trans e)) k2 (ru.mono s2) rv (PostG.imp (fun z S3 q w rw' => ?_) (PostG.bind q))
  obtain ⟨k3, s3, q⟩ := q
  split at q
  · rename_i c
    simp only [Rv] at rw'
    refine ⟨c, rw', ?_⟩
    cases c with
    | false => exact q S3 rfl k3 (Step.refl S3) _ (by simp only [Rv])
    | true =>
      have e3 := s3.G.trans (s2.G.trans (s1.G.trans e))
      refine hc S3 σ τ _ e3 k3 (rs.mono ((s1.trans s2).trans s3)) (PostG.imp (fun w S4 q a ra => ?_) (PostG.bind q))
      obtain ⟨k4, s4, q⟩ := q
      exact hr' S4 y w v a _ Q (s4.G.trans e3) k4 (rv.mono (s3.trans s4)) ra q
  · exact q.elim
end
end M
/-! ### operations, subscripts, displays, built-ins -/
namespace M
open PySem PySem.Spec PyProof.Rows L2
variable {G : Env} {E : L2.St → XK} {S : Sta}

/-- a pure operation -/
@[simp] def P2 (g : T → T → Option T) : T → T → AH → Res T := fun x y h => pur (g x y) h
@[simp] def P1 (g : T → Option T) : T → AH → Res T := fun x h => pur (g x) h
theorem simP2 {r : R2} {g : T → T → Option T} (hr : ∀ (S : Sta) (x y t : T) (u v : V) (Q : VK), S.G = G → Ok S → Rv S x u → Rv S y v → g x y = some t → (∀ w, Rv S t w → Q w S.H) → r u v S.H Q) : SimR2 G r (P2 g) := fun S x y u v X Q e k ru rv p => by
  unfold P2 pur at p
  split at p
  · rename_i t ht
    exact hr S x y t u v Q e k ru rv ht fun w rw' => p S rfl k (Step.refl S) w rw'
  · exact p.elim
theorem simP1 {r : V → Hp → VK → Prop} {g : T → Option T} (hr : ∀ (S : Sta) (x t : T) (u : V) (Q : VK), S.G = G → Ok S → Rv S x u → g x = some t → (∀ w, Rv S t w → Q w S.H) → r u S.H Q) : SimR1 G r (P1 g) := fun S x u X Q e k ru p => by
  unfold P1 pur at p
  split at p
  · rename_i t ht
    exact hr S x t u Q e k ru ht fun w rw' => p S rfl k (Step.refl S) w rw'
  · exact p.elim
/-! ints -/
@[simp] def iiT (g : Int → Int → T) : T → T → Option T | .int i, .int j => some (g i j) | _, _ => none
@[simp] def iiC (C : Int → Int → Bool) (g : Int → Int → T) : T → T → Option T | .int i, .int j => if C i j = true then some (g i j) else none | _, _ => none
theorem simI0 {gV : Int → Int → V} {gT : Int → Int → T} (h : ∀ i j S, Rv S (gT i j) (gV i j)) : SimR2 G (rI0 gV) (P2 (iiT gT)) := simP2 fun S x y t u v Q e k ru rv hg q => by
  unfold iiT at hg
  split at hg
  · simp only [Rv] at ru rv
    cases hg
    exact ⟨_, _, ru, rv, q _ (h _ _ _)⟩
  · cases hg
theorem simIC {C : Int → Int → Prop} {B : Int → Int → Bool} {gV : Int → Int → V} {gT : Int → Int → T} (h : ∀ i j S, Rv S (gT i j) (gV i j)) (hc : ∀ i j, B i j = true → C i j) : SimR2 G (rI C gV) (P2 (iiC B gT)) := simP2 fun S x y t u v Q e k ru rv hg q => by
  unfold iiC at hg
  split at hg
  · simp only [Rv] at ru rv
    split at hg
    · rename_i hb
      cases hg
      exact ⟨_, _, ru, rv, hc _ _ hb, q _ (h _ _ _)⟩
    · cases hg
  · cases hg
@[simp] theorem rv_int {i : Int} {v : V} : Rv S (.int i) v ↔ v = .int i := by simp only [Rv]
@[simp] theorem rv_bl {b : Bool} {v : V} : Rv S (.bl b) v ↔ v = .bl b := by simp only [Rv]
@[simp] theorem rv_str {b : Str} {v : V} : Rv S (.str b) v ↔ v = .str b := by simp only [Rv]
@[simp] theorem rv_non {v : V} : Rv S .non v ↔ v = .non := by simp only [Rv]
@[simp] abbrev oAdd := P2 (iiT fun i j => .int (i + j))
@[simp] abbrev oSub := P2 (iiT fun i j => .int (i - j))
@[simp] abbrev oMul := P2 (iiC (fun i j => decide (i.natAbs.log2 + j.natAbs.log2 < 1000000)) fun i j => .int (i * j))
@[simp] abbrev oDiv := P2 (iiC (fun _ j => decide (0 < j) && decide (j.natAbs.log2 < 9000)) fun i j => .int (i / j))
@[simp] abbrev oMod := P2 (iiC (fun _ j => decide (0 < j)) fun i j => .int (i % j))
@[simp] abbrev oShl := P2 (iiC (fun i j => decide (0 ≤ j) && decide (j ≤ 1000000) && decide (i.natAbs < 2 ^ 64)) fun i j => .int (i * 2 ^ j.toNat))
@[simp] abbrev oShr := P2 (iiC (fun _ j => decide (0 ≤ j)) fun i j => .int (i / 2 ^ j.toNat))
@[simp] abbrev oAnd := P2 (iiT fun i j => .int (Builtin.bitAnd i j))
@[simp] abbrev oOr := P2 (iiT fun i j => .int (Builtin.bitOr i j))
@[simp] abbrev oXor := P2 (iiT fun i j => .int (Builtin.bitXor i j))
@[simp] abbrev oLt := P2 (iiT fun i j => .bl (decide (i < j)))
@[simp] abbrev oLe := P2 (iiT fun i j => .bl (decide (i ≤ j)))
@[simp] abbrev oGt := P2 (iiT fun i j => .bl (decide (j < i)))
@[simp] abbrev oGe := P2 (iiT fun i j => .bl (decide (j ≤ i)))
theorem so_add : SimR2 G (rI0 fun i j => .int (i + j)) oAdd := simI0 fun _ _ _ => by simp
theorem so_sub : SimR2 G (rI0 fun i j => .int (i - j)) oSub := simI0 fun _ _ _ => by simp
theorem so_mul : SimR2 G (rI CMulW fun i j => .int (i * j)) oMul := simIC (fun _ _ _ => by simp) fun i j h => (of_decide_eq_true h : i.natAbs.log2 + j.natAbs.log2 < 1000000)
theorem so_div : SimR2 G (rI CDivW fun i j => .int (i / j)) oDiv := simIC (fun _ _ _ => by simp) fun i j h => by
  rw [Bool.and_eq_true] at h
  exact ⟨of_decide_eq_true h.1, of_decide_eq_true h.2⟩
theorem so_mod : SimR2 G (rI (fun _ j => 0 < j) fun i j => .int (i % j)) oMod := simIC (fun _ _ _ => by simp) fun i j h => of_decide_eq_true h
theorem so_shl : SimR2 G (rI CPow fun i j => .int (i * 2 ^ j.toNat)) oShl := simIC (fun _ _ _ => by simp) fun i j h => by
  rw [Bool.and_eq_true, Bool.and_eq_true] at h
  exact ⟨of_decide_eq_true h.1.1, of_decide_eq_true h.1.2, of_decide_eq_true h.2⟩
theorem so_shr : SimR2 G (rI (fun _ j => 0 ≤ j) fun i j => .int (i / 2 ^ j.toNat)) oShr := simIC (fun _ _ _ => by simp) fun i j h => of_decide_eq_true h
theorem so_and : SimR2 G (rI0 fun i j => .int (Builtin.bitAnd i j)) oAnd := simI0 fun _ _ _ => by simp
theorem so_or : SimR2 G (rI0 fun i j => .int (Builtin.bitOr i j)) oOr := simI0 fun _ _ _ => by simp
theorem so_xor : SimR2 G (rI0 fun i j => .int (Builtin.bitXor i j)) oXor := simI0 fun _ _ _ => by simp
theorem so_lt : SimR2 G (rI0 fun i j => .bl (decide (i < j))) oLt := simI0 fun _ _ _ => by simp
theorem so_le : SimR2 G (rI0 fun i j => .bl (decide (i ≤ j))) oLe := simI0 fun _ _ _ => by simp
theorem so_gt : SimR2 G (rI0 fun i j => .bl (decide (j < i))) oGt := simI0 fun _ _ _ => by simp
theorem so_ge : SimR2 G (rI0 fun i j => .bl (decide (j ≤ i))) oGe := simI0 fun _ _ _ => by simp
@[simp] def iT (g : Int → T) : T → Option T | .int i => some (g i) | _ => none
@[simp] abbrev oNeg := P1 (iT fun i => .int (-i))
@[simp] abbrev oInv := P1 (iT fun i => .int (Builtin.bitNot i))
theorem simU {gV : Int → V} {gT : Int → T} (h : ∀ i S, Rv S (gT i) (gV i)) : SimR1 G (rU gV) (P1 (iT gT)) := simP1 fun S x t u Q e k ru hg q => by
  unfold iT at hg
  split at hg
  · simp only [Rv] at ru
    cases hg
    exact ⟨_, ru, q _ (h _ _)⟩
  · cases hg
theorem so_neg : SimR1 G (rU fun i => .int (-i)) oNeg := simU fun _ _ => by simp
theorem so_inv : SimR1 G (rU fun i => .int (Builtin.bitNot i)) oInv := simU fun _ _ => by simp
/-! equality -/
mutual
def toD : T → Option PyData
  | .non => some .none
  | .bl b => some (.bool b)
  | .int i => some (.int i)
  | .str x => some (.str x)
  | .tup l => (toDL l).map .tuple
  | .ktp l => (toDL l).map .tuple
  | .lst l => (toDL l).map .list
  | .rdl l => (toDL l).map .list
  | _ => none
def toDL : List T → Option (List PyData)
  | [] => some []
  | t :: ts => match toD t, toDL ts with
    | some d, some ds => some (d :: ds)
    | _, _ => none
end
theorem sqt_of {p : Addr} {vs : List V} (h : Fz S p (.tup vs)) : SqT S.G.K S.H p vs := .inl (.inl h.1)
theorem sql_of {p : Addr} {vs : List V} (h : Fz S p (.lst vs)) : SqL S.G.K S.H p vs := .inl (.inl h.1)
theorem sql_rd {p : Addr} {vs : List V} (h : RdL S p vs) : SqL S.G.K S.H p vs := by
  rcases h with ⟨ob, h⟩ | h | h
  · exact .inl (.inr ⟨ob, h.1⟩)
  · exact .inl (.inl h.1)
  · exact .inr h
mutual
theorem toD_ok : ∀ {t : T} {v : V} {d : PyData}, Rv S t v → toD t = some d → Dp S.G.K S.H v d
  | .non, v, d, r, h => by simp only [Rv] at r; simp only [toD] at h; cases h; subst r; exact .non
  | .bl b, v, d, r, h => by simp only [Rv] at r; simp only [toD] at h; cases h; subst r; exact .bl b
  | .int b, v, d, r, h => by simp only [Rv] at r; simp only [toD] at h; cases h; subst r; exact .int b
  | .str b, v, d, r, h => by simp only [Rv] at r; simp only [toD] at h; cases h; subst r; exact .str b
  | .tup l, v, d, r, h => by
    simp only [Rv] at r; simp only [toD] at h
    obtain ⟨p, vs, rfl, f, rl⟩ := r
    obtain ⟨ds, h1, rfl⟩ := Option.map_eq_some_iff.mp h
    exact .tup (sqt_of f) (toDL_ok rl h1)
  | .ktp l, v, d, r, h => by
    simp only [Rv] at r; simp only [toD] at h
    obtain ⟨p, vs, rfl, f, rl⟩ := r
    obtain ⟨ds, h1, rfl⟩ := Option.map_eq_some_iff.mp h
    exact .tup (.inr f) (toDL_ok rl h1)
  | .lst l, v, d, r, h => by
    simp only [Rv] at r; simp only [toD] at h
    obtain ⟨p, vs, rfl, f, rl⟩ := r
    obtain ⟨ds, h1, rfl⟩ := Option.map_eq_some_iff.mp h
    exact .lst (sql_of f) (toDL_ok rl h1)
  | .rdl l, v, d, r, h => by
    simp only [Rv] at r; simp only [toD] at h
    obtain ⟨p, vs, rfl, f, rl⟩ := r
    obtain ⟨ds, h1, rfl⟩ := Option.map_eq_some_iff.mp h
    exact .lst (sql_rd f) (toDL_ok rl h1)
  | .ref _, _, _, _, h => by simp only [toD] at h; cases h
  | .obj _, _, _, _, h => by simp only [toD] at h; cases h
  | .inst _ _ _, _, _, _, h => by simp only [toD] at h; cases h
  | .dct _ _, _, _, _, h => by simp only [toD] at h; cases h
  | .dctT _ _, _, _, _, h => by simp only [toD] at h; cases h
theorem toDL_ok : ∀ {l : List T} {vs : List V} {ds : List PyData}, RvL S l vs → toDL l = some ds → DpAll S.G.K S.H vs ds
  | [], vs, ds, r, h => by simp only [RvL] at r; simp only [toDL] at h; cases h; subst r; exact .nil
  | t :: ts, vs, ds, r, h => by
    simp only [RvL] at r
    obtain ⟨v, q, rfl, r1, r2⟩ := r
    simp only [toDL] at h
    split at h
    · rename_i d ds' h1 h2
      cases h
      exact .cons (toD_ok r1 h1) (toDL_ok r2 h2)
    · cases h
end
/-- x == y: scalars as they are, data at any depth by what they hold -/
def eqT : T → T → Option Bool
  | .int i, .int j => some (decide (i = j))
  | .bl i, .bl j => some (decide (i = j))
  | .str i, .str j => some (decide (i = j))
  | .non, .non => some true
  | .int _, .str _ => some false
  | .str _, .int _ => some false
  | .non, .int _ => some false
  | .int _, .non => some false
  | .non, .str _ => some false
  | .str _, .non => some false
  | .non, .bl _ => some false
  | .bl _, .non => some false
  | .bl _, .str _ => some false
  | .str _, .bl _ => some false
  | x, y => match toD x, toD y with
    | some d, some e => if SeqAt.shaped d = true ∧ SeqAt.shaped e = true then some (PyData.eqv d e) else none
    | _, _ => none
@[simp] theorem eqT_int {i j : Int} : eqT (.int i) (.int j) = some (decide (i = j)) := rfl
@[simp] theorem eqT_bl {i j : Bool} : eqT (.bl i) (.bl j) = some (decide (i = j)) := rfl
@[simp] theorem eqT_str {i j : Str} : eqT (.str i) (.str j) = some (decide (i = j)) := rfl
@[simp] theorem eqT_non : eqT .non .non = some true := rfl
@[simp] abbrev oEq := P2 fun x y => (eqT x y).map .bl
@[simp] abbrev oNe := P2 fun x y => (eqT x y).map fun b => .bl (!b)
theorem so_eq : SimR2 G (fun x y H Q => rEq x y H Q ∨ rEqD G.K x y H Q) oEq := simP2 fun S x y t u v Q e k ru rv hg q => by
  obtain ⟨b, hb, rfl⟩ := Option.map_eq_some_iff.mp hg
  have q := q (.bl b) (by simp)
  unfold eqT at hb
  split at hb
  all_goals first
    | (simp only [Rv] at ru rv; subst ru; subst rv; cases hb; exact .inl ⟨rfl, by first | exact q | (simpa using q)⟩)
    | skip
  split at hb
  · rename_i d e' hd he
    split at hb
    · rename_i hs
      cases hb
      have a := toD_ok ru hd
      have c := toD_ok rv he
      rw [e] at a c
      exact .inr ⟨d, e', a, c, hs.1, hs.2, q⟩
    · cases hb
  · cases hb
theorem so_ne : SimR2 G (fun x y H Q => rNe x y H Q ∨ rNeD G.K x y H Q) oNe := simP2 fun S x y t u v Q e k ru rv hg q => by
  obtain ⟨b, hb, rfl⟩ := Option.map_eq_some_iff.mp hg
  have q := q (.bl (!b)) (by simp)
  unfold eqT at hb
  split at hb
  all_goals first
    | (simp only [Rv] at ru rv; subst ru; subst rv; cases hb; exact .inl ⟨rfl, by first | exact q | (simpa using q)⟩)
    | skip
  split at hb
  · rename_i d e' hd he
    split at hb
    · rename_i hs
      cases hb
      have a := toD_ok ru hd
      have c := toD_ok rv he
      rw [e] at a c
      exact .inr ⟨d, e', a, c, hs.1, hs.2, q⟩
    · cases hb
  · cases hb
/-! texts -/
@[simp] abbrev oAddS := P2 fun x y => match x, y with | .str i, .str j => if i.length + j.length ≤ sizeLine then some (.str (i ++ j)) else none | _, _ => none
theorem so_addS : SimR2 G (fun x y H Q => ∃ i j, x = .str i ∧ y = .str j ∧ i.length + j.length ≤ sizeLine ∧ Q (.str (i ++ j)) H) oAddS := simP2 fun S x y t u v Q e k ru rv hg q => by
  split at hg
  · simp only [Rv] at ru rv
    split at hg
    · rename_i hb
      cases hg
      exact ⟨_, _, ru, rv, hb, q _ (by simp)⟩
    · cases hg
  · cases hg
@[simp] abbrev oLtS := P2 fun x y => match x, y with | .str i, .str j => some (.bl (decide (i.cps.toList < j.cps.toList))) | _, _ => none
theorem so_ltS : SimR2 G (fun x y H Q => ∃ i j, x = .str i ∧ y = .str j ∧ Q (.bl (decide (i.cps.toList < j.cps.toList))) H) oLtS := simP2 fun S x y t u v Q e k ru rv hg q => by
  split at hg
  · simp only [Rv] at ru rv
    cases hg
    exact ⟨_, _, ru, rv, q _ (by simp)⟩
  · cases hg
@[simp] abbrev oInS := P2 fun x y => match x, y with | .str i, .str j => some (.bl (!(Builtin.Str.occurrences j i 0 j.length 1).isEmpty)) | _, _ => none
theorem so_inS : SimR2 G (fun x y H Q => ∃ i j, x = .str i ∧ y = .str j ∧ Q (.bl (!(Builtin.Str.occurrences j i 0 j.length 1).isEmpty)) H) oInS := simP2 fun S x y t u v Q e k ru rv hg q => by
  split at hg
  · simp only [Rv] at ru rv
    cases hg
    exact ⟨_, _, ru, rv, q _ (by simp)⟩
  · cases hg
@[simp] abbrev oNinS := P2 fun x y => match x, y with | .str i, .str j => some (.bl (!(!(Builtin.Str.occurrences j i 0 j.length 1).isEmpty))) | _, _ => none
theorem so_ninS : SimR2 G (fun x y H Q => ∃ i j, x = .str i ∧ y = .str j ∧ Q (.bl (!(!(Builtin.Str.occurrences j i 0 j.length 1).isEmpty))) H) oNinS := simP2 fun S x y t u v Q e k ru rv hg q => by
  split at hg
  · simp only [Rv] at ru rv
    cases hg
    exact ⟨_, _, ru, rv, q _ (by simp)⟩
  · cases hg
/-! is None -/
@[simp] def isNon : T → Bool | .non => true | _ => false
theorem rv_isNon {x : T} {u : V} (hf : ∀ a, S.G.fa a ≠ .non) (r : Rv S x u) : decide (u = .non) = isNon x := by
  cases x <;> simp only [Rv] at r <;> first
    | (subst r; rfl)
    | (subst r; simp [isNon, hf])
    | (obtain ⟨p, vs, rfl, _⟩ := r; rfl)
    | (obtain ⟨p, dx, vs, rfl, _⟩ := r; rfl)
    | (obtain ⟨p, _, rfl⟩ := r; rfl)
@[simp] abbrev mIsN (fa : FE) : FE := mUn (fun x h => .ok (.bl (isNon x)) h) fa
@[simp] abbrev mNotN (fa : FE) : FE := mUn (fun x h => .ok (.bl (!isNon x)) h) fa
theorem sim_isN {ta : TE} {fa : FE} (hf : ∀ a, G.fa a ≠ .non) (ha : SimE G E ta fa) : SimE G E (tIsN ta) (mIsN fa) := fun S σ τ Q e k rs p => by
  refine ha S σ τ _ e k rs (PostG.imp (fun x S1 q u ru => ?_) (PostG.bind p))
  obtain ⟨k1, s1, q⟩ := q
  exact q S1 rfl k1 (Step.refl S1) _ (by rw [rv_isNon (by rw [s1.G, e]; exact hf) ru]; simp)
theorem sim_notN {ta : TE} {fa : FE} (hf : ∀ a, G.fa a ≠ .non) (ha : SimE G E ta fa) : SimE G E (tNotN ta) (mNotN fa) := fun S σ τ Q e k rs p => by
  refine ha S σ τ _ e k rs (PostG.imp (fun x S1 q u ru => ?_) (PostG.bind p))
  obtain ⟨k1, s1, q⟩ := q
  exact q S1 rfl k1 (Step.refl S1) _ (by rw [rv_isNon (by rw [s1.G, e]; exact hf) ru]; simp)
/-! sequences -/
@[simp] def tupOf : T → Option (List T) | .tup l => some l | .ktp l => some l | _ => none
@[simp] def lstOf : T → AH → Option (List T)
  | .lst l, _ => some l
  | .rdl l, _ => some l
  | .obj i, h => match h[i]? with | some (some (.lst l)) => some l | _ => none
  | _, _ => none
/-- a list that is wholly known -/
@[simp] def lstIn : T → AH → Option (List T)
  | .lst l, _ => some l
  | .obj i, h => match h[i]? with | some (some (.lst l)) => some l | _ => none
  | _, _ => none
theorem tupOf_ok {x : T} {l : List T} {u : V} (h : tupOf x = some l) (r : Rv S x u) : ∃ p vs, u = .ref p ∧ SqT S.G.K S.H p vs ∧ RvL S l vs := by
  cases x <;> simp only [tupOf] at h <;> first
    | (cases h; done)
    | (cases h; simp only [Rv] at r; obtain ⟨p, vs, rfl, f, rl⟩ := r; first | exact ⟨p, vs, rfl, sqt_of f, rl⟩ | exact ⟨p, vs, rfl, .inr f, rl⟩)
theorem obj_lst {i : Nat} {l : List T} {u : V} (k : Ok S) (h : S.h[i]? = some (some (.lst l))) (r : Rv S (.obj i) u) : ∃ p vs, u = .ref p ∧ S.al[i]? = some p ∧ S.H p = some (.lst vs) ∧ RvL S l vs := by
  simp only [Rv] at r
  obtain ⟨p, hp, rfl⟩ := r
  obtain ⟨u, hu, vs, rfl, rl⟩ := k.rel i _ p h hp
  exact ⟨p, vs, rfl, hp, hu, rl⟩
theorem lstOf_ok {x : T} {l : List T} {u : V} (k : Ok S) (h : lstOf x S.h = some l) (r : Rv S x u) : ∃ p vs, u = .ref p ∧ SqL S.G.K S.H p vs ∧ RvL S l vs := by
  cases x <;> simp only [lstOf] at h <;> try (cases h; done)
  · cases h; simp only [Rv] at r; obtain ⟨p, vs, rfl, f, rl⟩ := r; exact ⟨p, vs, rfl, sql_of f, rl⟩
  · cases h; simp only [Rv] at r; obtain ⟨p, vs, rfl, f, rl⟩ := r; exact ⟨p, vs, rfl, sql_rd f, rl⟩
  · split at h
    · rename_i l' hl
      cases h
      obtain ⟨p, vs, rfl, _, hp, rl⟩ := obj_lst k hl r
      exact ⟨p, vs, rfl, .inl (.inl hp), rl⟩
    · cases h
theorem lstIn_ok {x : T} {l : List T} {u : V} (k : Ok S) (h : lstIn x S.h = some l) (r : Rv S x u) : ∃ p vs, u = .ref p ∧ S.H p = some (.lst vs) ∧ RvL S l vs := by
  cases x <;> simp only [lstIn] at h <;> try (cases h; done)
  · cases h; simp only [Rv] at r; obtain ⟨p, vs, rfl, f, rl⟩ := r; exact ⟨p, vs, rfl, f.1, rl⟩
  · split at h
    · rename_i l' hl
      cases h
      obtain ⟨p, vs, rfl, _, hp, rl⟩ := obj_lst k hl r
      exact ⟨p, vs, rfl, hp, rl⟩
    · cases h
theorem RvL.at {l : List T} {vs : List V} {i : Int} {t : T} (r : RvL S l vs) (h : atI l i = some t) : ∃ v, atI vs i = some v ∧ Rv S t v := by
  unfold atI at h ⊢
  rw [r.len]
  obtain ⟨j, hj, e⟩ := Option.bind_eq_some_iff.mp h
  obtain ⟨v, h1, h2⟩ := r.get e
  exact ⟨v, by rw [hj]; exact h1, h2⟩
@[simp] def gIxL (x y : T) (h : AH) : Option T := match y with | .int i => (lstOf x h).bind fun l => atI l i | _ => none
@[simp] def gIxT (x y : T) (_ : AH) : Option T := match y with | .int i => (tupOf x).bind fun l => atI l i | _ => none
@[simp] abbrev oIxL : T → T → AH → Res T := fun x y h => pur (gIxL x y h) h
@[simp] abbrev oIxT : T → T → AH → Res T := fun x y h => pur (gIxT x y h) h
/-- xs[i], a list or a tuple -/
@[simp] abbrev oIx : T → T → AH → Res T := fun x y h => pur (match gIxT x y h with | some t => some t | none => gIxL x y h) h
theorem simPh2 {r : R2} {g : T → T → AH → Option T} (hr : ∀ (S : Sta) (x y t : T) (u v : V) (Q : VK), S.G = G → Ok S → Rv S x u → Rv S y v → g x y S.h = some t → (∀ w, Rv S t w → Q w S.H) → r u v S.H Q) : SimR2 G r (fun x y h => pur (g x y h) h) := fun S x y u v X Q e k ru rv p => by
  change PostG S X _ (pur (g x y S.h) S.h) at p
  unfold pur at p
  split at p
  · rename_i t ht
    exact hr S x y t u v Q e k ru rv ht fun w rw' => p S rfl k (Step.refl S) w rw'
  · exact p.elim
theorem ixT_ok {x y t : T} {u v : V} {Q : VK} (ru : Rv S x u) (rv : Rv S y v) (h : gIxT x y S.h = some t) (q : ∀ w, Rv S t w → Q w S.H) : rIxT S.G.K u v S.H Q := by
  unfold gIxT at h
  split at h
  · obtain ⟨l, hl, ha⟩ := Option.bind_eq_some_iff.mp h
    obtain ⟨p, vs, rfl, hs, rl⟩ := tupOf_ok hl ru
    obtain ⟨w, h1, h2⟩ := rl.at ha
    simp only [Rv] at rv
    exact ⟨p, vs, _, w, rfl, rv, hs, h1, q w h2⟩
  · cases h
theorem ixL_ok {x y t : T} {u v : V} {Q : VK} (k : Ok S) (ru : Rv S x u) (rv : Rv S y v) (h : gIxL x y S.h = some t) (q : ∀ w, Rv S t w → Q w S.H) : rIxL S.G.K u v S.H Q := by
  unfold gIxL at h
  split at h
  · obtain ⟨l, hl, ha⟩ := Option.bind_eq_some_iff.mp h
    obtain ⟨p, vs, rfl, hs, rl⟩ := lstOf_ok k hl ru
    obtain ⟨w, h1, h2⟩ := rl.at ha
    simp only [Rv] at rv
    exact ⟨p, vs, _, w, rfl, rv, hs, h1, q w h2⟩
  · cases h
theorem so_ix : SimR2 G (rIx G.K) oIx := simPh2 fun S x y t u v Q e k ru rv hg q => by
  rw [← e]
  split at hg
  · rename_i t' ht
    cases hg
    exact .inr (.inl (ixT_ok ru rv ht q))
  · exact .inl (ixL_ok k ru rv hg q)
@[simp] abbrev oIxS := P2 fun x y => match x, y with | .str z, .int i => if z.length ≤ sizeLine then (atI z.cps.toList i).map fun c => .str ⟨#[c]⟩ else none | _, _ => none
theorem so_ixS : SimR2 G rIxS oIxS := simP2 fun S x y t u v Q e k ru rv hg q => by
  split at hg
  · simp only [Rv] at ru rv
    split at hg
    · rename_i hb
      obtain ⟨c, hc, rfl⟩ := Option.map_eq_some_iff.mp hg
      exact ⟨_, _, c, ru, rv, hb, hc, q _ (by simp)⟩
    · cases hg
  · cases hg
/-! in -/
@[simp] def flatT : T → Bool | .non => true | .bl _ => true | .int _ => true | .str _ => true | _ => false
def eqF : T → T → Bool
  | .non, .non => true
  | .bl a, .bl b => a == b
  | .bl a, .int b => (if a then 1 else 0) == b
  | .int a, .bl b => a == (if b then 1 else 0)
  | .int a, .int b => a == b
  | .str a, .str b => a == b
  | _, _ => false
def inT (x : T) (l : List T) : Bool := l.any fun y => eqF y x
theorem flat_ok {x : T} {u : V} (r : Rv S x u) (h : flatT x = true) : flatV u = true := by
  cases x <;> simp only [Rv] at r <;> first
    | (subst r; rfl)
    | (simp [flatT] at h)
theorem eqF_ok {x y : T} {u v : V} (rx : Rv S x u) (ry : Rv S y v) (hx : flatT x = true) (hy : flatT y = true) : eqV v u = eqF y x := by
  cases x <;> simp [flatT] at hx <;> cases y <;> simp [flatT] at hy <;> simp only [Rv] at rx ry <;> subst rx <;> subst ry <;> rfl
theorem flats_ok : ∀ {l : List T} {vs : List V}, RvL S l vs → l.all flatT = true → vs.all flatV = true
  | [], vs, r, h => by simp only [RvL] at r; subst r; rfl
  | t :: ts, vs, r, h => by
    simp only [RvL] at r
    obtain ⟨v, q, rfl, r1, r2⟩ := r
    rw [List.all_cons, Bool.and_eq_true] at h ⊢
    exact ⟨flat_ok r1 h.1, flats_ok r2 h.2⟩
theorem inT_ok {x : T} {u : V} (rx : Rv S x u) (hx : flatT x = true) : ∀ {l : List T} {vs : List V}, RvL S l vs → l.all flatT = true → inV u vs = inT x l
  | [], vs, r, h => by simp only [RvL] at r; subst r; rfl
  | t :: ts, vs, r, h => by
    simp only [RvL] at r
    obtain ⟨v, q, rfl, r1, r2⟩ := r
    rw [List.all_cons, Bool.and_eq_true] at h
    have ih := inT_ok rx hx r2 h.2
    unfold inV inT at ih ⊢
    rw [List.any_cons, List.any_cons, eqF_ok rx r1 hx h.1, ih]
@[simp] def seqOf (x : T) (h : AH) : Option (List T) := match tupOf x with | some l => some l | none => lstOf x h
theorem seqOf_ok {x : T} {l : List T} {u : V} (k : Ok S) (h : seqOf x S.h = some l) (r : Rv S x u) : ∃ p vs, u = .ref p ∧ (SqL S.G.K S.H p vs ∨ SqT S.G.K S.H p vs) ∧ RvL S l vs := by
  unfold seqOf at h
  split at h
  · rename_i l' hl
    cases h
    obtain ⟨p, vs, e, hs, rl⟩ := tupOf_ok hl r
    exact ⟨p, vs, e, .inr hs, rl⟩
  · obtain ⟨p, vs, e, hs, rl⟩ := lstOf_ok k h r
    exact ⟨p, vs, e, .inl hs, rl⟩
@[simp] def gIn (neg : Bool) (x y : T) (h : AH) : Option T := (seqOf y h).bind fun l => if flatT x = true ∧ l.all flatT = true then some (.bl (if neg then !inT x l else inT x l)) else none
@[simp] abbrev oIn : T → T → AH → Res T := fun x y h => pur (gIn false x y h) h
@[simp] abbrev oNin : T → T → AH → Res T := fun x y h => pur (gIn true x y h) h
theorem so_inG {neg : Bool} : SimR2 G (rIn G.K neg) (fun x y h => pur (gIn neg x y h) h) := simPh2 fun S x y t u v Q e k ru rv hg q => by
  rw [← e]
  unfold gIn at hg
  obtain ⟨l, hl, hg⟩ := Option.bind_eq_some_iff.mp hg
  split at hg
  · rename_i hb
    cases hg
    obtain ⟨p, vs, rfl, hs, rl⟩ := seqOf_ok k hl rv
    refine ⟨p, vs, rfl, hs, flat_ok ru hb.1, flats_ok rl hb.2, ?_⟩
    rw [inT_ok ru hb.1 rl hb.2]
    exact q _ (by simp)
  · cases hg
theorem so_in : SimR2 G (rIn G.K false) oIn := so_inG
theorem so_nin : SimR2 G (rIn G.K true) oNin := so_inG
/-! new lists and tuples -/
theorem new_fz {u : HO} {Q : VK} {X : Exc → Sta → Prop} {t : T} (k : Ok S) (p : PostG S X (fun t S' => ∀ v, Rv S' t v → Q v S'.H) (.ok t S.h)) (hv : ∀ p, S.H p = none → Fz (S.at (upd S.H p u)) p u → Rv (S.at (upd S.H p u)) t (.ref p)) :
    ∀ p, S.H p = none → Q (.ref p) (upd S.H p u) := fun a n => by
  have g := Grow.upd (u := u) n
  exact p (S.at (upd S.H a u)) rfl (ok_at k g) (step_at k g) _ (hv a n (fz_new k n upd_same))
theorem new_obj {o : O} {u : HO} {Q : VK} {X : Exc → Sta → Prop} (k : Ok S) (p : PostG S X (fun t S' => ∀ v, Rv S' t v → Q v S'.H) (.ok (.obj S.h.length) (S.h ++ [some o]))) (hv : ∀ S', Step S S' → RO S' o u) :
    ∀ p, S.H p = none → Q (.ref p) (upd S.H p u) := fun a n => by
  have g := Grow.upd (u := u) n
  refine p (S.push a o (upd S.H a u)) rfl (ok_push k n g upd_same (hv _ (step_push k n g))) (step_push k n g) _ ?_
  simp only [Rv]
  exact ⟨a, by simp [Sta.push, k.len], rfl⟩
theorem rv_tup {p : Addr} {l : List T} {vs : List V} (f : Fz S p (.tup vs)) (r : RvL S l vs) : Rv S (.tup l) (.ref p) := by simp only [Rv]; exact ⟨p, vs, rfl, f, r⟩
theorem rv_lst {p : Addr} {l : List T} {vs : List V} (f : Fz S p (.lst vs)) (r : RvL S l vs) : Rv S (.lst l) (.ref p) := by simp only [Rv]; exact ⟨p, vs, rfl, f, r⟩
@[simp] def mTup (fr : FA) : FE := fun τ h => (fr τ h).bind fun xs h1 => if xs.length ≤ sizeLine then .ok (.tup xs) h1 else .bad
@[simp] def mLst (fr : FA) : FE := fun τ h => (fr τ h).bind fun xs h1 => if xs.length ≤ sizeLine then .ok (.lst xs) h1 else .bad
/-- a list that will change -/
@[simp] def mLstO (fr : FA) : FE := fun τ h => (fr τ h).bind fun xs h1 => if xs.length ≤ sizeLine then .ok (.obj h1.length) (h1 ++ [some (.lst xs)]) else .bad
section
variable {tr : TA} {fr : FA}
theorem sim_tup (ha : SimA G E tr fr) : SimE G E (tTup tr) (mTup fr) := fun S σ τ Q e k rs p => by
  refine ha S σ τ _ e k rs (PostG.imp (fun x S1 q u ru => ?_) (PostG.bind p))
  obtain ⟨k1, s1, q⟩ := q
  split at q
  · rename_i hb
    exact ⟨by rw [ru.len]; exact hb, new_fz k1 q fun p n f => rv_tup f (ru.mono (step_at (by assumption) (Grow.upd n)))⟩
  · exact q.elim
theorem sim_lst (ha : SimA G E tr fr) : SimE G E (tLst tr) (mLst fr) := fun S σ τ Q e k rs p => by
  refine ha S σ τ _ e k rs (PostG.imp (fun x S1 q u ru => ?_) (PostG.bind p))
  obtain ⟨k1, s1, q⟩ := q
  split at q
  · rename_i hb
    exact ⟨by rw [ru.len]; exact hb, new_fz k1 q fun p n f => rv_lst f (ru.mono (step_at (by assumption) (Grow.upd n)))⟩
  · exact q.elim
theorem sim_lstO (ha : SimA G E tr fr) : SimE G E (tLst tr) (mLstO fr) := fun S σ τ Q e k rs p => by
  refine ha S σ τ _ e k rs (PostG.imp (fun x S1 q u ru => ?_) (PostG.bind p))
  obtain ⟨k1, s1, q⟩ := q
  split at q
  · rename_i hb
    exact ⟨by rw [ru.len]; exact hb, new_obj k1 q fun S' st => ⟨_, rfl, ru.mono st⟩⟩
  · exact q.elim
end
/-! list + list, tuple + tuple, list * int -/
@[simp] def gCat (x y : T) (h : AH) : Option (List T) := (lstIn x h).bind fun l => (lstIn y h).bind fun m => if l.length + m.length ≤ sizeLine then some (l ++ m) else none
@[simp] abbrev oCat : T → T → AH → Res T := fun x y h => pur ((gCat x y h).map .lst) h
@[simp] abbrev oCatO : T → T → AH → Res T := fun x y h => (pur (gCat x y h) h).bind fun l h1 => .ok (.obj h1.length) (h1 ++ [some (.lst l)])
theorem cat_ok {x y : T} {u v : V} {l : List T} (k : Ok S) (ru : Rv S x u) (rv : Rv S y v) (h : gCat x y S.h = some l) : ∃ p q xs ys, u = .ref p ∧ v = .ref q ∧ S.H p = some (.lst xs) ∧ S.H q = some (.lst ys) ∧ xs.length + ys.length ≤ sizeLine ∧ RvL S l (xs ++ ys) := by
  unfold gCat at h
  obtain ⟨l1, h1, h⟩ := Option.bind_eq_some_iff.mp h
  obtain ⟨l2, h2, h⟩ := Option.bind_eq_some_iff.mp h
  split at h
  · rename_i hb
    cases h
    obtain ⟨p, xs, rfl, hp, r1⟩ := lstIn_ok k h1 ru
    obtain ⟨q, ys, rfl, hq, r2⟩ := lstIn_ok k h2 rv
    exact ⟨p, q, xs, ys, rfl, rfl, hp, hq, by rw [r1.len, r2.len]; exact hb, r1.app r2⟩
  · cases h
theorem so_cat : SimR2 G rCat oCat := fun S x y u v X Q e k ru rv p => by
  unfold oCat pur at p
  split at p
  · rename_i t ht
    obtain ⟨l, hl, rfl⟩ := Option.map_eq_some_iff.mp ht
    obtain ⟨a, b, xs, ys, rfl, rfl, ha, hb, hz, rl⟩ := cat_ok k ru rv hl
    exact ⟨a, b, xs, ys, rfl, rfl, ha, hb, hz, new_fz k p fun p n f => rv_lst f (rl.mono (step_at (by assumption) (Grow.upd n)))⟩
  · exact p.elim
theorem so_catO : SimR2 G rCat oCatO := fun S x y u v X Q e k ru rv p => by
  unfold oCatO pur at p
  split at p
  · rename_i l hl
    obtain ⟨a, b, xs, ys, rfl, rfl, ha, hb, hz, rl⟩ := cat_ok k ru rv hl
    exact ⟨a, b, xs, ys, rfl, rfl, ha, hb, hz, new_obj k p fun S' st => ⟨_, rfl, rl.mono st⟩⟩
  · exact p.elim
@[simp] abbrev oCatT : T → T → AH → Res T := P2 fun x y => (tupOf x).bind fun l => (tupOf y).bind fun m => if l ≠ [] ∧ m ≠ [] ∧ l.length + m.length ≤ sizeLine then some (.tup (l ++ m)) else none
/-! slices -/
@[simp] def cutT (xs : List T) (lo hi : Option Int) : List T := (xs.drop (HT.sIx xs.length 0 lo)).take (HT.sIx xs.length xs.length hi - HT.sIx xs.length 0 lo)
theorem RvL.cut {l : List T} {vs : List V} (r : RvL S l vs) (lo hi : Option Int) : RvL S (cutT l lo hi) (cutV vs lo hi) := by
  unfold cutT cutV
  rw [r.len]
  exact (r.drop _).take _
abbrev FO := LS → AH → Res (Option Int)
def SimO (G : Env) (E : L2.St → XK) (te : TO) (f : FO) : Prop := ∀ (S : Sta) (σ : L2.St) (τ : LS) (Q : Option Int → Hp → Prop), S.G = G → Ok S → RS S τ σ → PostG S (XP (E σ)) (fun t S' => Q t S'.H) (f τ S.h) → te σ S.H Q
@[simp] def mNoPart : FO := fun _ h => .ok none h
@[simp] def mPart (fa : FE) : FO := fun τ h => (fa τ h).bind fun x h1 => match x with | .int i => .ok (some i) h1 | _ => .bad
theorem sim_noPart : SimO G E tNoPart mNoPart := fun S σ τ Q e k rs p => p S rfl k (Step.refl S)
theorem sim_part {ta : TE} {fa : FE} (ha : SimE G E ta fa) : SimO G E (tPart ta) (mPart fa) := fun S σ τ Q e k rs p => by
  refine ha S σ τ _ e k rs (PostG.imp (fun x S1 q u ru => ?_) (PostG.bind p))
  obtain ⟨k1, s1, q⟩ := q
  split at q
  · simp only [Rv] at ru; exact ⟨_, ru, q S1 rfl k1 (Step.refl S1)⟩
  · exact q.elim
def SimSl (G : Env) (r : V → Option Int → Option Int → Hp → VK → Prop) (g : T → Option Int → Option Int → AH → Res T) : Prop := ∀ (S : Sta) (x : T) (u : V) (lo hi : Option Int) (X : Exc → Sta → Prop) (Q : VK), S.G = G → Ok S → Rv S x u → PostG S X (fun t S' => ∀ v, Rv S' t v → Q v S'.H) (g x lo hi S.h) → r u lo hi S.H Q
@[simp] def mSl (g : T → Option Int → Option Int → AH → Res T) (fa : FE) (fl fh : FO) : FE := fun τ h => (fa τ h).bind fun x h1 => (fl τ h1).bind fun lo h2 => (fh τ h2).bind fun hi h3 => g x lo hi h3
theorem sim_sl {r : V → Option Int → Option Int → Hp → VK → Prop} {g : T → Option Int → Option Int → AH → Res T} {ta : TE} {fa : FE} {tl th : TO} {fl fh : FO} (hr : SimSl G r g) (ha : SimE G E ta fa) (hl : SimO G E tl fl) (hh : SimO G E th fh) : SimE G E (tSl r ta tl th) (mSl g fa fl fh) := fun S σ τ Q e k rs p => by
  refine ha S σ τ _ e k rs (PostG.imp (fun x S1 q u ru => ?_) (PostG.bind p))
  obtain ⟨k1, s1, q⟩ := q
  refine hl S1 σ τ _ (s1.G.trans e) k1 (rs.mono s1) (PostG.imp (fun lo S2 q => ?_) (PostG.bind q))
  obtain ⟨k2, s2, q⟩ := q
  refine hh S2 σ τ _ (s2.G.trans (s1.G.trans e)) k2 (rs.mono (s1.trans s2)) (PostG.imp (fun hi S3 q => ?_) (PostG.bind q))
  obtain ⟨k3, s3, q⟩ := q
  exact hr S3 x u lo hi _ Q (s3.G.trans (s2.G.trans (s1.G.trans e))) k3 (ru.mono (s2.trans s3)) q
@[simp] abbrev oSlL : T → Option Int → Option Int → AH → Res T := fun x lo hi h => (pur (lstOf x h) h).bind fun l h1 => .ok (.lst (cutT l lo hi)) h1
@[simp] abbrev oSlLO : T → Option Int → Option Int → AH → Res T := fun x lo hi h => (pur (lstOf x h) h).bind fun l h1 => .ok (.obj h1.length) (h1 ++ [some (.lst (cutT l lo hi))])
theorem so_slL : SimSl G (rSlL G.K) oSlL := fun S x u lo hi X Q e k ru p => by
  rw [← e]
  unfold oSlL pur at p
  split at p
  · rename_i l hl
    obtain ⟨a, vs, rfl, hs, rl⟩ := lstOf_ok k hl ru
    exact ⟨a, vs, rfl, hs, new_fz k p fun p n f => rv_lst f ((rl.cut lo hi).mono (step_at (by assumption) (Grow.upd n)))⟩
  · exact p.elim
theorem so_slLO : SimSl G (rSlL G.K) oSlLO := fun S x u lo hi X Q e k ru p => by
  rw [← e]
  unfold oSlLO pur at p
  split at p
  · rename_i l hl
    obtain ⟨a, vs, rfl, hs, rl⟩ := lstOf_ok k hl ru
    exact ⟨a, vs, rfl, hs, new_obj k p fun S' st => ⟨_, rfl, (rl.cut lo hi).mono st⟩⟩
  · exact p.elim
/-- t[lo:hi] of a tuple -/
abbrev oSlT0 : T → Option Int → Option Int → AH → Res T := fun x lo hi h => (pur (tupOf x) h).bind fun l h1 => if HT.sIx l.length 0 lo = 0 ∧ HT.sIx l.length l.length hi = l.length then .ok x h1 else .ok (.tup (cutT l lo hi)) h1
theorem so_slT0 : SimSl G (rSlA G.K) oSlT0 := fun S x u lo hi X Q e k ru p => by
  rw [← e]
  unfold oSlT0 pur at p
  split at p
  · rename_i l hl
    obtain ⟨a, vs, rfl, hs, rl⟩ := tupOf_ok hl ru
    simp only [Res.bind] at p
    refine ⟨a, vs, rfl, hs, fun hw => ?_, fun hw => ?_⟩
    · rw [rl.len] at hw
      rw [if_pos hw] at p
      exact p S rfl k (Step.refl S) _ ru
    · rw [rl.len] at hw
      rw [if_neg hw] at p
      exact new_fz k p fun p n f => rv_tup f ((rl.cut lo hi).mono (step_at (by assumption) (Grow.upd n)))
  · exact p.elim
@[simp] def oSlT : T → Option Int → Option Int → AH → Res T := fun x lo hi h => match x with
  | .tup l => .ok (.tup (cutT l lo hi)) h
  | x => oSlT0 x lo hi h
theorem so_slT : SimSl G (rSlA G.K) oSlT := fun S x u lo hi X Q e k ru p => so_slT0 S x u lo hi X Q e k ru (by
  unfold oSlT at p
  split at p
  · rename_i l
    show PostG S X _ (if HT.sIx l.length 0 lo = 0 ∧ HT.sIx l.length l.length hi = l.length then Res.ok (T.tup l) S.h else .ok (.tup (cutT l lo hi)) S.h)
    split
    · rename_i hw
      have e : cutT l lo hi = l := by
        unfold cutT
        rw [hw.1, hw.2, List.drop_zero, Nat.sub_zero, List.take_length]
      rw [e] at p; exact p
    · exact p
  · exact p)
@[simp] abbrev oSlS : T → Option Int → Option Int → AH → Res T := fun x lo hi h => match x with | .str z => if z.length ≤ sizeLine then .ok (.str (cutS z lo hi)) h else .bad | _ => .bad
theorem so_slS : SimSl G rSlS oSlS := fun S x u lo hi X Q e k ru p => by
  unfold oSlS at p
  split at p
  · split at p
    · rename_i hb
      simp only [Rv] at ru
      exact ⟨_, ru, hb, p S rfl k (Step.refl S) _ (by simp)⟩
    · exact p.elim
  · exact p.elim
/-! built-ins on values -/
@[simp] def one (g : T → AH → Option T) : List T → AH → Res T := fun xs h => match xs with | [x] => pur (g x h) h | _ => .bad
theorem simC1 {r : List V → Hp → VK → Prop} {g : T → AH → Option T} (hr : ∀ (S : Sta) (x t : T) (u : V) (Q : VK), S.G = G → Ok S → Rv S x u → g x S.h = some t → (∀ w, Rv S t w → Q w S.H) → r [u] S.H Q) : SimRC G r (one g) := fun S xs us X Q e k ru p => by
  unfold one at p
  split at p
  · unfold pur at p
    split at p
    · rename_i t ht
      simp only [RvL] at ru
      obtain ⟨v, _, rfl, h1, rfl⟩ := ru
      exact hr S _ t v Q e k h1 ht fun w rw' => p S rfl k (Step.refl S) w rw'
    · exact p.elim
  · exact p.elim
@[simp] def two (g : T → T → AH → Option T) : List T → AH → Res T := fun xs h => match xs with | [x, y] => pur (g x y h) h | _ => .bad
theorem simC2 {r : List V → Hp → VK → Prop} {g : T → T → AH → Option T} (hr : ∀ (S : Sta) (x y t : T) (u v : V) (Q : VK), S.G = G → Ok S → Rv S x u → Rv S y v → g x y S.h = some t → (∀ w, Rv S t w → Q w S.H) → r [u, v] S.H Q) : SimRC G r (two g) := fun S xs us X Q e k ru p => by
  unfold two at p
  split at p
  · unfold pur at p
    split at p
    · rename_i t ht
      simp only [RvL] at ru
      obtain ⟨v, _, rfl, h1, w, _, rfl, h2, rfl⟩ := ru
      exact hr S _ _ t v w Q e k h1 h2 ht fun w rw' => p S rfl k (Step.refl S) w rw'
    · exact p.elim
  · exact p.elim
@[simp] abbrev bAbs := one fun x _ => match x with | .int i => some (.int (if i < 0 then -i else i)) | _ => none
theorem sb_abs : SimRC G (fun xs H Q => ∃ i, xs = [.int i] ∧ Q (.int (if i < 0 then -i else i)) H) bAbs := simC1 fun S x t u Q e k ru hg q => by
  split at hg
  · simp only [Rv] at ru; cases hg; subst ru; exact ⟨_, rfl, q _ (by simp)⟩
  · cases hg
@[simp] abbrev bMax := two fun x y _ => match x, y with | .int i, .int j => some (.int (if j > i then j else i)) | _, _ => none
@[simp] abbrev bMin := two fun x y _ => match x, y with | .int i, .int j => some (.int (if j < i then j else i)) | _, _ => none
theorem sb_max : SimRC G (fun xs H Q => ∃ i j, xs = [.int i, .int j] ∧ Q (.int (if j > i then j else i)) H) bMax := simC2 fun S x y t u v Q e k ru rv hg q => by
  split at hg
  · simp only [Rv] at ru rv; cases hg; subst ru; subst rv; exact ⟨_, _, rfl, q _ (by simp)⟩
  · cases hg
theorem sb_min : SimRC G (fun xs H Q => ∃ i j, xs = [.int i, .int j] ∧ Q (.int (if j < i then j else i)) H) bMin := simC2 fun S x y t u v Q e k ru rv hg q => by
  split at hg
  · simp only [Rv] at ru rv; cases hg; subst ru; subst rv; exact ⟨_, _, rfl, q _ (by simp)⟩
  · cases hg
@[simp] abbrev bInt := one fun x _ => match x with | .int i => some (.int i) | .bl k => some (.int (if k then 1 else 0)) | _ => none
theorem sb_int : SimRC G (fun xs H Q => (∃ i, xs = [.int i] ∧ Q (.int i) H) ∨ ∃ k, xs = [.bl k] ∧ Q (.int (if k then 1 else 0)) H) bInt := simC1 fun S x t u Q e k ru hg q => by
  split at hg
  · simp only [Rv] at ru; cases hg; subst ru; exact .inl ⟨_, rfl, q _ (by simp)⟩
  · simp only [Rv] at ru; cases hg; subst ru; exact .inr ⟨_, rfl, q _ (by simp)⟩
  · cases hg
@[simp] abbrev bIntS := one fun x _ => match x with | .str a => if a.length ≤ 640 then (PySem.intText? a).map .int else none | _ => none
theorem sb_intS : SimRC G (fun xs H Q => ∃ a n, xs = [.str a] ∧ PySem.intText? a = some n ∧ a.length ≤ 640 ∧ Q (.int n) H) bIntS := simC1 fun S x t u Q e k ru hg q => by
  split at hg
  · split at hg
    · rename_i hb
      obtain ⟨n, hn, rfl⟩ := Option.map_eq_some_iff.mp hg
      simp only [Rv] at ru; subst ru; exact ⟨_, n, rfl, hn, hb, q _ (by simp)⟩
    · cases hg
  · cases hg
@[simp] abbrev bBool := one fun x _ => match x with | .int i => some (.bl (i != 0)) | .bl k => some (.bl k) | _ => none
theorem sb_bool : SimRC G (fun xs H Q => (∃ i, xs = [.int i] ∧ Q (.bl (i != 0)) H) ∨ ∃ k, xs = [.bl k] ∧ Q (.bl k) H) bBool := simC1 fun S x t u Q e k ru hg q => by
  split at hg
  · simp only [Rv] at ru; cases hg; subst ru; exact .inl ⟨_, rfl, q _ (by simp)⟩
  · simp only [Rv] at ru; cases hg; subst ru; exact .inr ⟨_, rfl, q _ (by simp)⟩
  · cases hg
@[simp] abbrev bStr := one fun x _ => match x with | .int i => if i.natAbs.log2 < 1920 then some (.str (toString i)) else none | _ => none
theorem sb_str : SimRC G (fun xs H Q => ∃ i : Int, xs = [.int i] ∧ i.natAbs.log2 < 1920 ∧ Q (.str (toString i)) H) bStr := simC1 fun S x t u Q e k ru hg q => by
  split at hg
  · split at hg
    · rename_i hb
      simp only [Rv] at ru; cases hg; subst ru; exact ⟨_, rfl, hb, q _ (by simp)⟩
    · cases hg
  · cases hg
@[simp] abbrev bLen := one fun x h => (seqOf x h).map fun l => .int l.length
theorem sb_len : SimRC G (fun xs H Q => ∃ p ys, xs = [.ref p] ∧ (SqL G.K H p ys ∨ SqT G.K H p ys) ∧ Q (.int ys.length) H) bLen := simC1 fun S x t u Q e k ru hg q => by
  obtain ⟨l, hl, rfl⟩ := Option.map_eq_some_iff.mp hg
  obtain ⟨p, vs, rfl, hs, rl⟩ := seqOf_ok k hl ru
  rw [e] at hs
  exact ⟨p, vs, rfl, hs, q _ (by rw [rl.len]; simp)⟩
@[simp] abbrev bLenS := one fun x _ => match x with | .str z => if z.length ≤ sizeLine then some (.int z.length) else none | _ => none
theorem sb_lenS : SimRC G (fun xs H Q => ∃ z, xs = [.str z] ∧ z.length ≤ sizeLine ∧ Q (.int z.length) H) bLenS := simC1 fun S x t u Q e k ru hg q => by
  split at hg
  · split at hg
    · rename_i hb
      simp only [Rv] at ru; cases hg; subst ru; exact ⟨_, rfl, hb, q _ (by simp)⟩
    · cases hg
  · cases hg
/-- list(x) of a list or tuple -/
@[simp] abbrev bList : List T → AH → Res T := fun xs h => match xs with | [x] => (pur (seqOf x h) h).bind fun l h1 => .ok (.lst l) h1 | _ => .bad
@[simp] abbrev bListO : List T → AH → Res T := fun xs h => match xs with | [x] => (pur (seqOf x h) h).bind fun l h1 => .ok (.obj h1.length) (h1 ++ [some (.lst l)]) | _ => .bad
theorem sb_list : SimRC G (fun xs H Q => ∃ p ys, xs = [.ref p] ∧ (SqL G.K H p ys ∨ SqT G.K H p ys) ∧ ∀ l, H l = none → Q (.ref l) (upd H l (.lst ys))) bList := fun S xs us X Q e k ru p => by
  rw [← e]
  unfold bList at p
  split at p
  · unfold pur at p
    split at p
    · rename_i l hl
      simp only [RvL] at ru
      obtain ⟨v, _, rfl, h1, rfl⟩ := ru
      obtain ⟨a, vs, rfl, hs, rl⟩ := seqOf_ok k hl h1
      exact ⟨a, vs, rfl, hs, new_fz k p fun p n f => rv_lst f (rl.mono (step_at (by assumption) (Grow.upd n)))⟩
    · exact p.elim
  · exact p.elim
theorem sb_listO : SimRC G (fun xs H Q => ∃ p ys, xs = [.ref p] ∧ (SqL G.K H p ys ∨ SqT G.K H p ys) ∧ ∀ l, H l = none → Q (.ref l) (upd H l (.lst ys))) bListO := fun S xs us X Q e k ru p => by
  rw [← e]
  unfold bListO at p
  split at p
  · unfold pur at p
    split at p
    · rename_i l hl
      simp only [RvL] at ru
      obtain ⟨v, _, rfl, h1, rfl⟩ := ru
      obtain ⟨a, vs, rfl, hs, rl⟩ := seqOf_ok k hl h1
      exact ⟨a, vs, rfl, hs, new_obj k p fun S' st => ⟨_, rfl, rl.mono st⟩⟩
    · exact p.elim
  · exact p.elim
/-- tuple(x) -/
@[simp] abbrev bTuple : List T → AH → Res T := fun xs h => match xs with
  | [x] => match tupOf x with
    | some _ => .ok x h
    | none => (pur (lstOf x h) h).bind fun l h1 => .ok (.tup l) h1
  | _ => .bad
theorem sb_tuple : SimRC G (fun xs H Q => ∃ p ys, xs = [.ref p] ∧ ((SqL G.K H p ys ∧ ∀ l, H l = none → Q (.ref l) (upd H l (.tup ys))) ∨ (SqT G.K H p ys ∧ Q (.ref p) H))) bTuple := fun S xs us X Q e k ru p => by
  rw [← e]
  unfold bTuple at p
  split at p
  · simp only [RvL] at ru
    obtain ⟨v, _, rfl, h1, rfl⟩ := ru
    split at p
    · rename_i l hl
      obtain ⟨a, vs, rfl, hs, rl⟩ := tupOf_ok hl h1
      exact ⟨a, vs, rfl, .inr ⟨hs, p S rfl k (Step.refl S) _ h1⟩⟩
    · unfold pur at p
      split at p
      · rename_i l hl
        obtain ⟨a, vs, rfl, hs, rl⟩ := lstOf_ok k hl h1
        exact ⟨a, vs, rfl, .inl ⟨hs, new_fz k p fun p n f => rv_tup f (rl.mono (step_at (by assumption) (Grow.upd n)))⟩⟩
      · exact p.elim
  · exact p.elim
/-- isinstance(x, T) of a built-in type, by what x is -/
def tyOf : T → AH → Option String
  | .non, _ => some "NoneType" | .bl _, _ => some "bool" | .int _, _ => some "int" | .str _, _ => some "str" | .tup _, _ => some "tuple" | .ktp _, _ => some "tuple" | .lst _, _ => some "list"
  | .obj i, h => match h[i]? with | some (some (.lst _)) => some "list" | some (some (.dct _)) => some "dict" | _ => none
  | .dct _ _, _ => some "dict"
  | _, _ => none
@[simp] abbrev bIsi (n : String) : List T → AH → Res T := one fun x h => (tyOf x h).bind fun a => (kitB a n).map .bl
end M
/-! ### statements, loops, comprehensions, calls, defs -/
namespace M
open PySem PySem.Spec PyProof.Rows L2
variable {G : Env} {E : L2.St → XK} {S : Sta}

inductive Fl where
  | nx (τ : LS) | rt (t : T) | bk (τ : LS) | ct (τ : LS) | xc (e : Exc) (τ : LS)
  deriving Inhabited
abbrev FS := LS → AH → Res Fl
def PF (W : WX) (D : Ends) : Fl → Sta → Prop
  | .nx τ, S => ∀ σ, RS S τ σ → D.nx σ S.H
  | .rt t, S => ∀ v, Rv S t v → D.rt v S.H
  | .bk τ, S => ∀ σ, RS S τ σ → D.bk σ S.H
  | .ct τ, S => ∀ σ, RS S τ σ → D.ct σ S.H
  | .xc e τ, S => ∀ σ, RS S τ σ → XP (WE W σ) e S
abbrev PG (S : Sta) (W : WX) (D : Ends) (r : Res Fl) : Prop := PostG S (fun _ _ => False) (PF W D) r
def SimS (G : Env) (W : WX) (ts : TS) (g : FS) : Prop := ∀ (S : Sta) (σ : L2.St) (τ : LS) (D : Ends), S.G = G → Ok S → RS S τ σ → PG S W D (g τ S.h) → ts D σ S.H
variable {W : WX}
/-- an expression within a statement -/
def liftE {α : Type} (r : Res α) (τ : LS) (k : α → AH → Res Fl) : Res Fl := match r with | .bad => .bad | .ok a h => k a h | .exc e h => .ok (.xc e τ) h
@[simp] theorem lift_ok {α : Type} {a : α} {h : AH} {τ : LS} {k : α → AH → Res Fl} : liftE (.ok a h) τ k = k a h := rfl
@[simp] theorem lift_bad {α : Type} {τ : LS} {k : α → AH → Res Fl} : liftE .bad τ k = .bad := rfl
@[simp] theorem lift_exc {α : Type} {e : Exc} {h : AH} {τ : LS} {k : α → AH → Res Fl} : liftE (.exc e h) τ k = .ok (.xc e τ) h := rfl
theorem PG.lift {α : Type} {σ : L2.St} {τ : LS} {D : Ends} {k : α → AH → Res Fl} (rs : RS S τ σ) : ∀ {r : Res α}, PG S W D (liftE r τ k) → PostG S (XP (WE W σ)) (fun a S1 => Ok S1 ∧ Step S S1 ∧ PG S1 W D (k a S1.h)) r
  | .bad, h => h
  | .ok a h', h => fun S' e k st => by
    subst e
    exact ⟨k, st, PostG.mono st h⟩
  | .exc e h', h => fun S' e' k st => h S' e' k st σ (rs.mono st)
@[simp] def sSkip : FS := fun τ h => .ok (.nx τ) h
theorem sim_next : SimS G W tNext sSkip := fun S σ τ D e k rs p => p S rfl k (Step.refl S) σ rs
@[simp] def sBreak : FS := fun τ h => .ok (.bk τ) h
theorem sim_break : SimS G W tBreak sBreak := fun S σ τ D e k rs p => p S rfl k (Step.refl S) σ rs
@[simp] def sCont : FS := fun τ h => .ok (.ct τ) h
theorem sim_cont : SimS G W tCont sCont := fun S σ τ D e k rs p => p S rfl k (Step.refl S) σ rs
@[simp] def sSeq (f g : FS) : FS := fun τ h => (f τ h).bind fun fl h1 => match fl with | .nx τ' => g τ' h1 | fl => .ok fl h1
theorem sim_seq {t u : TS} {f g : FS} (hf : SimS G W t f) (hg : SimS G W u g) : SimS G W (tSeq t u) (sSeq f g) := fun S σ τ D e k rs p => by
  refine hf S σ τ _ e k rs (PostG.imp (fun fl S1 q => ?_) (PostG.bind p))
  obtain ⟨k1, s1, q⟩ := q
  cases fl with
  | nx τ' => exact fun σ' r => hg S1 σ' τ' D (s1.G.trans e) k1 r q
  | rt t => exact q S1 rfl k1 (Step.refl S1)
  | bk t => exact q S1 rfl k1 (Step.refl S1)
  | ct t => exact q S1 rfl k1 (Step.refl S1)
  | xc e t => exact q S1 rfl k1 (Step.refl S1)
section
variable {te : TE} {fe : FE}
@[simp] def sDrop (fe : FE) : FS := fun τ h => liftE (fe τ h) τ fun _ h1 => .ok (.nx τ) h1
theorem sim_drop (he : SimE G (WE W) te fe) : SimS G W (tDrop te) (sDrop fe) := fun S σ τ D e k rs p => by
  refine he S σ τ _ e k rs (PostG.imp (fun x S1 q u ru => ?_) (PG.lift rs p))
  obtain ⟨k1, s1, q⟩ := q
  exact q S1 rfl k1 (Step.refl S1) σ (rs.mono s1)
@[simp] def sRet (fe : FE) : FS := fun τ h => liftE (fe τ h) τ fun t h1 => .ok (.rt t) h1
theorem sim_ret (he : SimE G (WE W) te fe) : SimS G W (tRet te) (sRet fe) := fun S σ τ D e k rs p => by
  refine he S σ τ _ e k rs (PostG.imp (fun x S1 q u ru => ?_) (PG.lift rs p))
  obtain ⟨k1, s1, q⟩ := q
  exact q S1 rfl k1 (Step.refl S1) u ru
@[simp] def sRetN : FS := fun _ h => .ok (.rt .non) h
theorem sim_retN : SimS G W tRetN sRetN := fun S σ τ D e k rs p => p S rfl k (Step.refl S) _ (by simp only [Rv])
@[simp] def sIf (f : FT) (a b : FS) : FS := fun τ h => liftE (f τ h) τ fun c h1 => if c = true then a τ h1 else b τ h1
theorem sim_if {c : TT} {f : FT} {t u : TS} {a b : FS} (hc : SimT G (WE W) c f) (ha : SimS G W t a) (hb : SimS G W u b) : SimS G W (tIfS c t u) (sIf f a b) := fun S σ τ D e k rs p => by
  refine hc S σ τ _ e k rs (PostG.imp (fun c S1 q => ?_) (PG.lift rs p))
  obtain ⟨k1, s1, q⟩ := q
  cases c with
  | true => exact ha S1 σ τ D (s1.G.trans e) k1 (rs.mono s1) q
  | false => exact hb S1 σ τ D (s1.G.trans e) k1 (rs.mono s1) q
/-! targets -/
abbrev FG := T → LS → Option LS
def SimG (G : Env) (g : TG) (a : FG) : Prop := ∀ (S : Sta) (x : T) (v : V) (τ τ' : LS) (σ : L2.St) (Q : L2.St → Hp → Prop), S.G = G → Ok S → Rv S x v → RS S τ σ → a x τ = some τ' → (∀ σ', RS S τ' σ' → Q σ' S.H) → g v σ S.H Q
@[simp] def aName (i : Nat) : FG := fun x τ => some (τ.set i (some x))
theorem sim_gName {i : Nat} (hn : NoSl G i := by first | exact noSl_none rfl | exact noSl_ne (by decide) | assumption) : SimG G (gName i) (aName i) := fun S x v τ τ' σ Q e k rv rs h q => by
  unfold aName at h; cases h
  exact q _ (RS.set rv i (by rw [e]; exact hn) rs)
abbrev FGs := List T → LS → Option LS
def SimGs (G : Env) (g : TGs) (a : FGs) : Prop := ∀ (S : Sta) (x : List T) (v : List V) (τ τ' : LS) (σ : L2.St) (Q : L2.St → Hp → Prop), S.G = G → Ok S → RvL S x v → RS S τ σ → a x τ = some τ' → (∀ σ', RS S τ' σ' → Q σ' S.H) → g v σ S.H Q
@[simp] def aNil : FGs := fun xs τ => match xs with | [] => some τ | _ => none
@[simp] def aCons (a : FG) (r : FGs) : FGs := fun xs τ => match xs with | x :: xs => (a x τ).bind fun τ' => r xs τ' | [] => none
theorem sim_gNil : SimGs G gNil aNil := fun S x v τ τ' σ Q e k rv rs h q => by
  unfold aNil at h
  split at h
  · cases h
    simp only [RvL] at rv
    exact ⟨rv, q _ rs⟩
  · cases h
theorem sim_gCons {g : TG} {u : TGs} {a : FG} {r : FGs} (hg : SimG G g a) (hu : SimGs G u r) : SimGs G (gCons g u) (aCons a r) := fun S x v τ τ' σ Q e k rv rs h q => by
  unfold aCons at h
  split at h
  · obtain ⟨τ1, h1, h2⟩ := Option.bind_eq_some_iff.mp h
    simp only [RvL] at rv
    obtain ⟨w, m, rfl, r1, r2⟩ := rv
    exact ⟨w, m, rfl, hg S _ _ τ τ1 σ _ e k r1 rs h1 fun σ' rs' => hu S _ _ τ1 τ' σ' Q e k r2 rs' h2 q⟩
  · cases h
@[simp] def aTup (n : Nat) (r : FGs) : FG := fun x τ => (tupOf x).bind fun l => if l.length = n then r l τ else none
theorem sim_gTup {n : Nat} {u : TGs} {r : FGs} (hu : SimGs G u r) : SimG G (gTup G.K n u) (aTup n r) := fun S x v τ τ' σ Q e k rv rs h q => by
  unfold aTup at h
  obtain ⟨l, hl, h⟩ := Option.bind_eq_some_iff.mp h
  split at h
  · rename_i hn
    obtain ⟨p, vs, rfl, hs, rl⟩ := tupOf_ok hl rv
    rw [e] at hs
    exact ⟨p, vs, rfl, hs, by rw [rl.len]; exact hn, hu S l vs τ τ' σ Q e k rl rs h q⟩
  · cases h
@[simp] def sAsg (fe : FE) (a : FG) : FS := fun τ h => liftE (fe τ h) τ fun t h1 => match a t τ with | some τ' => .ok (.nx τ') h1 | none => .bad
theorem sim_asg {g : TG} {a : FG} (he : SimE G (WE W) te fe) (hg : SimG G g a) : SimS G W (tAsg te g) (sAsg fe a) := fun S σ τ D e k rs p => by
  refine he S σ τ _ e k rs (PostG.imp (fun x S1 q u ru => ?_) (PG.lift rs p))
  obtain ⟨k1, s1, q⟩ := q
  split at q
  · rename_i τ' hτ
    exact hg S1 x u τ τ' σ _ (s1.G.trans e) k1 ru (rs.mono s1) hτ fun σ' rs' => q S1 rfl k1 (Step.refl S1) σ' rs'
  · exact q.elim
@[simp] def sSet (i : Nat) (fe : FE) : FS := fun τ h => liftE (fe τ h) τ fun t h1 => .ok (.nx (τ.set i (some t))) h1
theorem sim_set {i : Nat} (he : SimE G (WE W) te fe) (hn : NoSl G i := by first | exact noSl_none rfl | exact noSl_ne (by decide) | assumption) : SimS G W (tAsg te (gName i)) (sSet i fe) := fun S σ τ D e k rs p => by
  refine he S σ τ _ e k rs (PostG.imp (fun x S1 q u ru => ?_) (PG.lift rs p))
  obtain ⟨k1, s1, q⟩ := q
  exact q S1 rfl k1 (Step.refl S1) _ (RS.set ru i (by rw [s1.G, e]; exact hn) (rs.mono s1))
/-- a, b = x, y -/
@[simp] def sPar (i j : Nat) (fa : FA) : FS := fun τ h => liftE (fa τ h) τ fun xs h1 => match xs with | [x, y] => .ok (.nx ((τ.set i (some x)).set j (some y))) h1 | _ => .bad
theorem sim_par {i j : Nat} {ta : TA} {fa : FA} (he : SimA G (WE W) ta fa) (hn : NoSl G i := by first | exact noSl_none rfl | exact noSl_ne (by decide) | assumption) (hm : NoSl G j := by first | exact noSl_none rfl | exact noSl_ne (by decide) | assumption) : SimS G W (tPar i j ta) (sPar i j fa) := fun S σ τ D e k rs p => by
  refine he S σ τ _ e k rs (PostG.imp (fun x S1 q u ru => ?_) (PG.lift rs p))
  obtain ⟨k1, s1, q⟩ := q
  split at q
  · simp only [RvL] at ru
    obtain ⟨v, _, rfl, r1, w, _, rfl, r2, rfl⟩ := ru
    exact ⟨v, w, rfl, q S1 rfl k1 (Step.refl S1) _ (RS.set r2 j (by rw [s1.G, e]; exact hm) (RS.set r1 i (by rw [s1.G, e]; exact hn) (rs.mono s1)))⟩
  · exact q.elim
/-- x op= e -/
@[simp] def sAug (i : Nat) (fe : FE) (g : T → T → AH → Res T) : FS := fun τ h => match τ[i]? with
  | some (some x) => liftE (fe τ h) τ fun y h1 => liftE (g x y h1) τ fun z h2 => .ok (.nx (τ.set i (some z))) h2
  | _ => .bad
def SimIp (G : Env) (r : TIp) (g : T → T → AH → Res T) : Prop := SimR2 G r g
theorem sim_aug {i : Nat} {r : TIp} {g : T → T → AH → Res T} (hr : SimR2 G r g) (he : SimE G (WE W) te fe) (hn : NoSl G i := by first | exact noSl_none rfl | exact noSl_ne (by decide) | assumption) : SimS G W (tAug i te r) (sAug i fe g) := fun S σ τ D e k rs p => by
  unfold sAug at p
  split at p
  · rename_i x hx
    obtain ⟨u, hu, ru⟩ := rs.get hx
    refine ⟨u, hu, ?_⟩
    refine he S σ τ _ e k rs (PostG.imp (fun y S1 q v rv => ?_) (PG.lift rs p))
    obtain ⟨k1, s1, q⟩ := q
    refine hr S1 x y u v _ _ (s1.G.trans e) k1 (ru.mono s1) rv (PostG.imp (fun z S2 q w rw' => ?_) (PG.lift (σ := σ) (rs.mono s1) q))
    obtain ⟨k2, s2, q⟩ := q
    exact q S2 rfl k2 (Step.refl S2) _ (RS.set rw' i (by rw [s2.G, s1.G, e]; exact hn) (rs.mono (s1.trans s2)))
  · exact p.elim
end
/-! while -/
def sWhile (f : FT) (b : FS) : Nat → FS
  | 0 => fun _ _ => .bad
  | n + 1 => fun τ h => liftE (f τ h) τ fun c h1 => if c = true then (b τ h1).bind fun fl h2 => match fl with
      | .nx τ' => sWhile f b n τ' h2
      | .ct τ' => sWhile f b n τ' h2
      | .bk τ' => .ok (.nx τ') h2
      | fl => .ok fl h2
    else .ok (.nx τ) h1
theorem sim_while {c : TT} {f : FT} {t : TS} {b : FS} (n : Nat) (hc : SimT G (WE W) c f) (hb : SimS G W t b) : SimS G W (tWhile c t) (sWhile f b n) := fun S σ τ D e k rs p => by
  refine ⟨fun m σ H => ∃ S τ, S.H = H ∧ S.G = G ∧ Ok S ∧ RS S τ σ ∧ PG S W D (sWhile f b m τ S.h), ⟨n, S, τ, rfl, e, k, rs, p⟩, ?_⟩
  rintro m σ H ⟨S, τ, rfl, e, k, rs, p⟩
  cases m with
  | zero => exact p.elim
  | succ m =>
    refine hc S σ τ _ e k rs (PostG.imp (fun c S1 q => ?_) (PG.lift rs p))
    obtain ⟨k1, s1, q⟩ := q
    cases c with
    | false => exact q S1 rfl k1 (Step.refl S1) σ (rs.mono s1)
    | true =>
      rw [if_pos rfl]
      refine ⟨fun σ' H' => ∃ S τ, S.H = H' ∧ S.G = G ∧ Ok S ∧ RS S τ σ' ∧ PG S W D (sWhile f b m τ S.h), fun σ' H' h => ⟨m, Nat.lt_succ_self m, h⟩, ?_⟩
      refine hb S1 σ τ _ (s1.G.trans e) k1 (rs.mono s1) (PostG.imp (fun fl S2 q => ?_) (PostG.bind q))
      obtain ⟨k2, s2, q⟩ := q
      cases fl with
      | nx τ' => exact fun σ' r => ⟨S2, τ', rfl, s2.G.trans (s1.G.trans e), k2, r, q⟩
      | ct τ' => exact fun σ' r => ⟨S2, τ', rfl, s2.G.trans (s1.G.trans e), k2, r, q⟩
      | bk τ' => exact q S2 rfl k2 (Step.refl S2)
      | rt t => exact q S2 rfl k2 (Step.refl S2)
      | xc e t => exact q S2 rfl k2 (Step.refl S2)
/-! what is walked -/
/-- J gives the items of l, one a turn, whatever else goes on -/
def ItOk (S0 : Sta) (J : It) (l : List T) : Prop := ∀ S, Tr S0 S → Ok S → ∀ i : Nat, (∀ x, l[i]? = some x → J.go i S.H ∧ ∀ v H', J.yld i S.H v H' → ∃ S', S'.H = H' ∧ S'.h = S.h ∧ Ok S' ∧ Step S S' ∧ Rv S' x v) ∧ (l.length ≤ i → J.stop i S.H)
def SimI (G : Env) (E : L2.St → XK) (wi : TI) (fi : FA) : Prop := ∀ (S : Sta) (σ : L2.St) (τ : LS) (R : It → Hp → Prop), S.G = G → Ok S → RS S τ σ → PostG S (XP (E σ)) (fun l S' => ∀ J, ItOk S' J l → R J S'.H) (fi τ S.h) → wi σ S.H R
theorem it_list {p : Addr} {l : List T} {vs : List V} (e : S.G = G) (f : Fz S p (.lst vs)) (r : RvL S l vs) : ItOk S (Itl G.K p) l := fun S1 st k i => by
  have hs : SqL G.K S1.H p vs := by rw [← e, ← st.G]; exact sql_of (st.fz _ _ f)
  have uniq : ∀ xs, SqL G.K S1.H p xs → xs[i]? = vs[i]? ∨ True := fun _ _ => .inr trivial
  refine ⟨fun x hx => ?_, fun h => ⟨vs, hs, by rw [r.len]; exact h⟩⟩
  obtain ⟨v, hv, rv⟩ := (r.tr st).get hx
  refine ⟨⟨vs, v, hs, hv⟩, fun w H' hy => ?_⟩
  obtain ⟨rfl, hy⟩ := hy
  have := hy vs hs
  rw [hv] at this
  cases this
  exact ⟨S1, rfl, rfl, k, Step.refl S1, rv⟩
theorem it_tup {p : Addr} {l : List T} {vs : List V} (e : S.G = G) (hs : ∀ S1, Tr S S1 → SqT G.K S1.H p vs) (r : RvL S l vs) : ItOk S (Itt G.K p) l := fun S1 st k i => by
  have hs := hs S1 st
  refine ⟨fun x hx => ?_, fun h => ⟨vs, hs, by rw [r.len]; exact h⟩⟩
  obtain ⟨v, hv, rv⟩ := (r.tr st).get hx
  refine ⟨⟨vs, v, hs, hv⟩, fun w H' hy => ?_⟩
  obtain ⟨rfl, hy⟩ := hy
  have := hy vs hs
  rw [hv] at this
  cases this
  exact ⟨S1, rfl, rfl, k, Step.refl S1, rv⟩
theorem tup_stay {x : T} {l : List T} {u : V} (e : S.G = G) (h : tupOf x = some l) (r : Rv S x u) : ∃ p vs, u = .ref p ∧ (∀ S1, Tr S S1 → SqT G.K S1.H p vs) ∧ RvL S l vs := by
  subst e
  cases x <;> simp only [tupOf] at h <;> first
    | (cases h; done)
    | (cases h; simp only [Rv] at r; obtain ⟨p, vs, rfl, f, rl⟩ := r; first | exact ⟨p, vs, rfl, fun S1 st => by rw [← st.G]; exact sqt_of (st.fz _ _ f), rl⟩ | exact ⟨p, vs, rfl, fun S1 st => .inr f, rl⟩)
section
variable {te : TE} {fe : FE} {ta : TA} {fa : FA}
@[simp] def iLst (fe : FE) : FA := fun τ h => (fe τ h).bind fun x h1 => match x with | .lst l => .ok l h1 | _ => .bad
theorem sim_iLst (he : SimE G E te fe) : SimI G E (iList G.K te) (iLst fe) := fun S σ τ R e k rs p => by
  refine he S σ τ _ e k rs (PostG.imp (fun x S1 q u ru => ?_) (PostG.bind p))
  obtain ⟨k1, s1, q⟩ := q
  split at q
  · simp only [Rv] at ru
    obtain ⟨p, vs, rfl, f, rl⟩ := ru
    have e1 := s1.G.trans e
    exact ⟨p, rfl, ⟨vs, by rw [← e1]; exact sql_of f⟩, q S1 rfl k1 (Step.refl S1) _ (it_list e1 f rl)⟩
  · exact q.elim
@[simp] def iTupM (fe : FE) : FA := fun τ h => (fe τ h).bind fun x h1 => match tupOf x with | some l => .ok l h1 | none => .bad
theorem sim_iTup (he : SimE G E te fe) : SimI G E (iTup G.K te) (iTupM fe) := fun S σ τ R e k rs p => by
  refine he S σ τ _ e k rs (PostG.imp (fun x S1 q u ru => ?_) (PostG.bind p))
  obtain ⟨k1, s1, q⟩ := q
  split at q
  · rename_i l hl
    have e1 := s1.G.trans e
    obtain ⟨p, vs, rfl, hs, rl⟩ := tup_stay e1 hl ru
    exact ⟨p, rfl, ⟨vs, hs S1 (Tr.refl S1)⟩, q S1 rfl k1 (Step.refl S1) _ (it_tup e1 hs rl)⟩
  · exact q.elim
@[simp] def irange (lo : Int) (n : Nat) : List T := (List.range n).map fun i => .int (lo + (i : Nat))
theorem it_rng {lo : Int} {n : Nat} : ItOk S (Itr lo n) (irange lo n) := fun S1 st k i => by
  refine ⟨fun x hx => ?_, fun h => by rw [irange, List.length_map, List.length_range] at h; exact h⟩
  unfold irange at hx
  rw [List.getElem?_map] at hx
  obtain ⟨j, hj, rfl⟩ := Option.map_eq_some_iff.mp hx
  have h1 := (List.getElem?_eq_some_iff.mp hj).1
  rw [List.length_range] at h1
  have h2 : j = i := by
    rw [List.getElem?_range h1] at hj
    exact (Option.some.inj hj).symm
  subst h2
  refine ⟨h1, fun v H' hy => ?_⟩
  obtain ⟨rfl, rfl⟩ := hy
  exact ⟨S1, rfl, rfl, k, Step.refl S1, by simp only [Rv]⟩
/-- a bound that range takes -/
def r62 (i : Int) : Bool := decide (i.natAbs.log2 < 61)
theorem r62_iff {i : Int} (h : r62 i = true) : -(2 ^ 62) ≤ i ∧ i < 2 ^ 62 := by
  have h : i.natAbs.log2 < 61 := of_decide_eq_true h
  by_cases z : i.natAbs = 0
  · omega
  · have := (Nat.log2_lt z).mp h
    have : (2 : Nat) ^ 61 = 2305843009213693952 := by decide
    omega
theorem r62_ok {i : Int} (h0 : -1000000000000 ≤ i) (h1 : i ≤ 1000000000000) : r62 i = true := by
  refine decide_eq_true ?_
  by_cases z : i.natAbs = 0
  · rw [z]; decide
  · refine (Nat.log2_lt z).mpr ?_
    have : (2 : Nat) ^ 61 = 2305843009213693952 := by decide
    omega
@[simp] theorem r62_0 : r62 0 = true := r62_ok (by decide) (by decide)
@[simp] theorem r62_1 : r62 1 = true := r62_ok (by decide) (by decide)
@[simp] theorem r62_2 : r62 2 = true := r62_ok (by decide) (by decide)
@[simp] theorem r62_3 : r62 3 = true := r62_ok (by decide) (by decide)
@[simp] theorem r62_4 : r62 4 = true := r62_ok (by decide) (by decide)
@[simp] theorem r62_5 : r62 5 = true := r62_ok (by decide) (by decide)
@[simp] theorem r62_6 : r62 6 = true := r62_ok (by decide) (by decide)
@[simp] theorem r62_7 : r62 7 = true := r62_ok (by decide) (by decide)
@[simp] theorem r62_8 : r62 8 = true := r62_ok (by decide) (by decide)
@[simp] theorem r62_32 : r62 32 = true := r62_ok (by decide) (by decide)
/-- range(i, j) -/
def rngI (i j : Int) (h : AH) : Res (List T) := match r62 i && r62 j with | true => .ok (irange i (j - i).toNat) h | false => .bad
@[simp] theorem rngI_ok {i j : Int} {h : AH} (hi : r62 i = true) (hj : r62 j = true) : rngI i j h = .ok (irange i (j - i).toNat) h := by
  unfold rngI; rw [hi, hj]; rfl
@[simp] def iRngA (fa : FA) : FA := fun τ h => (fa τ h).bind fun xs h1 => match xs with | [.int j] => rngI 0 j h1 | _ => .bad
theorem sim_rng1 (ha : SimA G E ta fa) : SimI G E (iRng1 ta) (iRngA fa) := fun S σ τ R e k rs p => by
  refine ha S σ τ _ e k rs (PostG.imp (fun x S1 q u ru => ?_) (PostG.bind p))
  obtain ⟨k1, s1, q⟩ := q
  split at q
  · rename_i j
    by_cases hb : r62 j = true
    · rw [rngI_ok r62_0 hb, Int.sub_zero] at q
      simp only [RvL] at ru
      obtain ⟨v, _, rfl, r1, rfl⟩ := ru
      simp only [Rv] at r1
      subst r1
      exact ⟨_, rfl, (r62_iff hb).1, (r62_iff hb).2, q S1 rfl k1 (Step.refl S1) _ it_rng⟩
    · unfold rngI at q
      rw [Bool.eq_false_iff.mpr hb, Bool.and_false] at q
      exact q.elim
  · exact q.elim
@[simp] def iRngB (fa : FA) : FA := fun τ h => (fa τ h).bind fun xs h1 => match xs with | [.int i, .int j] => rngI i j h1 | _ => .bad
theorem sim_rng2 (ha : SimA G E ta fa) : SimI G E (iRng2 ta) (iRngB fa) := fun S σ τ R e k rs p => by
  refine ha S σ τ _ e k rs (PostG.imp (fun x S1 q u ru => ?_) (PostG.bind p))
  obtain ⟨k1, s1, q⟩ := q
  split at q
  · rename_i i j
    by_cases hb : r62 i = true ∧ r62 j = true
    · rw [rngI_ok hb.1 hb.2] at q
      simp only [RvL] at ru
      obtain ⟨v, _, rfl, r1, w, _, rfl, r2, rfl⟩ := ru
      simp only [Rv] at r1 r2
      subst r1; subst r2
      exact ⟨_, _, rfl, ⟨(r62_iff hb.1).1, (r62_iff hb.1).2, r62_iff hb.2⟩, q S1 rfl k1 (Step.refl S1) _ it_rng⟩
    · unfold rngI at q
      cases h1 : r62 i with
      | false => rw [h1] at q; exact q.elim
      | true => cases h2 : r62 j with
        | false => rw [h1, h2] at q; exact q.elim
        | true => exact (hb ⟨h1, h2⟩).elim
  · exact q.elim
@[simp] def chars (x : Str) : List T := x.cps.toList.map fun c => .str ⟨#[c]⟩
theorem it_str {x : Str} : ItOk S (Its x) (chars x) := fun S1 st k i => by
  refine ⟨fun t ht => ?_, fun h => by rw [chars, List.length_map, Array.length_toList] at h; exact h⟩
  unfold chars at ht
  rw [List.getElem?_map] at ht
  obtain ⟨c, hc, rfl⟩ := Option.map_eq_some_iff.mp ht
  have h1 := (List.getElem?_eq_some_iff.mp hc).1
  rw [Array.length_toList] at h1
  refine ⟨h1, fun v H' hy => ?_⟩
  obtain ⟨rfl, c', hc', rfl⟩ := hy
  rw [Array.getElem?_toList] at hc
  rw [hc] at hc'
  cases hc'
  exact ⟨S1, rfl, rfl, k, Step.refl S1, by simp only [Rv]⟩
@[simp] def iStrM (fe : FE) : FA := fun τ h => (fe τ h).bind fun x h1 => match x with | .str z => .ok (chars z) h1 | _ => .bad
theorem sim_iStr (he : SimE G E te fe) : SimI G E (iStr te) (iStrM fe) := fun S σ τ R e k rs p => by
  refine he S σ τ _ e k rs (PostG.imp (fun x S1 q u ru => ?_) (PostG.bind p))
  obtain ⟨k1, s1, q⟩ := q
  split at q
  · simp only [Rv] at ru
    exact ⟨_, ru, q S1 rfl k1 (Step.refl S1) _ it_str⟩
  · exact q.elim
end
/-! for -/
def sForL (a : FG) (b : FS) : List T → FS
  | [] => fun τ h => .ok (.nx τ) h
  | x :: xs => fun τ h => match a x τ with
    | some τ' => (b τ' h).bind fun fl h1 => match fl with
      | .nx τ2 => sForL a b xs τ2 h1
      | .ct τ2 => sForL a b xs τ2 h1
      | .bk τ2 => .ok (.nx τ2) h1
      | fl => .ok fl h1
    | none => .bad
@[simp] def sFor (fi : FA) (a : FG) (b : FS) : FS := fun τ h => liftE (fi τ h) τ fun l h1 => sForL a b l τ h1
theorem sim_for {wi : TI} {fi : FA} {g : TG} {a : FG} {t : TS} {b : FS} (hi : SimI G (WE W) wi fi) (hg : SimG G g a) (hb : SimS G W t b) : SimS G W (tFor wi g t) (sFor fi a b) := fun S σ τ D e k rs p => by
  refine hi S σ τ _ e k rs (PostG.imp (fun l S1 q J hJ => ?_) (PG.lift rs p))
  obtain ⟨k1, s1, q⟩ := q
  refine ⟨fun i m σ H => ∃ S τ, S.H = H ∧ S.G = G ∧ Ok S ∧ Step S1 S ∧ RS S τ σ ∧ m = l.length - i ∧ i ≤ l.length ∧ PG S W D (sForL a b (l.drop i) τ S.h), ⟨l.length, S1, τ, rfl, s1.G.trans e, k1, Step.refl S1, rs.mono s1, by simp, Nat.zero_le _, q⟩, ?_⟩
  rintro i m σ H ⟨S, τ, rfl, e, k, st, rs, rfl, hi, p⟩
  obtain ⟨go, stop⟩ := hJ S st.tr k i
  by_cases hl : i < l.length
  · right
    have hx : l[i]? = some l[i] := List.getElem?_eq_getElem hl
    obtain ⟨g1, g2⟩ := go _ hx
    refine ⟨g1, fun σ' H' => ∃ S τ, S.H = H' ∧ S.G = G ∧ Ok S ∧ Step S1 S ∧ RS S τ σ' ∧ PG S W D (sForL a b (l.drop (i + 1)) τ S.h), ?_, ?_⟩
    · rintro σ' H' ⟨S2, τ2, rfl, e2, k2, st2, rs2, p2⟩
      exact ⟨l.length - (i + 1), by omega, S2, τ2, rfl, e2, k2, st2, rs2, rfl, hl, p2⟩
    · intro v H' hy
      obtain ⟨S2, rfl, hh, k2, st2, rv⟩ := g2 v H' hy
      rw [List.drop_eq_getElem_cons hl] at p
      unfold sForL at p
      split at p
      · rename_i τ' hτ
        refine hg S2 _ v τ τ' σ _ (st2.G.trans e) k2 rv (rs.mono st2) hτ fun σ2 rs2 => ?_
        rw [← hh] at p
        refine hb S2 σ2 τ' _ (st2.G.trans e) k2 rs2 (PostG.imp (fun fl S3 q => ?_) (PostG.bind (PostG.mono st2 p)))
        obtain ⟨k3, s3, q⟩ := q
        cases fl with
        | nx τ2 => exact fun σ' r => ⟨S3, τ2, rfl, s3.G.trans (st2.G.trans e), k3, st.trans (st2.trans s3), r, q⟩
        | ct τ2 => exact fun σ' r => ⟨S3, τ2, rfl, s3.G.trans (st2.G.trans e), k3, st.trans (st2.trans s3), r, q⟩
        | bk τ' => exact q S3 rfl k3 (Step.refl S3)
        | rt t => exact q S3 rfl k3 (Step.refl S3)
        | xc e t => exact q S3 rfl k3 (Step.refl S3)
      · exact p.elim
  · left
    refine ⟨stop (by omega), ?_⟩
    rw [List.drop_eq_nil_of_le (by omega)] at p
    exact p S rfl k (Step.refl S) σ rs
/-! calls -/
/-- a def's promise: what its mirror m of n arguments says -/
def spM (G : Env) (n : Nat) (m : List T → AH → Res T) : Sp := fun vs H Q E => ∃ S ts, S.G = G ∧ Ok S ∧ S.H = H ∧ RvL S ts vs ∧ ts.length = n ∧ PostG S (XP E) (fun t S' => ∀ v, Rv S' t v → Q v S'.H) (m ts S.h)
@[simp] def mCall (n : Nat) (m : List T → AH → Res T) (fr : FA) : FE := fun τ h => (fr τ h).bind fun xs h1 => if xs.length = n then m xs h1 else .bad
theorem PostG.exc {α : Type} {X X' : Exc → Sta → Prop} {P : α → Sta → Prop} (h : ∀ e S', X e S' → X' e S') : ∀ {r : Res α}, PostG S X P r → PostG S X' P r
  | .bad, q => q
  | .ok _ _, q => q
  | .exc _ _, q => fun S' e k st => h _ _ (q S' e k st)
theorem sim_call {n : Nat} {m : List T → AH → Res T} {ta : TA} {fa : FA} (ha : SimA G E ta fa) : SimE G E (tCall (spM G n m) [] (fun _ _ _ => True) ta) (mCall n m fa) := fun S σ τ Q e k rs p => by
  refine ha S σ τ _ e k rs (PostG.imp (fun x S1 q u ru => ?_) (PostG.bind p))
  obtain ⟨k1, s1, q⟩ := q
  split at q
  · rename_i hn
    rw [List.append_nil]
    exact ⟨S1, x, s1.G.trans e, k1, rfl, ru, hn, PostG.exc (fun _ _ _ _ _ _ => trivial) q⟩
  · exact q.elim
theorem sim_callS {n : Nat} {m : List T → AH → Res T} {ta : TA} {fa : FA} (ha : SimA G E ta fa) : SimE G E (tCallS (spM G n m) E ta) (mCall n m fa) := fun S σ τ Q e k rs p => by
  refine ha S σ τ _ e k rs (PostG.imp (fun x S1 q u ru => ?_) (PostG.bind p))
  obtain ⟨k1, s1, q⟩ := q
  split at q
  · rename_i hn
    exact ⟨S1, x, s1.G.trans e, k1, rfl, ru, hn, q⟩
  · exact q.elim
/-! a def's body -/
@[simp] def outD : Res Fl → Res T
  | .ok (.nx _) h1 => .ok .non h1
  | .ok (.rt t) h1 => .ok t h1
  | .ok (.xc e _) h1 => .exc e h1
  | _ => .bad
@[simp] def mDef (N : Nat) (b : FS) : List T → AH → Res T := fun ts h => outD (b (ts.map some ++ List.replicate (N - ts.length) none) h)
theorem RS0.start {N : List Str} : ∀ {ts : List T} {vs : List V} {n : Nat}, RvL S ts vs → RS0 S (ts.map some ++ List.replicate n none) (vs.map some ++ List.replicate n none)
  | [], vs, n, h => by
    simp only [RvL] at h
    subst h
    simp only [List.map_nil, List.nil_append]
    induction n with
    | zero => rfl
    | succ n ih => exact ⟨none, _, rfl, (fun t ht => by cases ht), ih⟩
  | t :: ts, vs, n, h => by
    simp only [RvL] at h
    obtain ⟨v, r, rfl, h1, h2⟩ := h
    exact ⟨some v, _, rfl, fun t' ht => ⟨v, rfl, by cases ht; exact h1⟩, RS0.start (N := N) h2⟩
/-- the body's reading follows from its mirror -/
theorem def_run {N : List Str} {n : Nat} {b : FS} {t : TS} {vs : List V} {H : Hp} {Q : VK} {E : XK} (hb : SimS G (fun cls d _ H => E cls d H) t b) (h : spM G n (mDef N.length b) vs H Q E) (hx : G.ex = none := by rfl) : t { nx := fun _ H' => Q .non H', rt := Q } (start N vs) H := by
  obtain ⟨S, ts, e, k, rfl, rl, hn, p⟩ := h
  have rs : RS S _ _ := ⟨RS0.start (N := N) (n := N.length - vs.length) rl, fun x h => by rw [e, hx] at h; cases h⟩
  have el : N.length - ts.length = N.length - vs.length := by rw [rl.len]
  unfold mDef at p
  rw [el] at p
  have q : PG S (fun cls d _ H => E cls d H) { nx := fun _ H' => Q .non H', rt := Q } (b (ts.map some ++ List.replicate (N.length - vs.length) none) S.h) := by
    cases hr : b (ts.map some ++ List.replicate (N.length - vs.length) none) S.h with
    | bad => rw [hr] at p; exact p
    | exc e h' => rw [hr] at p; exact p.elim
    | ok fl h' =>
      rw [hr] at p
      intro S' e' k' st
      cases fl with
      | nx τ => exact fun σ _ => p S' e' k' st _ (by simp only [Rv])
      | rt t => exact p S' e' k' st
      | bk τ => exact p.elim
      | ct τ => exact p.elim
      | xc e τ => exact fun σ _ => p S' e' k' st
  exact hb S _ _ _ e k rs q
theorem sp_len {n : Nat} {m : List T → AH → Res T} {ps : List Str} (hp : ps.length = n) : ∀ vs H Q E, spM G n m vs H Q E → vs.length = ps.length := fun vs H Q E h => by
  obtain ⟨S, ts, e, k, rfl, rl, hn, p⟩ := h
  rw [rl.len, hn, hp]
end M
/-! ### methods of lists, dicts, instances, truth, comprehensions, letting go, cleaning -/
namespace M
open PySem PySem.Spec PyProof.Rows L2
variable {G : Env} {E : L2.St → XK} {S : Sta} {W : WX}

theorem obj_at {i : Nat} {o : O} {u : V} (k : Ok S) (h : S.h[i]? = some (some o)) (r : Rv S (.obj i) u) : ∃ p ho, u = .ref p ∧ S.al[i]? = some p ∧ S.H p = some ho ∧ RO S o ho := by
  simp only [Rv] at r
  obtain ⟨p, hp, rfl⟩ := r
  obtain ⟨u, hu, ro⟩ := k.rel i o p h hp
  exact ⟨p, u, rfl, hp, hu, ro⟩
theorem RO.mk_lst {l : List T} {vs : List V} (r : RvL S l vs) : RO S (.lst l) (.lst vs) := ⟨vs, rfl, r⟩
/-- a tracked object is written, and that is all -/
theorem put_done {i : Nat} {o o' : O} {p : Addr} {u : HO} {t : T} {v : V} {Q : VK} {X : Exc → Sta → Prop} (k : Ok S) (h : S.h[i]? = some (some o)) (hp : S.al[i]? = some p) (ro : RO S o' u) (rv : Rv S t v)
    (q : PostG S X (fun t S' => ∀ v, Rv S' t v → Q v S'.H) (.ok t (S.h.set i (some o')))) : Q v (upd S.H p u) :=
  have st := step_put (o' := o') (u := u) k h hp
  q (S.put i o' (upd S.H p u)) rfl (ok_put k h hp ro) st v (rv.mono st)
/-! methods of lists -/
def SimM (G : Env) (T0 : String) (r : V → List V → Hp → VK → Prop) (g : T → List T → AH → Res T) : Prop := ∀ (S : Sta) (x : T) (xs : List T) (u : V) (us : List V) (X : Exc → Sta → Prop) (Q : VK), S.G = G → Ok S → Rv S x u → RvL S xs us → PostG S X (fun t S' => ∀ v, Rv S' t v → Q v S'.H) (g x xs S.h) → r u us S.H Q
@[simp] def isLst : T → AH → Bool
  | .obj i, h => match h[i]? with | some (some (.lst _)) => true | _ => false
  | _, _ => false
@[simp] def mLM (g : T → List T → AH → Res T) (fo : FE) (fr : FA) : FE := fun τ h => (fo τ h).bind fun x h1 => if isLst x h1 = true then (fr τ h1).bind fun xs h2 => g x xs h2 else .bad
theorem ty_list {x : T} {u : V} (k : Ok S) (r : Rv S x u) (h : isLst x S.h = true) : tyV S.G.K "list" u S.H := by
  unfold isLst at h
  split at h
  · split at h
    · rename_i l hl
      obtain ⟨p, vs, rfl, _, hp, _⟩ := obj_lst k hl r
      exact .inl ⟨rfl, vs, .inl (.inl hp)⟩
    · cases h
  · cases h
theorem sim_LM {r : V → List V → Hp → VK → Prop} {g : T → List T → AH → Res T} {to : TE} {fo : FE} {tr : TA} {fr : FA} (hm : SimM G "list" r g) (ho : SimE G E to fo) (ha : SimA G E tr fr) : SimE G E (tBM G.K "list" r to tr) (mLM g fo fr) := fun S σ τ Q e k rs p => by
  refine ho S σ τ _ e k rs (PostG.imp (fun x S1 q u ru => ?_) (PostG.bind p))
  obtain ⟨k1, s1, q⟩ := q
  split at q
  · rename_i hl
    have e1 := s1.G.trans e
    have ty := ty_list k1 ru hl
    rw [e1] at ty
    refine ⟨ty, ?_⟩
    refine ha S1 σ τ _ e1 k1 (rs.mono s1) (PostG.imp (fun y S2 q v rv => ?_) (PostG.bind q))
    obtain ⟨k2, s2, q⟩ := q
    exact hm S2 x y u v _ Q (s2.G.trans e1) k2 (ru.mono s2) rv q
  · exact q.elim
@[simp] def mLM0 (g : T → List T → AH → Res T) (fo : FE) : FE := fun τ h => (fo τ h).bind fun x h1 => if isLst x h1 = true then g x [] h1 else .bad
theorem sim_LM0 {r : V → List V → Hp → VK → Prop} {g : T → List T → AH → Res T} {to : TE} {fo : FE} (hm : SimM G "list" r g) (ho : SimE G E to fo) : SimE G E (tBM0 G.K "list" r to) (mLM0 g fo) := fun S σ τ Q e k rs p => by
  refine ho S σ τ _ e k rs (PostG.imp (fun x S1 q u ru => ?_) (PostG.bind p))
  obtain ⟨k1, s1, q⟩ := q
  split at q
  · rename_i hl
    have e1 := s1.G.trans e
    have ty := ty_list k1 ru hl
    rw [e1] at ty
    exact ⟨ty, hm S1 x [] u [] _ Q e1 k1 ru RvL.nil q⟩
  · exact q.elim
@[simp] def gApp : T → List T → AH → Res T
  | .obj i, [y], h => match h[i]? with
    | some (some (.lst l)) => if l.length < sizeLine then .ok .non (h.set i (some (.lst (l ++ [y])))) else .bad
    | _ => .bad
  | _, _, _ => .bad
theorem sm_append : SimM G "list" rAppend gApp := fun S x xs u us X Q e k ru rus p => by
  unfold gApp at p
  split at p
  · split at p
    · rename_i l hl
      split at p
      · rename_i hz
        obtain ⟨a, vs, rfl, hp, ha, rl⟩ := obj_lst k hl ru
        simp only [RvL] at rus
        obtain ⟨w, _, rfl, r1, rfl⟩ := rus
        exact ⟨a, vs, w, rfl, rfl, ha, by rw [rl.len]; exact hz, put_done k hl hp (RO.mk_lst (rl.app (RvL.cons r1 RvL.nil))) (by simp only [Rv]) p⟩
      · exact p.elim
    · exact p.elim
  · exact p.elim
@[simp] def gExt : T → List T → AH → Res T
  | .obj i, [y], h => match h[i]?, lstIn y h with
    | some (some (.lst l)), some m => if l.length + m.length ≤ sizeLine then .ok .non (h.set i (some (.lst (l ++ m)))) else .bad
    | _, _ => .bad
  | _, _, _ => .bad
theorem sm_extend : SimM G "list" rExtend gExt := fun S x xs u us X Q e k ru rus p => by
  unfold gExt at p
  split at p
  · split at p
    · rename_i l m hl hm
      split at p
      · rename_i hz
        obtain ⟨a, vs, rfl, hp, ha, rl⟩ := obj_lst k hl ru
        simp only [RvL] at rus
        obtain ⟨w, _, rfl, r1, rfl⟩ := rus
        obtain ⟨b, ws, rfl, hb, rm⟩ := lstIn_ok k hm r1
        exact ⟨a, b, vs, ws, rfl, rfl, ha, hb, by rw [rl.len, rm.len]; exact hz, put_done k hl hp (RO.mk_lst (rl.app rm)) (by simp only [Rv]) p⟩
      · exact p.elim
    · exact p.elim
  · exact p.elim
theorem RvL.dropLast {l : List T} {vs : List V} (r : RvL S l vs) : RvL S l.dropLast vs.dropLast := by
  rw [List.dropLast_eq_take, List.dropLast_eq_take, r.len]
  exact r.take _
@[simp] def gPop : T → List T → AH → Res T
  | .obj i, [], h => match h[i]? with
    | some (some (.lst l)) => match l[l.length - 1]? with
      | some t => .ok t (h.set i (some (.lst l.dropLast)))
      | none => .bad
    | _ => .bad
  | _, _, _ => .bad
theorem sm_pop : SimM G "list" rPop gPop := fun S x xs u us X Q e k ru rus p => by
  unfold gPop at p
  split at p
  · split at p
    · rename_i l hl
      split at p
      · rename_i t ht
        obtain ⟨a, vs, rfl, hp, ha, rl⟩ := obj_lst k hl ru
        simp only [RvL] at rus
        subst rus
        obtain ⟨w, hw, rw'⟩ := rl.get ht
        exact ⟨a, vs, w, rfl, rfl, ha, by rw [rl.len]; exact hw, put_done k hl hp (RO.mk_lst rl.dropLast) rw' p⟩
      · exact p.elim
    · exact p.elim
  · exact p.elim
@[simp] def gPopAt : T → List T → AH → Res T
  | .obj i, [.int j], h => match h[i]? with
    | some (some (.lst l)) => if -(2 ^ 63) ≤ j ∧ j < 2 ^ 63 then match seqIndex? j l.length with
      | some n => match l[n]? with
        | some t => .ok t (h.set i (some (.lst (l.eraseIdx n))))
        | none => .bad
      | none => .bad
      else .bad
    | _ => .bad
  | _, _, _ => .bad
theorem sm_popAt : SimM G "list" rPopAt gPopAt := fun S x xs u us X Q e k ru rus p => by
  unfold gPopAt at p
  split at p
  · split at p
    · rename_i l hl
      split at p
      · rename_i hz
        split at p
        · rename_i n hn
          split at p
          · rename_i t ht
            obtain ⟨a, vs, rfl, hp, ha, rl⟩ := obj_lst k hl ru
            simp only [RvL] at rus
            obtain ⟨w, _, rfl, r1, rfl⟩ := rus
            simp only [Rv] at r1
            subst r1
            obtain ⟨w, hw, rw'⟩ := rl.get ht
            exact ⟨a, vs, _, n, w, rfl, rfl, ha, hz.1, hz.2, by rw [rl.len]; exact hn, hw, put_done k hl hp (RO.mk_lst (rl.erase n)) rw' p⟩
          · exact p.elim
        · exact p.elim
      · exact p.elim
    · exact p.elim
  · exact p.elim
@[simp] def gRev : T → List T → AH → Res T
  | .obj i, [], h => match h[i]? with
    | some (some (.lst l)) => .ok .non (h.set i (some (.lst l.reverse)))
    | _ => .bad
  | _, _, _ => .bad
theorem sm_reverse : SimM G "list" rReverse gRev := fun S x xs u us X Q e k ru rus p => by
  unfold gRev at p
  split at p
  · split at p
    · rename_i l hl
      obtain ⟨a, vs, rfl, hp, ha, rl⟩ := obj_lst k hl ru
      simp only [RvL] at rus
      subst rus
      exact ⟨a, vs, rfl, rfl, ha, put_done k hl hp (RO.mk_lst rl.rev) (by simp only [Rv]) p⟩
    · exact p.elim
  · exact p.elim
/-- o[i] = e of a list -/
@[simp] def sSetIx (fe fo fi : FE) : FS := fun τ h => liftE (fe τ h) τ fun t h1 => liftE (fo τ h1) τ fun x h2 => liftE (fi τ h2) τ fun y h3 => match x, y with
  | .obj i, .int j => match h3[i]? with
    | some (some (.lst l)) => match ixN l.length j with
      | some n => .ok (.nx τ) (h3.set i (some (.lst (l.set n t))))
      | none => .bad
    | _ => .bad
  | _, _ => .bad
theorem sim_setIx {te to ti : TE} {fe fo fi : FE} (he : SimE G (WE W) te fe) (ho : SimE G (WE W) to fo) (hi : SimE G (WE W) ti fi) : SimS G W (tAsg te (gSub to ti rSetL)) (sSetIx fe fo fi) := fun S σ τ D e k rs p => by
  refine he S σ τ _ e k rs (PostG.imp (fun t S1 q u ru => ?_) (PG.lift rs p))
  obtain ⟨k1, s1, q⟩ := q
  refine ho S1 σ τ _ (s1.G.trans e) k1 (rs.mono s1) (PostG.imp (fun x S2 q v rv => ?_) (PG.lift (rs.mono s1) q))
  obtain ⟨k2, s2, q⟩ := q
  refine hi S2 σ τ _ (s2.G.trans (s1.G.trans e)) k2 (rs.mono (s1.trans s2)) (PostG.imp (fun y S3 q w rw' => ?_) (PG.lift (rs.mono (s1.trans s2)) q))
  obtain ⟨k3, s3, q⟩ := q
  split at q
  · split at q
    · rename_i l hl
      split at q
      · rename_i n hn
        obtain ⟨a, vs, rfl, hp, ha, rl⟩ := obj_lst k3 hl (rv.mono s3)
        simp only [Rv] at rw'
        have st := step_put (o' := .lst (l.set n t)) (u := .lst (vs.set n u)) k3 hl hp
        refine ⟨a, vs, _, n, rfl, rw', ha, by rw [rl.len]; exact hn, ?_⟩
        exact q (S3.put _ _ _) rfl (ok_put k3 hl hp ⟨_, rfl, rl.set (ru.mono (s2.trans s3)) n⟩) st σ (rs.mono ((s1.trans (s2.trans s3)).trans st))
      · exact q.elim
    · exact q.elim
  · exact q.elim
/-! truth -/
@[simp] def truT : T → AH → Option Bool
  | .non, _ => some false
  | .bl b, _ => some b
  | .int i, _ => some (i != 0)
  | .str y, _ => if y.length ≤ sizeLine then some ((y.length : Int) != 0) else none
  | .tup l, _ => some (!l.isEmpty)
  | .ktp l, _ => some (!l.isEmpty)
  | .lst l, _ => some (!l.isEmpty)
  | .rdl l, _ => some (!l.isEmpty)
  | .obj i, h => match h[i]? with
    | some (some (.lst l)) => some (!l.isEmpty)
    | some (some (.dct m)) => some (!m.isEmpty)
    | _ => none
  | _, _ => none
theorem RvL.emp {l : List T} {vs : List V} (r : RvL S l vs) : (!l.isEmpty) = !vs.isEmpty := by
  have := r.len
  cases l <;> cases vs <;> simp_all
theorem RvK.len {κ : Type} : ∀ {m : List (κ × T)} {vs : List (κ × V)}, RvK S m vs → vs.length = m.length
  | [], _, h => by rw [show _ = [] from h]; rfl
  | (k, t) :: r, _, ⟨v, m', e, h1, h2⟩ => by rw [e]; simp [RvK.len h2]
theorem RvK.emp {κ : Type} {m : List (κ × T)} {vs : List (κ × V)} (r : RvK S m vs) : (!m.isEmpty) = !vs.isEmpty := by
  have := r.len
  cases m <;> cases vs <;> simp_all
theorem truT_ok {x : T} {u : V} {b : Bool} (k : Ok S) (r : Rv S x u) (h : truT x S.h = some b) : TruV S.G.K u S.H b := by
  unfold truT at h
  split at h
  · cases h; simp only [Rv] at r; subst r; rfl
  · cases h; simp only [Rv] at r; subst r; rfl
  · cases h; simp only [Rv] at r; subst r; rfl
  · split at h
    · rename_i hz
      cases h; simp only [Rv] at r; subst r; exact ⟨hz, rfl⟩
    · cases h
  · cases h; simp only [Rv] at r; obtain ⟨p, vs, rfl, f, rl⟩ := r; exact .inr (.inl ⟨vs, sqt_of f, rl.emp⟩)
  · cases h; simp only [Rv] at r; obtain ⟨p, vs, rfl, f, rl⟩ := r; exact .inr (.inl ⟨vs, .inr f, rl.emp⟩)
  · cases h; simp only [Rv] at r; obtain ⟨p, vs, rfl, f, rl⟩ := r; exact .inl ⟨vs, sql_of f, rl.emp⟩
  · cases h; simp only [Rv] at r; obtain ⟨p, vs, rfl, f, rl⟩ := r; exact .inl ⟨vs, sql_rd f, rl.emp⟩
  · split at h
    · rename_i l hl
      cases h
      obtain ⟨p, vs, rfl, _, hp, rl⟩ := obj_lst k hl r
      exact .inl ⟨vs, .inl (.inl hp), rl.emp⟩
    · rename_i m hm
      cases h
      obtain ⟨p, ho, rfl, _, hp, vs, rfl, rk⟩ := obj_at k hm r
      exact .inr (.inr ⟨vs, hp, rk.emp⟩)
    · cases h
  · cases h
@[simp] def mTru (fa : FE) : FT := fun τ h => (fa τ h).bind fun x h1 => pur (truT x h1) h1
theorem sim_tru {ta : TE} {fa : FE} (ha : SimE G E ta fa) : SimT G E (fun σ H Q => ta σ H fun x H' => ∃ k, TruV G.K x H' k ∧ Q k H') (mTru fa) := fun S σ τ Q e k rs p => by
  refine ha S σ τ _ e k rs (PostG.imp (fun x S1 q u ru => ?_) (PostG.bind p))
  obtain ⟨k1, s1, q⟩ := q
  unfold pur at q
  split at q
  · rename_i b hb
    have := truT_ok k1 ru hb
    rw [s1.G.trans e] at this
    exact ⟨b, this, q S1 rfl k1 (Step.refl S1)⟩
  · exact q.elim
/-! dicts -/
section
variable {κ : Type} [DecidableEq κ]
def getT (m : List (κ × T)) (k : κ) : Option T := (m.find? fun kv => decide (kv.1 = k)).map (·.2)
def putT (m : List (κ × T)) (k : κ) (v : T) : List (κ × T) := if (m.any fun kv => decide (kv.1 = k)) = true then m.map (fun kv => if kv.1 = k then (kv.1, v) else kv) else m ++ [(k, v)]
def dropT (m : List (κ × T)) (k : κ) : List (κ × T) := m.filter fun kv => decide (kv.1 ≠ k)
def OptRv (S : Sta) : Option T → Option V → Prop
  | some t, some v => Rv S t v
  | none, none => True
  | _, _ => False
theorem RvK.get {m : List (κ × T)} {vs : List (κ × V)} (r : RvK S m vs) (k : κ) : OptRv S (getT m k) (valV vs k) := by
  induction m generalizing vs with
  | nil => rw [show vs = [] from r]; exact trivial
  | cons p m ih =>
    obtain ⟨k', t⟩ := p
    obtain ⟨v, m', rfl, h1, h2⟩ := r
    have := ih h2
    unfold getT valV at this ⊢
    by_cases e : k' = k
    · simp [List.find?_cons, e]; exact h1
    · simp [List.find?_cons, e]; simpa using this
theorem RvK.any {m : List (κ × T)} {vs : List (κ × V)} (r : RvK S m vs) (k : κ) : (m.any fun kv => decide (kv.1 = k)) = vs.any fun kv => decide (kv.1 = k) := by
  induction m generalizing vs with
  | nil => rw [show vs = [] from r]; rfl
  | cons p m ih =>
    obtain ⟨k', t⟩ := p
    obtain ⟨v, m', rfl, h1, h2⟩ := r
    rw [List.any_cons, List.any_cons, ih h2]
theorem RvK.app {m m2 : List (κ × T)} {vs vs2 : List (κ × V)} (r : RvK S m vs) (r2 : RvK S m2 vs2) : RvK S (m ++ m2) (vs ++ vs2) := by
  induction m generalizing vs with
  | nil => rw [show vs = [] from r]; exact r2
  | cons p m ih =>
    obtain ⟨k', t⟩ := p
    obtain ⟨v, m', rfl, h1, h2⟩ := r
    exact ⟨v, _, rfl, h1, ih h2⟩
theorem RvK.swap {m : List (κ × T)} {vs : List (κ × V)} {t : T} {v : V} (r : RvK S m vs) (k : κ) (rv : Rv S t v) : RvK S (m.map fun kv => if kv.1 = k then (kv.1, t) else kv) (vs.map fun kv => if kv.1 = k then (kv.1, v) else kv) := by
  induction m generalizing vs with
  | nil => rw [show vs = [] from r]; rfl
  | cons p m ih =>
    obtain ⟨k', t'⟩ := p
    obtain ⟨v', m', rfl, h1, h2⟩ := r
    by_cases e : k' = k
    · simp only [List.map_cons, e, if_true]
      exact ⟨v, _, rfl, rv, ih h2⟩
    · simp only [List.map_cons, e, if_false]
      exact ⟨v', _, rfl, h1, ih h2⟩
theorem RvK.put {m : List (κ × T)} {vs : List (κ × V)} {t : T} {v : V} (r : RvK S m vs) (k : κ) (rv : Rv S t v) : RvK S (putT m k t) (putK vs k v) := by
  unfold putT putK
  rw [r.any k]
  split
  · exact r.swap k rv
  · exact r.app (m2 := [(k, t)]) (vs2 := [(k, v)]) ⟨v, [], rfl, rv, rfl⟩
theorem RvK.drop {m : List (κ × T)} {vs : List (κ × V)} (r : RvK S m vs) (k : κ) : RvK S (dropT m k) (dropK vs k) := by
  induction m generalizing vs with
  | nil => rw [show vs = [] from r]; rfl
  | cons p m ih =>
    obtain ⟨k', t'⟩ := p
    obtain ⟨v', m', rfl, h1, h2⟩ := r
    unfold dropT dropK at ih ⊢
    by_cases e : k' = k
    · simp only [List.filter_cons, e, ne_eq, not_true, decide_false]
      exact ih h2
    · simp only [List.filter_cons, e, ne_eq, not_false_eq_true, decide_true]
      exact ⟨v', _, rfl, h1, ih h2⟩
end
@[simp] def keyOf : T → Option Key | .int i => some (.inl i) | .str x => some (.inr x) | _ => none
@[simp] def keysL : List T → Option (List Key)
  | [] => some []
  | t :: ts => (keyOf t).bind fun k => (keysL ts).map fun ks => k :: ks
@[simp] def keysOf : T → Option (List Key) | .tup l => keysL l | _ => none
theorem keyOf_ok {y : T} {v : V} {k : Key} (r : Rv S y v) (h : keyOf y = some k) : v = kV k := by
  cases y <;> simp only [keyOf] at h <;> first | (cases h; done) | (cases h; simp only [Rv] at r; exact r)
theorem keysL_ok : ∀ {l : List T} {vs : List V} {ks : List Key}, RvL S l vs → keysL l = some ks → vs = ks.map kV
  | [], vs, ks, r, h => by simp only [RvL] at r; simp only [keysL] at h; cases h; exact r
  | t :: ts, vs, ks, r, h => by
    simp only [RvL] at r
    obtain ⟨v, q, rfl, r1, r2⟩ := r
    simp only [keysL] at h
    obtain ⟨k, h1, h⟩ := Option.bind_eq_some_iff.mp h
    obtain ⟨ks', h2, rfl⟩ := Option.map_eq_some_iff.mp h
    rw [keyOf_ok r1 h1, keysL_ok r2 h2]; rfl
theorem keysOf_ok {y : T} {v : V} {ks : List Key} (r : Rv S y v) (h : keysOf y = some ks) : ∃ b, v = .ref b ∧ S.H b = some (.tup (ks.map kV)) := by
  cases y <;> simp only [keysOf] at h <;> first | (cases h; done) | skip
  simp only [Rv] at r
  obtain ⟨p, vs, rfl, f, rl⟩ := r
  exact ⟨p, rfl, by rw [← keysL_ok rl h]; exact f.1⟩
@[simp] def dctK : T → AH → Option (List (Key × T))
  | .obj i, h => match h[i]? with | some (some (.dct m)) => some m | _ => none
  | .dct ks l, _ => some (ks.zip l)
  | _, _ => none
@[simp] def dctTT : T → AH → Option (List (List Key × T))
  | .obj i, h => match h[i]? with | some (some (.dctT m)) => some m | _ => none
  | .dctT ks l, _ => some (ks.zip l)
  | _, _ => none
theorem RvK.zip {κ : Type} : ∀ {ks : List κ} {l : List T} {vs : List V}, ks.length = l.length → RvL S l vs → RvK S (ks.zip l) (ks.zip vs)
  | [], [], vs, _, r => by simp only [RvL] at r; subst r; rfl
  | k :: ks, t :: ts, vs, h, r => by
    simp only [RvL] at r
    obtain ⟨v, q, rfl, r1, r2⟩ := r
    exact ⟨v, _, rfl, r1, RvK.zip (by simpa using h) r2⟩
  | [], _ :: _, _, h, _ => by simp at h
  | _ :: _, [], _, h, _ => by simp at h
theorem dctK_ok {x : T} {u : V} {m : List (Key × T)} (k : Ok S) (r : Rv S x u) (h : dctK x S.h = some m) : ∃ a vs, u = .ref a ∧ Rd S.H a (.dK vs) ∧ RvK S m vs := by
  unfold dctK at h
  split at h
  · split at h
    · rename_i m' hm
      cases h
      obtain ⟨p, ho, rfl, _, hp, vs, rfl, rk⟩ := obj_at k hm r
      exact ⟨p, vs, rfl, .inl hp, rk⟩
    · cases h
  · cases h
    simp only [Rv] at r
    obtain ⟨p, vs, rfl, f, n, rl⟩ := r
    exact ⟨p, _, rfl, f.rd, RvK.zip n rl⟩
  · cases h
/-- a dict that is tracked -/
@[simp] def dctO : T → AH → Option (List (Key × T))
  | .obj i, h => match h[i]? with | some (some (.dct m)) => some m | _ => none
  | _, _ => none
theorem dctO_ok {x : T} {u : V} {m : List (Key × T)} (k : Ok S) (r : Rv S x u) (h : dctO x S.h = some m) : ∃ a vs, u = .ref a ∧ S.H a = some (.dK vs) ∧ RvK S m vs := by
  unfold dctO at h
  split at h
  · split at h
    · rename_i m' hm
      cases h
      obtain ⟨p, ho, rfl, _, hp, vs, rfl, rk⟩ := obj_at k hm r
      exact ⟨p, vs, rfl, hp, rk⟩
    · cases h
  · cases h
theorem dctTT_ok {x : T} {u : V} {m : List (List Key × T)} (k : Ok S) (r : Rv S x u) (h : dctTT x S.h = some m) : ∃ a vs, u = .ref a ∧ S.H a = some (.dT vs) ∧ RvK S m vs := by
  unfold dctTT at h
  split at h
  · split at h
    · rename_i m' hm
      cases h
      obtain ⟨p, ho, rfl, _, hp, vs, rfl, rk⟩ := obj_at k hm r
      exact ⟨p, vs, rfl, hp, rk⟩
    · cases h
  · cases h
    simp only [Rv] at r
    obtain ⟨p, vs, rfl, f, n, rl⟩ := r
    exact ⟨p, _, rfl, f.1, RvK.zip n rl⟩
  · cases h
/-- what the dict x holds at y -/
@[simp] def lookD (x y : T) (h : AH) : Option (Option T) := match dctK x h, keyOf y with
  | some m, some k => some (getT m k)
  | _, _ => match dctTT x h, keysOf y with
    | some m, some ks => some (getT m ks)
    | _, _ => none
theorem lookD_ok {x y : T} {u v : V} {o : Option T} (k : Ok S) (ru : Rv S x u) (rv : Rv S y v) (h : lookD x y S.h = some o) : ∃ a o', u = .ref a ∧ DGet S.H a v o' ∧ OptRv S o o' := by
  unfold lookD at h
  split at h
  · rename_i m ky hm hk
    cases h
    obtain ⟨a, vs, rfl, ha, rk⟩ := dctK_ok k ru hm
    exact ⟨a, _, rfl, by rw [keyOf_ok rv hk]; exact .inl ⟨_, _, ha, rfl, rfl⟩, rk.get ky⟩
  · split at h
    · rename_i m ky hm hk
      cases h
      obtain ⟨a, vs, rfl, ha, rk⟩ := dctTT_ok k ru hm
      obtain ⟨b, rfl, hb⟩ := keysOf_ok rv hk
      exact ⟨a, _, rfl, DGet.t ha hb, rk.get ky⟩
    · cases h
section
variable {td ty tx : TE} {fd fy fx : FE}
@[simp] def mDGet (fd fy : FE) : FE := fun τ h => (fd τ h).bind fun x h1 => (fy τ h1).bind fun y h2 => match lookD x y h2 with | some (some t) => .ok t h2 | _ => .bad
theorem sim_dget (ha : SimE G E td fd) (hb : SimE G E ty fy) : SimE G E (tDGet td ty) (mDGet fd fy) := fun S σ τ Q e k rs p => by
  refine ha S σ τ _ e k rs (PostG.imp (fun x S1 q u ru => ?_) (PostG.bind p))
  obtain ⟨k1, s1, q⟩ := q
  refine hb S1 σ τ _ (s1.G.trans e) k1 (rs.mono s1) (PostG.imp (fun y S2 q v rv => ?_) (PostG.bind q))
  obtain ⟨k2, s2, q⟩ := q
  split at q
  · rename_i t ht
    obtain ⟨a, o', rfl, hd, ho⟩ := lookD_ok k2 (ru.mono s2) rv ht
    cases o' with
    | none => exact ho.elim
    | some w => exact ⟨a, w, rfl, hd, q S2 rfl k2 (Step.refl S2) w ho⟩
  · exact q.elim
@[simp] def mDIn (neg : Bool) (fy fd : FE) : FE := fun τ h => (fy τ h).bind fun y h1 => (fd τ h1).bind fun x h2 => match lookD x y h2 with | some o => .ok (.bl (if neg then !o.isSome else o.isSome)) h2 | _ => .bad
theorem optRv_some {o : Option T} {o' : Option V} (h : OptRv S o o') : o'.isSome = o.isSome := by
  cases o <;> cases o' <;> first | rfl | exact h.elim
theorem sim_din (ha : SimE G E ty fy) (hb : SimE G E td fd) : SimE G E (tDIn ty td) (mDIn false fy fd) := fun S σ τ Q e k rs p => by
  refine ha S σ τ _ e k rs (PostG.imp (fun y S1 q v rv => ?_) (PostG.bind p))
  obtain ⟨k1, s1, q⟩ := q
  refine hb S1 σ τ _ (s1.G.trans e) k1 (rs.mono s1) (PostG.imp (fun x S2 q u ru => ?_) (PostG.bind q))
  obtain ⟨k2, s2, q⟩ := q
  split at q
  · rename_i o ht
    obtain ⟨a, o', rfl, hd, ho⟩ := lookD_ok k2 ru (rv.mono s2) ht
    exact ⟨a, o', rfl, hd, q S2 rfl k2 (Step.refl S2) _ (by rw [optRv_some ho]; simp)⟩
  · exact q.elim
theorem sim_dnin (ha : SimE G E ty fy) (hb : SimE G E td fd) : SimE G E (tDNotIn ty td) (mDIn true fy fd) := fun S σ τ Q e k rs p => by
  refine ha S σ τ _ e k rs (PostG.imp (fun y S1 q v rv => ?_) (PostG.bind p))
  obtain ⟨k1, s1, q⟩ := q
  refine hb S1 σ τ _ (s1.G.trans e) k1 (rs.mono s1) (PostG.imp (fun x S2 q u ru => ?_) (PostG.bind q))
  obtain ⟨k2, s2, q⟩ := q
  split at q
  · rename_i o ht
    obtain ⟨a, o', rfl, hd, ho⟩ := lookD_ok k2 ru (rv.mono s2) ht
    exact ⟨a, o', rfl, hd, q S2 rfl k2 (Step.refl S2) _ (by rw [optRv_some ho]; simp)⟩
  · exact q.elim
@[simp] def isD (x : T) (h : AH) : Bool := (dctK x h).isSome || (dctTT x h).isSome
theorem isD_ok {x : T} {u : V} (k : Ok S) (r : Rv S x u) (h : isD x S.h = true) : ∃ a, u = .ref a ∧ IsD S.H a := by
  unfold isD at h
  rw [Bool.or_eq_true] at h
  rcases h with h | h
  · obtain ⟨m, hm⟩ := Option.isSome_iff_exists.mp h
    obtain ⟨a, vs, rfl, ha, _⟩ := dctK_ok k r hm
    exact ⟨a, rfl, .inl ⟨vs, ha⟩⟩
  · obtain ⟨m, hm⟩ := Option.isSome_iff_exists.mp h
    obtain ⟨a, vs, rfl, ha, _⟩ := dctTT_ok k r hm
    exact ⟨a, rfl, .inr ⟨vs, .inl ha⟩⟩
@[simp] def mDGet2 (fd fy fx : FE) : FE := fun τ h => (fd τ h).bind fun x h1 => if isD x h1 = true then (fy τ h1).bind fun y h2 => (fx τ h2).bind fun z h3 => match lookD x y h3 with | some o => .ok (o.getD z) h3 | _ => .bad else .bad
theorem sim_dget2 (ha : SimE G E td fd) (hb : SimE G E ty fy) (hc : SimE G E tx fx) : SimE G E (tDGet2 td ty tx) (mDGet2 fd fy fx) := fun S σ τ Q e k rs p => by
  refine ha S σ τ _ e k rs (PostG.imp (fun x S1 q u ru => ?_) (PostG.bind p))
  obtain ⟨k1, s1, q⟩ := q
  split at q
  · rename_i hd
    obtain ⟨a, rfl, hD⟩ := isD_ok k1 ru hd
    refine ⟨a, rfl, hD, ?_⟩
    refine hb S1 σ τ _ (s1.G.trans e) k1 (rs.mono s1) (PostG.imp (fun y S2 q v rv => ?_) (PostG.bind q))
    obtain ⟨k2, s2, q⟩ := q
    refine hc S2 σ τ _ (s2.G.trans (s1.G.trans e)) k2 (rs.mono (s1.trans s2)) (PostG.imp (fun z S3 q w rw' => ?_) (PostG.bind q))
    obtain ⟨k3, s3, q⟩ := q
    split at q
    · rename_i o ht
      obtain ⟨a', o', ea, hd, ho⟩ := lookD_ok k3 (ru.mono (s2.trans s3)) (rv.mono s3) ht
      cases ea
      refine ⟨o', hd, q S3 rfl k3 (Step.refl S3) _ ?_⟩
      cases o <;> cases o' <;> first | exact ho.elim | exact rw' | exact ho
    · exact q.elim
  · exact q.elim
@[simp] def mDGet1 (fd fy : FE) : FE := fun τ h => (fd τ h).bind fun x h1 => if isD x h1 = true then (fy τ h1).bind fun y h2 => match lookD x y h2 with | some o => .ok (o.getD .non) h2 | _ => .bad else .bad
theorem sim_dget1 (ha : SimE G E td fd) (hb : SimE G E ty fy) : SimE G E (tDGet1 td ty) (mDGet1 fd fy) := fun S σ τ Q e k rs p => by
  refine ha S σ τ _ e k rs (PostG.imp (fun x S1 q u ru => ?_) (PostG.bind p))
  obtain ⟨k1, s1, q⟩ := q
  split at q
  · rename_i hd
    obtain ⟨a, rfl, hD⟩ := isD_ok k1 ru hd
    refine ⟨a, rfl, hD, ?_⟩
    refine hb S1 σ τ _ (s1.G.trans e) k1 (rs.mono s1) (PostG.imp (fun y S2 q v rv => ?_) (PostG.bind q))
    obtain ⟨k2, s2, q⟩ := q
    split at q
    · rename_i o ht
      obtain ⟨a', o', ea, hd, ho⟩ := lookD_ok k2 (ru.mono s2) rv ht
      cases ea
      refine ⟨o', hd, q S2 rfl k2 (Step.refl S2) _ ?_⟩
      cases o <;> cases o' <;> first | exact ho.elim | exact ho | (show Rv _ _ _; simp)
    · exact q.elim
  · exact q.elim
/-- d[y] = v -/
@[simp] def sDPutM (fd fy fv : FE) : FS := fun τ h => liftE (fv τ h) τ fun t h1 => liftE (fd τ h1) τ fun x h2 => liftE (fy τ h2) τ fun y h3 => match x with
  | .obj i => match h3[i]? with
    | some (some (.dct m)) => match keyOf y with
      | some k => if m.length < sizeLine then .ok (.nx τ) (h3.set i (some (.dct (putT m k t)))) else .bad
      | none => .bad
    | some (some (.dctT m)) => match keysOf y with
      | some k => if m.length < sizeLine then .ok (.nx τ) (h3.set i (some (.dctT (putT m k t)))) else .bad
      | none => .bad
    | _ => .bad
  | _ => .bad
theorem sim_dput {tv : TE} {fv : FE} (hv : SimE G (WE W) tv fv) (ha : SimE G (WE W) td fd) (hb : SimE G (WE W) ty fy) : SimS G W (sDPut td ty tv) (sDPutM fd fy fv) := fun S σ τ D e k rs p => by
  refine hv S σ τ _ e k rs (PostG.imp (fun t S1 q w rt => ?_) (PG.lift rs p))
  obtain ⟨k1, s1, q⟩ := q
  refine ha S1 σ τ _ (s1.G.trans e) k1 (rs.mono s1) (PostG.imp (fun x S2 q u ru => ?_) (PG.lift (rs.mono s1) q))
  obtain ⟨k2, s2, q⟩ := q
  refine hb S2 σ τ _ (s2.G.trans (s1.G.trans e)) k2 (rs.mono (s1.trans s2)) (PostG.imp (fun y S3 q v rv => ?_) (PG.lift (rs.mono (s1.trans s2)) q))
  obtain ⟨k3, s3, q⟩ := q
  have rs3 := rs.mono (s1.trans (s2.trans s3))
  split at q
  · split at q
    · rename_i m hm
      split at q
      · rename_i ky hk
        split at q
        · rename_i hz
          obtain ⟨a, ho, rfl, hp, ha, vs, rfl, rk⟩ := obj_at k3 hm (ru.mono s3)
          have st := step_put (o' := .dct (putT m ky t)) (u := .dK (putK vs ky w)) k3 hm hp
          refine ⟨a, _, rfl, by rw [keyOf_ok rv hk]; exact DPut.k ha (by rw [rk.len]; exact hz), ?_⟩
          exact q (S3.put _ _ _) rfl (ok_put k3 hm hp ⟨_, rfl, rk.put ky (rt.mono (s2.trans s3))⟩) st σ (rs3.mono st)
        · exact q.elim
      · exact q.elim
    · rename_i m hm
      split at q
      · rename_i ky hk
        split at q
        · rename_i hz
          obtain ⟨a, ho, rfl, hp, ha, vs, rfl, rk⟩ := obj_at k3 hm (ru.mono s3)
          obtain ⟨b, rfl, hb⟩ := keysOf_ok rv hk
          have st := step_put (o' := .dctT (putT m ky t)) (u := .dT (putK vs ky w)) k3 hm hp
          refine ⟨a, _, rfl, DPut.t ha hb (by rw [rk.len]; exact hz), ?_⟩
          exact q (S3.put _ _ _) rfl (ok_put k3 hm hp ⟨_, rfl, rk.put ky (rt.mono (s2.trans s3))⟩) st σ (rs3.mono st)
        · exact q.elim
      · exact q.elim
    · exact q.elim
  · exact q.elim
@[simp] def mDNew : FE := fun _ h => .ok (.obj h.length) (h ++ [some (.dct [])])
theorem sim_dnew : SimE G E tDNewK mDNew := fun S σ τ Q e k rs p => new_obj k p fun S' st => ⟨[], rfl, rfl⟩
@[simp] def mDNewT : FE := fun _ h => .ok (.obj h.length) (h ++ [some (.dctT [])])
theorem sim_dnewT : SimE G E tDNewT mDNewT := fun S σ τ Q e k rs p => new_obj k p fun S' st => ⟨[], rfl, rfl⟩
@[simp] abbrev bLenD := one fun x h => (dctO x h).map fun m => .int m.length
theorem sb_lenD : SimRC G (fun xs H Q => ∃ a kvs, xs = [V.ref a] ∧ H a = some (.dK kvs) ∧ Q (.int kvs.length) H) bLenD := simC1 fun S x t u Q e k ru hg q => by
  obtain ⟨m, hm, rfl⟩ := Option.map_eq_some_iff.mp hg
  obtain ⟨a, vs, rfl, ha, rk⟩ := dctO_ok k ru hm
  exact ⟨a, vs, rfl, ha, q _ (by rw [rk.len]; simp)⟩
end
/-! the module's dicts with text keys -/
/-- the written dict at d has just these rows (of those that are asked for): a text, and what stands there, if something does -/
def KRows (G : Env) (d : Addr) (rows : List (Str × Option T)) : Prop := ∀ r ∈ rows, match r.2 with
  | some t => ∃ u0 v0, PySem.W.nsIn G.K d r.1 = some (some u0) ∧ RelV v0 u0 ∧ ∀ S, S.G = G → Rv S t v0
  | none => PySem.W.nsIn G.K d r.1 = some none
@[simp] def gKd (n : Str) (rows : List (Str × Option T)) (x y : T) : Option (Option T) := match x, y with | .ref m, .str z => if m = n then rows.lookup z else none | _, _ => none
theorem lookup_mem {α β : Type} [BEq α] [LawfulBEq α] {a : α} {b : β} : ∀ {l : List (α × β)}, l.lookup a = some b → (a, b) ∈ l
  | [], h => by simp at h
  | (c, d) :: l, h => by
    rw [List.lookup_cons] at h
    split at h
    · rename_i e
      cases h
      rw [eq_of_beq e]; exact List.mem_cons_self
    · exact List.mem_cons_of_mem _ (lookup_mem h)
@[simp] abbrev oKd (n : Str) (rows : List (Str × Option T)) := P2 fun x y => (gKd n rows x y).bind id
@[simp] abbrev oKin (neg : Bool) (n : Str) (rows : List (Str × Option T)) : T → T → AH → Res T := P2 fun y x => (gKd n rows x y).map fun o => .bl (if neg then !o.isSome else o.isSome)
theorem gKd_ok {n : Str} {d : Addr} {rows : List (Str × Option T)} {x y : T} {u v : V} {o : Option T} (hd : G.fa n = .ref d) (e : S.G = G) (ru : Rv S x u) (rv : Rv S y v) (h : gKd n rows x y = some o) : ∃ z, u = .ref d ∧ v = .str z ∧ (z, o) ∈ rows := by
  unfold gKd at h
  split at h
  · split at h
    · rename_i em
      subst em
      simp only [Rv] at ru rv
      rw [e, hd] at ru
      exact ⟨_, ru, rv, lookup_mem h⟩
    · cases h
  · cases h
theorem so_kd {n : Str} {d : Addr} {rows : List (Str × Option T)} (hd : G.fa n = .ref d) (hr : KRows G d rows) : SimR2 G (fun x y H Q => ∃ (z : Str) (u0 : Value) (v0 : V), x = .ref d ∧ y = .str z ∧ PySem.W.nsIn G.K d z = some (some u0) ∧ RelV v0 u0 ∧ Q v0 H) (oKd n rows) := simP2 fun S x y t u v Q e k ru rv hg q => by
  obtain ⟨o, ho, h2⟩ := Option.bind_eq_some_iff.mp hg
  cases o with
  | none => cases h2
  | some t' =>
    cases h2
    obtain ⟨z, rfl, rfl, hm⟩ := gKd_ok hd e ru rv ho
    obtain ⟨u0, v0, h1, h2, h3⟩ := hr _ hm
    exact ⟨z, u0, v0, rfl, rfl, h1, h2, q v0 (h3 S e)⟩
theorem so_kin {n : Str} {d : Addr} {rows : List (Str × Option T)} (hd : G.fa n = .ref d) (hr : KRows G d rows) : SimR2 G (fun x y H Q => ∃ (z : Str) (r : Option Value), x = .str z ∧ y = .ref d ∧ PySem.W.nsIn G.K d z = some r ∧ Q (.bl r.isSome) H) (oKin false n rows) := simP2 fun S x y t u v Q e k ru rv hg q => by
  obtain ⟨o, ho, rfl⟩ := Option.map_eq_some_iff.mp hg
  obtain ⟨z, rfl, rfl, hm⟩ := gKd_ok hd e rv ru ho
  have := hr _ hm
  cases o with
  | none => exact ⟨z, none, rfl, rfl, this, q _ (by simp)⟩
  | some t' =>
    obtain ⟨u0, v0, h1, h2, h3⟩ := this
    exact ⟨z, some u0, rfl, rfl, h1, q _ (by simp)⟩
theorem so_knin {n : Str} {d : Addr} {rows : List (Str × Option T)} (hd : G.fa n = .ref d) (hr : KRows G d rows) : SimR2 G (fun x y H Q => ∃ (z : Str) (r : Option Value), x = .str z ∧ y = .ref d ∧ PySem.W.nsIn G.K d z = some r ∧ Q (.bl (!r.isSome)) H) (oKin true n rows) := simP2 fun S x y t u v Q e k ru rv hg q => by
  obtain ⟨o, ho, rfl⟩ := Option.map_eq_some_iff.mp hg
  obtain ⟨z, rfl, rfl, hm⟩ := gKd_ok hd e rv ru ho
  have := hr _ hm
  cases o with
  | none => exact ⟨z, none, rfl, rfl, this, q _ (by simp)⟩
  | some t' =>
    obtain ⟨u0, v0, h1, h2, h3⟩ := this
    exact ⟨z, some u0, rfl, rfl, h1, q _ (by simp)⟩
end M
/-! ### comprehensions, instances, letting go, cleaning, isinstance -/
namespace M
open PySem PySem.Spec PyProof.Rows L2
variable {G : Env} {E : L2.St → XK} {S : Sta} {W : WX}

/-! comprehensions -/
def wipeT (τ : LS) : List Nat → LS
  | [] => τ
  | v :: vs => (wipeT τ vs).set v none
theorem RS.wipe {τ : LS} {σ : L2.St} (r : RS S τ σ) : ∀ vs : List Nat, (∀ v ∈ vs, NoSl S.G v) → RS S (wipeT τ vs) (wipe σ vs)
  | [], _ => r
  | v :: vs, h => RS.unset v (h v List.mem_cons_self) (RS.wipe r vs fun w hw => h w (List.mem_cons_of_mem _ hw))
theorem wipe_get (σ : L2.St) (j : Nat) : ∀ vs : List Nat, (wipe σ vs)[j]? = if j ∈ vs ∧ j < σ.length then some none else σ[j]?
  | [] => by simp [wipe]
  | v :: vs => by
    show ((wipe σ vs).set v none)[j]? = _
    rw [List.getElem?_set, wipe_length, wipe_get σ j vs]
    by_cases e : v = j
    · subst e
      by_cases h : v < σ.length
      · simp [h]
      · have : σ[v]? = none := List.getElem?_eq_none_iff.mpr (by omega)
        simp [h]
    · have e' : ¬ j = v := fun z => e z.symm
      simp [e, e']
theorem wipe_set {σ : L2.St} {i : Nat} {x : Option V} {vs : List Nat} (h : i ∈ vs) : wipe (σ.set i x) vs = wipe σ vs := by
  apply List.ext_getElem?
  intro j
  rw [wipe_get, wipe_get, List.length_set, List.getElem?_set]
  by_cases e : i = j
  · subst e
    by_cases hl : i < σ.length
    · simp [h, hl]
    · have : σ[i]? = none := List.getElem?_eq_none_iff.mpr (by omega)
      simp [hl]
  · simp [e]
theorem wipe_wipe {σ : L2.St} {vs : List Nat} : wipe (wipe σ vs) vs = wipe σ vs := by
  apply List.ext_getElem?
  intro j
  rw [wipe_get, wipe_get, wipe_length]
  split
  · rfl
  · rfl
def SimGw (G : Env) (vs : List Nat) (g : TG) (a : FG) : Prop := ∀ (S : Sta) (x : T) (v : V) (τ τ' : LS) (σ : L2.St) (Q : L2.St → Hp → Prop), S.G = G → Ok S → Rv S x v → RS S τ σ → a x τ = some τ' → (∀ σ', RS S τ' σ' → wipe σ' vs = wipe σ vs → Q σ' S.H) → g v σ S.H Q
def SimGsw (G : Env) (vs : List Nat) (g : TGs) (a : FGs) : Prop := ∀ (S : Sta) (x : List T) (v : List V) (τ τ' : LS) (σ : L2.St) (Q : L2.St → Hp → Prop), S.G = G → Ok S → RvL S x v → RS S τ σ → a x τ = some τ' → (∀ σ', RS S τ' σ' → wipe σ' vs = wipe σ vs → Q σ' S.H) → g v σ S.H Q
theorem sim_wName {vs : List Nat} {i : Nat} (h : i ∈ vs) (hn : NoSl G i := by first | exact noSl_none rfl | exact noSl_ne (by decide) | assumption) : SimGw G vs (gName i) (aName i) := fun S x v τ τ' σ Q e k rv rs h' q => by
  unfold aName at h'; cases h'
  exact q _ (RS.set rv i (by rw [e]; exact hn) rs) (wipe_set h)
theorem sim_wNil {vs : List Nat} : SimGsw G vs gNil aNil := fun S x v τ τ' σ Q e k rv rs h q => by
  unfold aNil at h
  split at h
  · cases h
    simp only [RvL] at rv
    exact ⟨rv, q _ rs rfl⟩
  · cases h
theorem sim_wCons {vs : List Nat} {g : TG} {u : TGs} {a : FG} {r : FGs} (hg : SimGw G vs g a) (hu : SimGsw G vs u r) : SimGsw G vs (gCons g u) (aCons a r) := fun S x v τ τ' σ Q e k rv rs h q => by
  unfold aCons at h
  split at h
  · obtain ⟨τ1, h1, h2⟩ := Option.bind_eq_some_iff.mp h
    simp only [RvL] at rv
    obtain ⟨w, m, rfl, r1, r2⟩ := rv
    exact ⟨w, m, rfl, hg S _ _ τ τ1 σ _ e k r1 rs h1 fun σ' rs' e1 => hu S _ _ τ1 τ' σ' Q e k r2 rs' h2 fun σ2 rs2 e2 => q σ2 rs2 (e2.trans e1)⟩
  · cases h
theorem sim_wTup {vs : List Nat} {n : Nat} {u : TGs} {r : FGs} (hu : SimGsw G vs u r) : SimGw G vs (gTup G.K n u) (aTup n r) := fun S x v τ τ' σ Q e k rv rs h q => by
  unfold aTup at h
  obtain ⟨l, hl, h⟩ := Option.bind_eq_some_iff.mp h
  split at h
  · rename_i hn
    obtain ⟨p, vs, rfl, hs, rl⟩ := tupOf_ok hl rv
    rw [e] at hs
    exact ⟨p, vs, rfl, hs, by rw [rl.len]; exact hn, hu S l vs τ τ' σ Q e k rl rs h q⟩
  · cases h
abbrev ET : L2.St → XK := fun _ _ _ _ => True
@[simp] def mYes : FT := fun _ h => .ok true h
theorem sim_yes : SimT G E tYes mYes := fun S σ τ Q e k rs p => p S rfl k (Step.refl S)
def mLcL (a : FG) (tt : FT) (fe : FE) (τ : LS) : Nat → List T → AH → Res (List T)
  | _, [], h => .ok [] h
  | n, x :: xs, h => match a x τ with
    | some τ' => (tt τ' h).bind fun b h1 => if b = true then
        (fe τ' h1).bind fun y h2 => if n < sizeLine then (mLcL a tt fe τ (n + 1) xs h2).bind fun ys h3 => .ok (y :: ys) h3 else .bad
      else mLcL a tt fe τ n xs h1
    | none => .bad
@[simp] def mLc (vs : List Nat) (fi : FA) (a : FG) (tt : FT) (fe : FE) : FE := fun τ h => (fi τ h).bind fun l h1 => (mLcL a tt fe (wipeT τ vs) 0 l h1).bind fun ys h2 => .ok (.lst ys) h2
@[simp] def mLcO (vs : List Nat) (fi : FA) (a : FG) (tt : FT) (fe : FE) : FE := fun τ h => (fi τ h).bind fun l h1 => (mLcL a tt fe (wipeT τ vs) 0 l h1).bind fun ys h2 => .ok (.obj h2.length) (h2 ++ [some (.lst ys)])
theorem RvL.snoc {l : List T} {vs : List V} {t : T} {v : V} (r : RvL S l vs) (a : Rv S t v) : RvL S (l ++ [t]) (vs ++ [v]) := r.app (RvL.cons a RvL.nil)
/-- what is to come, by the tracked heap alone -/
def Pnd {α : Type} (P : α → AH → Prop) : Res α → Prop
  | .bad => False
  | .ok a h => P a h
  | .exc _ _ => True
theorem Pnd.bind {α β : Type} {P : β → AH → Prop} {f : α → AH → Res β} : ∀ {x : Res α}, Pnd P (x.bind f) → Pnd (fun a h => Pnd P (f a h)) x
  | .bad, h => h
  | .ok _ _, h => h
  | .exc _ _, h => h
theorem Pnd.post {α : Type} {P : α → AH → Prop} : ∀ {r : Res α}, Pnd P r → PostG S (fun _ _ => True) (fun a S' => Ok S' ∧ Step S S' ∧ P a S'.h) r
  | .bad, h => h
  | .ok _ _, h => fun S' e k st => ⟨k, st, by rw [e]; exact h⟩
  | .exc _ _, _ => fun _ _ _ _ => trivial
theorem PostG.pnd {α β : Type} {X : Exc → Sta → Prop} {P : β → Sta → Prop} {f : α → AH → Res β} : ∀ {x : Res α}, PostG S X P (x.bind f) → Pnd (fun a h => PostG S (fun _ _ => True) P (f a h)) x
  | .bad, h => h
  | .ok _ _, h => PostG.exc (fun _ _ _ => trivial) h
  | .exc _ _, _ => trivial
theorem RS0.tr {S S' : Sta} (s : Tr S S') : ∀ {τ : LS} {σ : L2.St}, RS0 S τ σ → RS0 S' τ σ
  | [], _, h => h
  | _ :: _, _, ⟨v, r, e, h, q⟩ => ⟨v, r, e, fun t ht => let ⟨w, h1, h2⟩ := h t ht; ⟨w, h1, h2.tr s⟩, RS0.tr s q⟩
theorem RS.tr {S S' : Sta} (s : Tr S S') {τ : LS} {σ : L2.St} (h : RS S τ σ) : RS S' τ σ := ⟨h.r.tr s, h.x.tr s⟩
theorem lc_all {wi : TI} {fi : FA} {g : TG} {a : FG} {tt : TT} {ft : FT} {te : TE} {fe : FE} {vs : List Nat} (hi : SimI G E wi fi) (hg : SimGw G vs g a) (ht : SimT G ET tt ft) (he : SimE G ET te fe) (hv : ∀ v ∈ vs, NoSl G v)
    (S : Sta) (σ : L2.St) (τ : LS) (Q : VK) (e : S.G = G) (k : Ok S) (rs : RS S τ σ) (fin : List T → AH → Res T) (p : PostG S (XP (E σ)) (fun t S' => ∀ v, Rv S' t v → Q v S'.H) ((fi τ S.h).bind fun l h1 => (mLcL a ft fe (wipeT τ vs) 0 l h1).bind fin))
    (hfin : ∀ (S0 S : Sta) (ys : List T) (ws : List V) (D : Addr), S0.G = G → Ok S0 → Ok S → Priv S0 S D → S.H D = some (.lst ws) → RvL S ys ws → PostG S0 (fun _ _ => True) (fun t S' => ∀ v, Rv S' t v → Q v S'.H) (fin ys S.h) → Q (.ref D) S.H) : tLc wi g tt te vs σ S.H Q := by
  refine hi S σ τ _ e k rs (PostG.imp (fun l S1 q J hJ D hD => ?_) (PostG.bind p))
  obtain ⟨k1, s1, q⟩ := q
  have e1 := s1.G.trans e
  have rw1 := (rs.mono s1).wipe vs (by rw [s1.G, e]; exact hv)
  have q := PostG.pnd q
  refine ⟨fun i m H => ∃ S acc ws, S.H = H ∧ Ok S ∧ Priv S1 S D ∧ S.H D = some (.lst ws) ∧ RvL S acc ws ∧ m = l.length - i ∧ i ≤ l.length ∧
    Pnd (fun ys h => PostG S1 (fun _ _ => True) (fun t S' => ∀ v, Rv S' t v → Q v S'.H) (fin (acc ++ ys) h)) (mLcL a ft fe (wipeT τ vs) acc.length (l.drop i) S.h), ⟨l.length, S1.hide D (upd S1.H D (.lst [])), [], [], rfl, ok_hide k1 hD, Priv.start k1 hD, upd_same, RvL.nil, by simp, Nat.zero_le _, q⟩, ?_⟩
  rintro i m H ⟨S, acc, ws, rfl, k, x, hDS, rl, rfl, hi, p⟩
  have trS := x.tr
  obtain ⟨go, stop⟩ := hJ S trS k i
  have eS := trS.G.trans e1
  by_cases hl : i < l.length
  · right
    have hx : l[i]? = some l[i] := List.getElem?_eq_getElem hl
    obtain ⟨g1, g2⟩ := go _ hx
    refine ⟨g1, fun H' => ∃ S acc ws, S.H = H' ∧ Ok S ∧ Priv S1 S D ∧ S.H D = some (.lst ws) ∧ RvL S acc ws ∧
      Pnd (fun ys h => PostG S1 (fun _ _ => True) (fun t S' => ∀ v, Rv S' t v → Q v S'.H) (fin (acc ++ ys) h)) (mLcL a ft fe (wipeT τ vs) acc.length (l.drop (i + 1)) S.h), ?_, ?_⟩
    · rintro H' ⟨S2, acc2, ws2, e2, k2, x2, h2, r2, p2⟩
      exact ⟨l.length - (i + 1), by omega, S2, acc2, ws2, e2, k2, x2, h2, r2, rfl, hl, p2⟩
    · intro v H' hy
      obtain ⟨S2, rfl, hh, k2, st2, rv⟩ := g2 v H' hy
      have x2 := x.step k1 k k2 st2
      have hD2 : S2.H D = some (.lst ws) := (st2.pk D (by rw [x.pv]; exact List.mem_cons_self)).trans hDS
      rw [List.drop_eq_getElem_cons hl] at p
      unfold mLcL at p
      split at p
      · rename_i τ' hτ
        refine hg S2 _ v _ τ' (wipe σ vs) _ (st2.G.trans eS) k2 rv (RS.tr (x2.tr) rw1) hτ fun σ2 rs2 ew => ⟨by rw [ew, wipe_wipe], ?_⟩
        rw [← hh] at p
        refine ht S2 σ2 τ' _ (st2.G.trans eS) k2 rs2 (PostG.exc (fun _ _ _ _ _ _ => trivial) (PostG.imp (fun b S3 q => ?_) (Pnd.post (Pnd.bind p))))
        obtain ⟨k3, s3, q⟩ := q
        have x3 := x2.step k1 k2 k3 s3
        have hp3 : D ∈ S2.pv := by rw [x2.pv]; exact List.mem_cons_self
        have hD3 : S3.H D = some (.lst ws) := (s3.pk D hp3).trans hD2
        cases b with
        | false =>
          rw [if_neg Bool.false_ne_true] at q
          rw [if_neg Bool.false_ne_true]
          exact ⟨S3, acc, ws, rfl, k3, x3, hD3, rl.mono (st2.trans s3), q⟩
        | true =>
          rw [if_pos rfl] at q
          rw [if_pos rfl]
          have e3 := s3.G.trans (st2.G.trans eS)
          refine he S3 σ2 τ' _ e3 k3 (rs2.mono s3) (PostG.exc (fun _ _ _ _ _ _ => trivial) (PostG.imp (fun y S4 q w rw' => ?_) (Pnd.post (Pnd.bind q))))
          obtain ⟨k4, s4, q⟩ := q
          have x4 := x3.step k1 k3 k4 s4
          have hp4 : D ∈ S4.pv := by rw [x4.pv]; exact List.mem_cons_self
          have hD4 : S4.H D = some (.lst ws) := (s4.pk D (by rw [x3.pv]; exact List.mem_cons_self)).trans hD3
          have rl4 := rl.mono ((st2.trans s3).trans s4)
          split at q
          · rename_i hz
            refine ⟨ws, hD4, by rw [rl.len]; exact hz, S4.fill (upd S4.H D (.lst (ws ++ [w]))), acc ++ [y], ws ++ [w], rfl, ok_fill k4 hp4, x4.fill k1, upd_same, (rl4.snoc rw').tr (tr_fill hp4), ?_⟩
            rw [List.length_append]
            have q := Pnd.bind q
            show Pnd _ (mLcL a ft fe (wipeT τ vs) (acc.length + 1) (l.drop (i + 1)) S4.h)
            cases hr : mLcL a ft fe (wipeT τ vs) (acc.length + 1) (l.drop (i + 1)) S4.h with
            | bad => rw [hr] at q; exact q.elim
            | exc e h' => exact trivial
            | ok ys h' =>
              rw [hr] at q
              show PostG _ _ _ (fin ((acc ++ [y]) ++ ys) h')
              rw [List.append_assoc]
              exact q
          · exact q.elim
      · exact p.elim
  · left
    refine ⟨stop (by omega), ?_⟩
    rw [List.drop_eq_nil_of_le (by omega)] at p
    have p : PostG _ _ _ (fin (acc ++ []) S.h) := p
    rw [List.append_nil] at p
    exact hfin S1 S acc ws D e1 k1 k x hDS rl p
theorem sim_lc {wi : TI} {fi : FA} {g : TG} {a : FG} {tt : TT} {ft : FT} {te : TE} {fe : FE} {vs : List Nat} (hi : SimI G E wi fi) (hg : SimGw G vs g a) (ht : SimT G ET tt ft) (he : SimE G ET te fe) (hv : ∀ v ∈ vs, NoSl G v := by first | exact fun _ _ => noSl_none rfl | exact fun v hv => noSl_ne (by revert v; decide) | assumption) : SimE G E (tLc wi g tt te vs) (mLc vs fi a ft fe) := fun S σ τ Q e k rs p => by
  refine lc_all hi hg ht he hv S σ τ Q e k rs _ p fun S0 S ys ws D _ k0 k x hD r q => ?_
  have e := x.pv
  exact q (S.show S0.pv) rfl (ok_show k e) x.st _ (rv_lst ⟨hD, x.nown k0 k⟩ (r.tr (tr_show e)))
theorem sim_lcO {wi : TI} {fi : FA} {g : TG} {a : FG} {tt : TT} {ft : FT} {te : TE} {fe : FE} {vs : List Nat} (hi : SimI G E wi fi) (hg : SimGw G vs g a) (ht : SimT G ET tt ft) (he : SimE G ET te fe) (hv : ∀ v ∈ vs, NoSl G v := by first | exact fun _ _ => noSl_none rfl | exact fun v hv => noSl_ne (by revert v; decide) | assumption) : SimE G E (tLc wi g tt te vs) (mLcO vs fi a ft fe) := fun S σ τ Q e k rs p => by
  refine lc_all hi hg ht he hv S σ τ Q e k rs _ p fun S0 S ys ws D _ k0 k x hD r q => ?_
  obtain ⟨k', st⟩ := x.adopt k0 k hD (RO.mk_lst r)
  exact q (S.adopt S0.pv D _) rfl k' st _ (by simp only [Rv]; exact ⟨D, by simp [Sta.adopt, k.len], rfl⟩)
/-! letting go: what is tracked becomes a tree -/
def frzL (f : AH → T → T × AH) : AH → List T → List T × AH
  | h, [] => ([], h)
  | h, t :: ts => ((f h t).1 :: (frzL f (f h t).2 ts).1, (frzL f (f h t).2 ts).2)
def frz : Nat → AH → T → T × AH
  | 0, h, t => (t, h)
  | n + 1, h, t => match t with
    | .obj i => match h[i]? with
      | some (some (.lst l)) => (.lst (frzL (frz n) h l).1, (frzL (frz n) h l).2.set i none)
      | some (some (.ins c m)) => (.inst c (m.map (·.1)) (frzL (frz n) h (m.map (·.2))).1, (frzL (frz n) h (m.map (·.2))).2.set i none)
      | some (some (.dct m)) => (.dct (m.map (·.1)) (frzL (frz n) h (m.map (·.2))).1, (frzL (frz n) h (m.map (·.2))).2.set i none)
      | some (some (.dctT m)) => (.dctT (m.map (·.1)) (frzL (frz n) h (m.map (·.2))).1, (frzL (frz n) h (m.map (·.2))).2.set i none)
      | _ => (t, h)
    | _ => (t, h)
def Sta.wh (S : Sta) (h : AH) : Sta := ⟨S.G, S.al, h, S.H, S.pv⟩
structure Sub (h' h : AH) : Prop where
  len : h'.length = h.length
  sub : ∀ (j : Nat) (o : O), h'[j]? = some (some o) → h[j]? = some (some o)
theorem Sub.refl (h : AH) : Sub h h := ⟨rfl, fun _ _ e => e⟩
theorem Sub.trans {a b c : AH} (x : Sub a b) (y : Sub b c) : Sub a c := ⟨x.len.trans y.len, fun j o e => y.sub j o (x.sub j o e)⟩
theorem Sub.gone {h : AH} (i : Nat) : Sub (h.set i none) h := ⟨List.length_set, fun j o e => by
  by_cases z : i = j
  · subst z; rw [List.getElem?_set] at e; simp at e
  · rw [List.getElem?_set_ne z] at e; exact e⟩
theorem wh_trk {h' : AH} (s : Sub h' S.h) {b : Addr} (z : Trk (S.wh h') b) : Trk S b := by
  obtain ⟨j, o, h1, h2⟩ := z
  exact ⟨j, o, h1, s.sub j o h2⟩
theorem wh_step {h' : AH} (s : Sub h' S.h) : Step S (S.wh h') := ⟨rfl, List.prefix_rfl, fun _ _ h _ => h, fun b z => .inl (z.imp (wh_trk s) id), rfl, fun _ _ => rfl⟩
theorem wh_ok {h' : AH} (k : Ok S) (s : Sub h' S.h) : Ok (S.wh h') := ⟨k.len.trans s.len.symm, fun i o p h1 h2 => by
    obtain ⟨u, hu, r⟩ := k.rel i o p (s.sub i o h1) h2
    exact ⟨u, hu, r.mono (wh_step s)⟩, fun i j o o' p h1 h2 => k.inj i j o o' p (s.sub i o h1) (s.sub j o' h2), fun q hq => ⟨(k.priv q hq).1, fun z => (k.priv q hq).2 (wh_trk s z)⟩⟩
theorem RvK.unzip {κ : Type} : ∀ {m : List (κ × T)} {ws : List (κ × V)}, RvK S m ws → ∃ vs, ws = (m.map (·.1)).zip vs ∧ RvL S (m.map (·.2)) vs
  | [], ws, r => ⟨[], by rw [show ws = [] from r]; rfl, RvL.nil⟩
  | (k, t) :: m, ws, r => by
    obtain ⟨v, m', rfl, h1, h2⟩ := r
    obtain ⟨vs, rfl, h3⟩ := RvK.unzip h2
    exact ⟨v :: vs, rfl, RvL.cons h1 h3⟩
def FrzOk (f : AH → T → T × AH) : Prop := ∀ (S : Sta) (t : T) (v : V), Ok S → Rv S t v → Sub (f S.h t).2 S.h ∧ Rv (S.wh (f S.h t).2) (f S.h t).1 v
theorem frzL_ok {f : AH → T → T × AH} (hf : FrzOk f) : ∀ (l : List T) (S : Sta) (vs : List V), Ok S → RvL S l vs → Sub (frzL f S.h l).2 S.h ∧ RvL (S.wh (frzL f S.h l).2) (frzL f S.h l).1 vs
  | [], S, vs, k, r => ⟨Sub.refl _, r⟩
  | t :: ts, S, vs, k, r => by
    simp only [RvL] at r
    obtain ⟨v, q, rfl, r1, r2⟩ := r
    obtain ⟨s1, h1⟩ := hf S t v k r1
    have k1 := wh_ok k s1
    obtain ⟨s2, h2⟩ := frzL_ok hf ts (S.wh (f S.h t).2) q k1 (r2.mono (wh_step s1))
    exact ⟨s2.trans s1, RvL.cons (h1.mono (wh_step (S := S.wh (f S.h t).2) s2)) h2⟩
theorem gone_fz {i : Nat} {o : O} {p : Addr} {u : HO} {h' : AH} (k : Ok S) (h : S.h[i]? = some (some o)) (hp : S.al[i]? = some p) (hu : S.H p = some u) (s : Sub h' S.h) : Fz (S.wh (h'.set i none)) p u := by
  refine ⟨hu, fun z => ?_⟩
  rcases z with z | z
  · obtain ⟨j, o', h1, h2⟩ := z
    have h2 : (h'.set i none)[j]? = some (some o') := h2
    by_cases e : i = j
    · subst e; rw [List.getElem?_set] at h2; simp at h2
    · rw [List.getElem?_set_ne e] at h2
      exact e (k.inj i j o o' p h (s.sub j o' h2) hp h1)
  · exact (k.priv p z).2 ⟨i, o, hp, h⟩
theorem frz_ok : ∀ n, FrzOk (frz n)
  | 0 => fun S t v k r => ⟨Sub.refl _, r⟩
  | n + 1 => fun S t v k r => by
    have ih := frz_ok n
    unfold frz
    split
    · rename_i i
      split
      · rename_i l hl
        obtain ⟨p, vs, rfl, hp, hu, rl⟩ := obj_lst k hl r
        obtain ⟨s1, h1⟩ := frzL_ok ih l S vs k rl
        refine ⟨(Sub.gone i).trans s1, rv_lst (gone_fz k hl hp hu s1) ?_⟩
        exact h1.mono (wh_step (S := S.wh _) (Sub.gone i))
      · rename_i c m hl
        obtain ⟨p, ho, rfl, hp, hu, dx, ws, rfl, rk⟩ := obj_at k hl r
        obtain ⟨vs, rfl, rl⟩ := rk.unzip
        obtain ⟨s1, h1⟩ := frzL_ok ih _ S vs k rl
        refine ⟨(Sub.gone i).trans s1, ?_⟩
        simp only [Rv]
        exact ⟨p, dx, vs, rfl, gone_fz k hl hp hu s1, by rw [← h1.len, rl.len, List.length_map, List.length_map], h1.mono (wh_step (S := S.wh _) (Sub.gone i))⟩
      · rename_i m hl
        obtain ⟨p, ho, rfl, hp, hu, ws, rfl, rk⟩ := obj_at k hl r
        obtain ⟨vs, rfl, rl⟩ := rk.unzip
        obtain ⟨s1, h1⟩ := frzL_ok ih _ S vs k rl
        refine ⟨(Sub.gone i).trans s1, ?_⟩
        simp only [Rv]
        exact ⟨p, vs, rfl, .inl (gone_fz k hl hp hu s1), by rw [← h1.len, rl.len, List.length_map, List.length_map], h1.mono (wh_step (S := S.wh _) (Sub.gone i))⟩
      · rename_i m hl
        obtain ⟨p, ho, rfl, hp, hu, ws, rfl, rk⟩ := obj_at k hl r
        obtain ⟨vs, rfl, rl⟩ := rk.unzip
        obtain ⟨s1, h1⟩ := frzL_ok ih _ S vs k rl
        refine ⟨(Sub.gone i).trans s1, ?_⟩
        simp only [Rv]
        exact ⟨p, vs, rfl, gone_fz k hl hp hu s1, by rw [← h1.len, rl.len, List.length_map, List.length_map], h1.mono (wh_step (S := S.wh _) (Sub.gone i))⟩
      · exact ⟨Sub.refl _, r⟩
    · exact ⟨Sub.refl _, r⟩
theorem RS0.setT {t : T} {w : V} (a : Rv S t w) : ∀ {τ : LS} {σ : L2.St} {i : Nat}, RS0 S τ σ → σ[i]? = some (some w) → RS0 S (τ.set i (some t)) σ
  | [], _, _, h, _ => by rw [show _ = [] from h]; rfl
  | _ :: _, _, 0, ⟨v, r, e1, h, q⟩, e => ⟨v, r, e1, fun t' ht => ⟨w, by subst e1; simpa using e, by cases ht; exact a⟩, q⟩
  | _ :: _, _, i + 1, ⟨v, r, e1, h, q⟩, e => ⟨v, r, e1, h, RS0.setT a q (by subst e1; simpa using e)⟩
theorem RS.setT {t : T} {w : V} (a : Rv S t w) {τ : LS} {σ : L2.St} {i : Nat} (h : RS S τ σ) (e : σ[i]? = some (some w)) : RS S (τ.set i (some t)) σ := ⟨RS0.setT a h.r e, h.x⟩
/-- slot i's object changes no more: from here on a tree (nothing that Python does) -/
@[simp] def sFrz (i : Nat) (g : FS) : FS := fun τ h => match τ[i]? with
  | some (some (.obj j)) => g (τ.set i (some (frz 8 h (.obj j)).1)) (frz 8 h (.obj j)).2
  | _ => g τ h
theorem sim_frz {i : Nat} {t : TS} {g : FS} (hg : SimS G W t g) : SimS G W t (sFrz i g) := fun S σ τ D e k rs p => by
  unfold sFrz at p
  split at p
  · rename_i j ht
    obtain ⟨w, h1, h2⟩ := rs.get ht
    obtain ⟨s1, r1⟩ := frz_ok 8 S (.obj j) w k h2
    exact hg (S.wh (frz 8 S.h (.obj j)).2) σ _ D e (wh_ok k s1) ((rs.mono (wh_step s1)).setT r1 h1) (PostG.mono (wh_step s1) p)
  · exact hg S σ τ D e k rs p
/-! instances -/
@[simp] def insOf (c : Str) : T → AH → Option (List (Str × T))
  | .obj i, h => match h[i]? with | some (some (.ins c' m)) => if c' = c then some m else none | _ => none
  | .inst c' ns l, _ => if c' = c then some (ns.zip l) else none
  | _, _ => none
theorem insOf_ok {c : Str} {x : T} {u : V} {m : List (Str × T)} (k : Ok S) (r : Rv S x u) (h : insOf c x S.h = some m) : ∃ a dx vs, u = .ref a ∧ S.H a = some (.ins (S.G.ca c) dx vs) ∧ RvK S m vs := by
  unfold insOf at h
  split at h
  · split at h
    · rename_i c' m' hm
      split at h
      · rename_i e
        subst e
        cases h
        obtain ⟨p, ho, rfl, _, hp, dx, vs, rfl, rk⟩ := obj_at k hm r
        exact ⟨p, dx, vs, rfl, hp, rk⟩
      · cases h
    · cases h
  · split at h
    · rename_i e
      subst e
      cases h
      simp only [Rv] at r
      obtain ⟨p, dx, vs, rfl, f, n, rl⟩ := r
      exact ⟨p, dx, _, rfl, f.1, RvK.zip n rl⟩
    · cases h
  · cases h
theorem RvK.look {f : Str} : ∀ {m : List (Str × T)} {vs : List (Str × V)}, RvK S m vs → OptRv S (m.lookup f) (vs.lookup f)
  | [], vs, r => by rw [show vs = [] from r]; exact trivial
  | (k, t) :: m, vs, r => by
    obtain ⟨v, m', rfl, h1, h2⟩ := r
    rw [List.lookup_cons, List.lookup_cons]
    cases f == k with
    | true => exact h1
    | false => exact RvK.look h2
@[simp] def putFT (f : Str) (v : T) : List (Str × T) → List (Str × T)
  | [] => [(f, v)]
  | (g, x) :: r => if g = f then (g, v) :: r else (g, x) :: putFT f v r
theorem RvK.putF {f : Str} {t : T} {v : V} (rv : Rv S t v) : ∀ {m : List (Str × T)} {vs : List (Str × V)}, RvK S m vs → RvK S (putFT f t m) (putF f v vs)
  | [], vs, r => by rw [show vs = [] from r]; exact ⟨v, [], rfl, rv, rfl⟩
  | (k, t') :: m, vs, r => by
    obtain ⟨v', m', rfl, h1, h2⟩ := r
    show RvK S (if k = f then _ else _) (if k = f then _ else _)
    split
    · exact ⟨v, _, rfl, rv, h2⟩
    · exact ⟨v', _, rfl, h1, RvK.putF rv h2⟩
section
variable {ta tv : TE} {fa fv : FE} {c f : Str}
@[simp] def mFld (c f : Str) (fa : FE) : FE := fun τ h => (fa τ h).bind fun x h1 => match (insOf c x h1).bind fun m => m.lookup f with | some t => .ok t h1 | none => .bad
theorem sim_fld (hC : Cls G.K (G.ca c)) (hn : NoAttr G.K (G.ca c) f) (ha : SimE G E ta fa) : SimE G E (tFld G.K ta f) (mFld c f fa) := fun S σ τ Q e k rs p => by
  refine ha S σ τ _ e k rs (PostG.imp (fun x S1 q u ru => ?_) (PostG.bind p))
  obtain ⟨k1, s1, q⟩ := q
  split at q
  · rename_i t ht
    obtain ⟨m, hm, hl⟩ := Option.bind_eq_some_iff.mp ht
    obtain ⟨a, dx, vs, rfl, hH, rk⟩ := insOf_ok k1 ru hm
    have := rk.look (f := f)
    rw [hl] at this
    rw [s1.G.trans e] at hH
    cases hv : vs.lookup f with
    | none => rw [hv] at this; exact this.elim
    | some w => rw [hv] at this; exact ⟨a, _, dx, vs, w, rfl, hH, hC, hn, hv, q S1 rfl k1 (Step.refl S1) w this⟩
  · exact q.elim
/-- o.f = e -/
@[simp] def sFldM (c f : Str) (fo fv : FE) : FS := fun τ h => liftE (fv τ h) τ fun t h1 => liftE (fo τ h1) τ fun x h2 => match x with
  | .obj i => match h2[i]? with
    | some (some (.ins c' m)) => if c' = c ∧ m.length < 1000 then .ok (.nx τ) (h2.set i (some (.ins c' (putFT f t m)))) else .bad
    | _ => .bad
  | _ => .bad
theorem sim_sfld (hC : Cls G.K (G.ca c)) (hn : NoAttr G.K (G.ca c) f) (ha : SimE G (WE W) ta fa) (hv : SimE G (WE W) tv fv) : SimS G W (sFld G.K ta tv f) (sFldM c f fa fv) := fun S σ τ D e k rs p => by
  refine hv S σ τ _ e k rs (PostG.imp (fun t S1 q w rt => ?_) (PG.lift rs p))
  obtain ⟨k1, s1, q1⟩ := q
  refine ha S1 σ τ _ (s1.G.trans e) k1 (rs.mono s1) (PostG.imp (fun x S2 q2 u ru => ?_) (PG.lift (rs.mono s1) q1))
  obtain ⟨k2, s2, q3⟩ := q2
  have e2 := s2.G.trans (s1.G.trans e)
  split at q3
  · split at q3
    · rename_i c' m hm
      split at q3
      · rename_i hz
        obtain ⟨rfl, hz⟩ := hz
        obtain ⟨a, ho, rfl, hp, ha, dx, vs, rfl, rk⟩ := obj_at k2 hm ru
        have st := step_put (o' := .ins c' (putFT f t m)) (u := .ins (S2.G.ca c') dx (putF f w vs)) k2 hm hp
        refine ⟨a, G.ca c', dx, vs, rfl, by rw [ha, e2], hC, hn, by rw [rk.len]; exact hz, ?_⟩
        have q4 := q3 (S2.put _ _ _) rfl (ok_put k2 hm hp ⟨dx, _, rfl, rk.putF (rt.mono s2)⟩) st σ (rs.mono ((s1.trans s2).trans st))
        rw [← e2]
        exact q4
      · exact q3.elim
    · exact q3.elim
  · exact q3.elim
/-- o.m(..) -/
@[simp] def mMeth (c m : Str) (n : Nat) (mir : List T → AH → Res T) (fo : FE) (fr : FA) : FE := fun τ h => (fo τ h).bind fun x h1 => match (insOf c x h1).map fun mm => mm.lookup m with
  | some none => (fr τ h1).bind fun xs h2 => if xs.length + 1 = n then mir (x :: xs) h2 else .bad
  | _ => .bad
theorem sim_meth {C : Addr} {m : Str} {n : Nat} {mir : List T → AH → Res T} {tr : TA} {fr : FA} (hc : G.ca c = C) (ha : SimE G E ta fa) (hr : SimA G E tr fr) : SimE G E (tMeth C m (spM G n mir) [] (fun _ _ _ => True) ta tr) (mMeth c m n mir fa fr) := fun S σ τ Q e k rs p => by
  subst hc
  refine ha S σ τ _ e k rs (PostG.imp (fun x S1 q u ru => ?_) (PostG.bind p))
  obtain ⟨k1, s1, q⟩ := q
  split at q
  · rename_i ht
    obtain ⟨mm, hm, hl⟩ := Option.map_eq_some_iff.mp ht
    obtain ⟨a, dx, vs, rfl, hH, rk⟩ := insOf_ok k1 ru hm
    have := rk.look (f := m)
    rw [hl] at this
    have e1 := s1.G.trans e
    rw [e1] at hH
    refine ⟨a, dx, vs, rfl, hH, ?_, ?_⟩
    · cases hv : vs.lookup m with
      | none => rfl
      | some w => rw [hv] at this; exact this.elim
    · refine hr S1 σ τ _ e1 k1 (rs.mono s1) (PostG.imp (fun xs S2 q us rus => ?_) (PostG.bind q))
      obtain ⟨k2, s2, q⟩ := q
      split at q
      · rename_i hn
        rw [List.append_nil]
        exact ⟨S2, x :: xs, s2.G.trans e1, k2, rfl, RvL.cons (ru.mono s2) rus, by simpa using hn, PostG.exc (fun _ _ _ _ _ _ => trivial) q⟩
      · exact q.elim
  · exact q.elim
/-- C(..): a new instance, tracked while its __init__ runs; fz: and then let go -/
@[simp] def mMake (c : Str) (n : Nat) (mir : List T → AH → Res T) (fz : Bool) (fr : FA) : FE := fun τ h => (fr τ h).bind fun xs h1 => if xs.length + 1 = n then
    (mir (.obj h1.length :: xs) (h1 ++ [some (.ins c [])])).bind fun r h2 => match r with
      | .non => if fz = true then .ok (frz 8 h2 (.obj h1.length)).1 (frz 8 h2 (.obj h1.length)).2 else .ok (.obj h1.length) h2
      | _ => .bad
  else .bad
theorem make_core {n : Nat} {mir : List T → AH → Res T} {fz : Bool} {xs : List T} {us : List V} {Q : VK} {X : Exc → Sta → Prop} {E' : XK} (e : S.G = G) (k : Ok S) (rus : RvL S xs us) (hn : xs.length + 1 = n) (hX : ∀ e S', X e S' → XP E' e S')
    (q : PostG S X (fun t S' => ∀ v, Rv S' t v → Q v S'.H) ((mir (.obj S.h.length :: xs) (S.h ++ [some (.ins c [])])).bind fun r h2 => match r with
      | .non => if fz = true then .ok (frz 8 h2 (.obj S.h.length)).1 (frz 8 h2 (.obj S.h.length)).2 else .ok (.obj S.h.length) h2
      | _ => .bad)) : ∀ x dx, S.H x = none → S.H dx = none → dx ≠ x → spM G n mir (.ref x :: us) (upd (upd S.H dx (.own x)) x (.ins (G.ca c) dx [])) (fun v H2 => v = .non ∧ Q (.ref x) H2) E' := by
  intro x dx nx ndx ne
  have g : Grow S.H (upd (upd S.H dx (.own x)) x (.ins (G.ca c) dx [])) := by
    refine (Grow.upd (u := .own x) ndx).trans (Grow.upd ?_)
    rw [upd_ne (Ne.symm ne)]; exact nx
  have st := step_push (o := .ins c []) k nx g
  have kp := ok_push (o := .ins c []) (u := .ins (G.ca c) dx []) k nx g upd_same ⟨dx, [], by show _ = HO.ins (S.G.ca c) dx []; rw [e], rfl⟩
  have rx : Rv (S.push x (.ins c []) (upd (upd S.H dx (.own x)) x (.ins (G.ca c) dx []))) (.obj S.h.length) (.ref x) := by
    simp only [Rv]
    exact ⟨x, by simp [Sta.push, k.len], rfl⟩
  refine ⟨_, .obj S.h.length :: xs, st.G.trans e, kp, rfl, RvL.cons rx (rus.mono st), by simpa using hn, ?_⟩
  refine PostG.exc hX (PostG.imp (fun r S2 q v rv => ?_) (PostG.bind (PostG.mono st q)))
  obtain ⟨k2, s2, q⟩ := q
  split at q
  · simp only [Rv] at rv
    refine ⟨rv, ?_⟩
    have r2 := rx.mono s2
    split at q
    · obtain ⟨s3, r3⟩ := frz_ok 8 S2 _ _ k2 r2
      exact q (S2.wh _) rfl (wh_ok k2 s3) (wh_step s3) _ r3
    · exact q S2 rfl k2 (Step.refl S2) _ r2
  · exact q.elim
theorem sim_make {C : Addr} {n : Nat} {mir : List T → AH → Res T} {fz : Bool} {tr : TA} {fr : FA} (hc : G.ca c = C) (hr : SimA G E tr fr) : SimE G E (tMake C (spM G n mir) [] (fun _ _ _ => True) tr) (mMake c n mir fz fr) := fun S σ τ Q e k rs p => by
  subst hc
  refine hr S σ τ _ e k rs (PostG.imp (fun xs S1 q us rus => ?_) (PostG.bind p))
  obtain ⟨k1, s1, q⟩ := q
  split at q
  · rename_i hn
    rw [List.append_nil]
    exact make_core (s1.G.trans e) k1 rus hn (fun _ _ _ _ _ _ => trivial) q
  · exact q.elim
end
/-! isinstance of a built-in type -/
theorem tyOf_ok {x : T} {u : V} {n : String} (k : Ok S) (r : Rv S x u) (h : tyOf x S.h = some n) : TyX S.G.K S.H u (.type n) := by
  unfold tyOf at h
  split at h
  · cases h; simp only [Rv] at r; subst r; exact .base .non
  · cases h; simp only [Rv] at r; subst r; exact .base (.bl _)
  · cases h; simp only [Rv] at r; subst r; exact .base (.int _)
  · cases h; simp only [Rv] at r; subst r; exact .base (.str _)
  · cases h; simp only [Rv] at r; obtain ⟨p, vs, rfl, f, _⟩ := r; exact .base (.tup f.1)
  · cases h; simp only [Rv] at r; obtain ⟨p, vs, rfl, ⟨o, its, n, h1, h2, _⟩, _⟩ := r; exact .kTuple h1 h2
  · cases h; simp only [Rv] at r; obtain ⟨p, vs, rfl, f, _⟩ := r; exact .base (.lst f.1)
  · split at h
    · rename_i l hl
      cases h
      obtain ⟨p, vs, rfl, _, hp, _⟩ := obj_lst k hl r
      exact .base (.lst hp)
    · rename_i m hm
      cases h
      obtain ⟨p, ho, rfl, _, hp, vs, rfl, _⟩ := obj_at k hm r
      exact .base (.dK hp)
    · cases h
  · cases h; simp only [Rv] at r; obtain ⟨p, vs, rfl, f, _⟩ := r; rcases f with f | ⟨od, f⟩; exact .base (.dK f.1); exact .fDict f.1
  · cases h
@[simp] def mIsi (n : String) (fa : FE) : FE := fun τ h => (fa τ h).bind fun x h1 => match (tyOf x h1).bind fun a => kitB a n with | some b => .ok (.bl b) h1 | none => .bad
theorem sim_isi {n : String} {ta : TE} {fa : FE} (ha : SimE G E ta fa) : SimE G E (tCB (rIsi G.K) (tCons ta (tCons (tC (.ty n)) tNil))) (mIsi n fa) := fun S σ τ Q e k rs p => by
  refine ha S σ τ _ e k rs (PostG.imp (fun x S1 q u ru => ?_) (PostG.bind p))
  obtain ⟨k1, s1, q⟩ := q
  split at q
  · rename_i b hb
    obtain ⟨a, h1, h2⟩ := Option.bind_eq_some_iff.mp hb
    have ty := tyOf_ok k1 ru h1
    rw [s1.G.trans e] at ty
    exact ⟨u, .ty n, _, _, b, rfl, .ty n, ty, kit_ty h2, q S1 rfl k1 (Step.refl S1) _ (by simp only [Rv])⟩
  · exact q.elim
end M
/-! ### the layer's rules with the written part named, zip, enumerate, cleaning -/
namespace M
open PySem PySem.Spec PyProof.Rows L2
variable {G : Env} {E : L2.St → XK} {S : Sta} {W : WX}
theorem ix_kd {X : Cx} {d : Addr} {es : Array DictEntry} {n : Nat} (D : KDict X.K X.w d es n) : IxR X (fun x y H Q => ∃ (z : Str) (u0 : Value) (v0 : V), x = .ref d ∧ y = .str z ∧ PySem.W.nsIn X.K d z = some (some u0) ∧ RelV v0 u0 ∧ Q v0 H) := by
  intro value slice pins s σ H x y v u Q I rx ry h hs
  obtain ⟨z, u0, v0, rfl, rfl, e, r, q⟩ := h
  cases rx
  obtain ⟨t, rfl⟩ := ry
  exact tail_any (kd_type D I) PySem.F.slot_dict_getitem.lookup (wpAny_getItem_of (PySem.strKind_is X.prog X.w z t) (PySem.W.mapOf_K (prog := X.prog) I.kIn D.at_ D.lit) (PySem.W.find_K D.at_ e) ⟨v0, H, I.tok _, r, q⟩) hs
section
variable {X : Cx} {K : PySem.W.Frag}
theorem x_ix (h : X.K = K) : IxR X (rIx K) := h ▸ ix_seq
theorem x_slL (h : X.K = K) : SlR X (rSlL K) := h ▸ sl_list
theorem x_slT (h : X.K = K) : SlR X (rSlA K) := h ▸ sl_tupA
theorem x_in (h : X.K = K) : OpR X (compareOp .In) (rIn K false) := h ▸ op_in_seq
theorem x_nin (h : X.K = K) : OpR X (compareOp .NotIn) (rIn K true) := h ▸ op_notIn_seq
theorem x_eq (h : X.K = K) (hu : X.A.units + 64 < cLine) : OpR X (compareOp .Eq) (fun x y H Q => rEq x y H Q ∨ rEqD K x y H Q) := h ▸ OpR.or op_eq (op_eqD hu)
theorem x_ne (h : X.K = K) (hu : X.A.units + 64 < cLine) : OpR X (compareOp .NotEq) (fun x y H Q => rNe x y H Q ∨ rNeD K x y H Q) := h ▸ OpR.or op_ne (op_neD hu)
theorem x_len (h : X.K = K) : CallR X (.builtin "len") (fun xs H Q => ∃ p ys, xs = [.ref p] ∧ (SqL K H p ys ∨ SqT K H p ys) ∧ Q (.int ys.length) H) := h ▸ call_len_seq
theorem x_list (h : X.K = K) : CallR X (.type "list") (fun xs H Q => ∃ p ys, xs = [.ref p] ∧ (SqL K H p ys ∨ SqT K H p ys) ∧ ∀ l, H l = none → Q (.ref l) (upd H l (.lst ys))) := h ▸ call_list_of
theorem x_tuple (h : X.K = K) : CallR X (.type "tuple") (fun xs H Q => ∃ p ys, xs = [.ref p] ∧ ((SqL K H p ys ∧ ∀ l, H l = none → Q (.ref l) (upd H l (.tup ys))) ∨ (SqT K H p ys ∧ Q (.ref p) H))) := h ▸ call_tuple_of
theorem x_isi (h : X.K = K) : CallR X (.builtin "isinstance") (rIsi K) := h ▸ call_isi
theorem x_any (h : X.K = K) (hc : X.calm = true) : CallR X (.builtin "any") (rAny K) := h ▸ cr_any hc
theorem x_all (h : X.K = K) (hc : X.calm = true) : CallR X (.builtin "all") (rAll K) := h ▸ cr_all hc
theorem x_sum (h : X.K = K) (hc : X.calm = true) : CallR X (.builtin "sum") (rSum K) := h ▸ cr_sum hc
theorem x_catT (h : X.K = K) : OpR X (binaryOp .Add) (rCatT K) := h ▸ op_catT
theorem x_fld (h : X.K = K) {e : Expr} {f : Str} {ta : TE} {pos : Pos} (he : PE X e ta) (hb : attributeBase e f X.env (eval e X.env) = eval e X.env) : PE X (.Attribute e f pos) (tFld K ta f) := h ▸ pe_fld he hb
theorem x_kd {w : World} {d : Addr} {es : Array DictEntry} {n : Nat} (h : X.K = K) (hw : X.w = w) (D : KDict K w d es n) : IxR X (fun x y H Q => ∃ (z : Str) (u0 : Value) (v0 : V), x = .ref d ∧ y = .str z ∧ PySem.W.nsIn K d z = some (some u0) ∧ RelV v0 u0 ∧ Q v0 H) := by
  subst h; subst hw; exact ix_kd D
theorem x_kin {w : World} {d : Addr} {es : Array DictEntry} {n : Nat} (h : X.K = K) (hw : X.w = w) (D : KDict K w d es n) : OpR X (compareOp .In) (fun x y H Q => ∃ (z : Str) (r : Option Value), x = .str z ∧ y = .ref d ∧ PySem.W.nsIn K d z = some r ∧ Q (.bl r.isSome) H) := by
  subst h; subst hw; exact op_in_kd D
theorem x_knin {w : World} {d : Addr} {es : Array DictEntry} {n : Nat} (h : X.K = K) (hw : X.w = w) (D : KDict K w d es n) : OpR X (compareOp .NotIn) (fun x y H Q => ∃ (z : Str) (r : Option Value), x = .str z ∧ y = .ref d ∧ PySem.W.nsIn K d z = some r ∧ Q (.bl (!r.isSome)) H) := by
  subst h; subst hw; exact op_notIn_kd D
theorem x_tru (h : X.K = K) {a : Expr} {ta : TE} (ha : PE X a ta) (he : ∀ whole, isTrue a X.env whole = (do let v ← whole; standAt a.pos; holding [v] (truthy v))) : PT X a (fun σ H Q => ta σ H fun x H' => ∃ k, TruV K x H' k ∧ Q k H') := h ▸ pt_truth ha he
theorem x_pil (h : X.K = K) {tg l : Expr} {tl : TE} (hl : PE X l tl) : PI X tg l (iList K tl) := h ▸ pi_list hl
theorem x_pit (h : X.K = K) {tg l : Expr} {tl : TE} (hl : PE X l tl) : PI X tg l (iTup K tl) := h ▸ pi_tup hl
end
/-! tuple + tuple, any, all, sum -/
theorem so_catT : SimR2 G (rCatT G.K) oCatT := fun S x y u v X Q e k ru rv p => by
  rw [← e]
  unfold oCatT P2 pur at p
  split at p
  · rename_i t ht
    obtain ⟨l, hl, ht⟩ := Option.bind_eq_some_iff.mp ht
    obtain ⟨m, hm, ht⟩ := Option.bind_eq_some_iff.mp ht
    split at ht
    · rename_i hz
      cases ht
      obtain ⟨a, xs, rfl, hs, rl⟩ := tupOf_ok hl ru
      obtain ⟨b, ys, rfl, hs2, rm⟩ := tupOf_ok hm rv
      refine ⟨a, b, xs, ys, rfl, rfl, hs, hs2, ?_, by rw [rl.len, rm.len]; exact hz.2.2, ?_, fun _ => new_fz k p fun p n f => rv_tup f ((rl.app rm).mono (step_at (by assumption) (Grow.upd n)))⟩
      · intro z; subst z
        have := rl.len
        exact hz.1 (List.length_eq_zero_iff.mp (by simpa using this.symm))
      · intro z; subst z
        have := rm.len
        exact absurd (List.length_eq_zero_iff.mp (by simpa using this.symm)) hz.2.1
    · cases ht
  · exact p.elim
@[simp] def bools : List T → Option (List Bool)
  | [] => some []
  | .bl b :: ts => (bools ts).map fun bs => b :: bs
  | _ => none
theorem bools_ok : ∀ {l : List T} {vs : List V} {bs : List Bool}, RvL S l vs → bools l = some bs → vs = bs.map V.bl
  | [], vs, bs, r, h => by simp only [RvL] at r; simp only [bools] at h; cases h; exact r
  | t :: ts, vs, bs, r, h => by
    simp only [RvL] at r
    obtain ⟨v, q, rfl, r1, r2⟩ := r
    cases t <;> simp only [bools] at h <;> first | (cases h; done) | skip
    obtain ⟨bs', h2, rfl⟩ := Option.map_eq_some_iff.mp h
    simp only [Rv] at r1
    rw [r1, bools_ok r2 h2]; rfl
@[simp] abbrev bAny := one fun x h => ((lstOf x h).bind bools).map fun bs => .bl (bs.any id)
@[simp] abbrev bAll := one fun x h => ((lstOf x h).bind bools).map fun bs => .bl (bs.all id)
theorem sb_any : SimRC G (rAny G.K) bAny := simC1 fun S x t u Q e k ru hg q => by
  obtain ⟨bs, hb, rfl⟩ := Option.map_eq_some_iff.mp hg
  obtain ⟨l, hl, hb⟩ := Option.bind_eq_some_iff.mp hb
  obtain ⟨a, vs, rfl, hs, rl⟩ := lstOf_ok k hl ru
  rw [e, bools_ok rl hb] at hs
  exact ⟨a, bs, rfl, hs, q _ (by simp)⟩
theorem sb_all : SimRC G (rAll G.K) bAll := simC1 fun S x t u Q e k ru hg q => by
  obtain ⟨bs, hb, rfl⟩ := Option.map_eq_some_iff.mp hg
  obtain ⟨l, hl, hb⟩ := Option.bind_eq_some_iff.mp hb
  obtain ⟨a, vs, rfl, hs, rl⟩ := lstOf_ok k hl ru
  rw [e, bools_ok rl hb] at hs
  exact ⟨a, bs, rfl, hs, q _ (by simp)⟩
@[simp] def intsOf : List T → Option (List Int)
  | [] => some []
  | .int b :: ts => (intsOf ts).map fun bs => b :: bs
  | _ => none
theorem intsOf_ok : ∀ {l : List T} {vs : List V} {bs : List Int}, RvL S l vs → intsOf l = some bs → vs = bs.map V.int
  | [], vs, bs, r, h => by simp only [RvL] at r; simp only [intsOf] at h; cases h; exact r
  | t :: ts, vs, bs, r, h => by
    simp only [RvL] at r
    obtain ⟨v, q, rfl, r1, r2⟩ := r
    cases t <;> simp only [intsOf] at h <;> first | (cases h; done) | skip
    obtain ⟨bs', h2, rfl⟩ := Option.map_eq_some_iff.mp h
    simp only [Rv] at r1
    rw [r1, intsOf_ok r2 h2]; rfl
@[simp] abbrev bSum := one fun x h => ((lstOf x h).bind intsOf).map fun bs => .int bs.sum
theorem sb_sum : SimRC G (rSum G.K) bSum := simC1 fun S x t u Q e k ru hg q => by
  obtain ⟨bs, hb, rfl⟩ := Option.map_eq_some_iff.mp hg
  obtain ⟨l, hl, hb⟩ := Option.bind_eq_some_iff.mp hb
  obtain ⟨a, vs, rfl, hs, rl⟩ := lstOf_ok k hl ru
  rw [e, intsOf_ok rl hb] at hs
  exact ⟨a, bs, rfl, hs, q _ (by simp)⟩
/-! zip, enumerate: each item a new pair -/
theorem new_pair {x y : T} {u v : V} {p : Addr} (k : Ok S) (n : S.H p = none) (ru : Rv S x u) (rv : Rv S y v) : ∃ S', S'.H = upd S.H p (.tup [u, v]) ∧ S'.h = S.h ∧ Ok S' ∧ Step S S' ∧ Rv S' (.tup [x, y]) (.ref p) :=
  have g := Grow.upd (u := .tup [u, v]) n
  ⟨S.at _, rfl, rfl, ok_at k g, step_at k g, rv_tup (fz_new k n upd_same) ((RvL.cons ru (RvL.cons rv RvL.nil)).mono (step_at k g))⟩
def pairs (l m : List T) : List T := List.zipWith (fun x y => .tup [x, y]) l m
theorem pairs_get {l m : List T} {i : Nat} {t : T} (h : (pairs l m)[i]? = some t) : ∃ x y, l[i]? = some x ∧ m[i]? = some y ∧ t = .tup [x, y] := by
  unfold pairs at h
  rw [List.getElem?_zipWith] at h
  cases hx : l[i]? with
  | none => rw [hx] at h; cases h
  | some x =>
    cases hy : m[i]? with
    | none => rw [hx, hy] at h; cases h
    | some y => rw [hx, hy] at h; cases h; exact ⟨x, y, rfl, rfl, rfl⟩
theorem it_zipL {p q : Addr} {l m : List T} {vs ws : List V} (e : S.G = G) (f : Fz S p (.lst vs)) (f2 : Fz S q (.lst ws)) (r : RvL S l vs) (r2 : RvL S m ws) : ItOk S (Itz G.K p q) (pairs l m) := fun S1 st k i => by
  have hs : SqL G.K S1.H p vs := by rw [← e, ← st.G]; exact sql_of (st.fz _ _ f)
  have hs2 : SqL G.K S1.H q ws := by rw [← e, ← st.G]; exact sql_of (st.fz _ _ f2)
  refine ⟨fun t ht => ?_, fun h => ⟨vs, ws, hs, hs2, ?_⟩⟩
  · obtain ⟨x, y, hx, hy, rfl⟩ := pairs_get ht
    obtain ⟨v, hv, rv⟩ := (r.tr st).get hx
    obtain ⟨w, hw, rw'⟩ := (r2.tr st).get hy
    refine ⟨⟨vs, ws, v, w, hs, hs2, hv, hw⟩, fun z H' hy => ?_⟩
    obtain ⟨T0, x', y', rfl, hn, rfl, h1, h2⟩ := hy
    have a := h1 vs hs
    have b := h2 ws hs2
    rw [hv] at a; cases a
    rw [hw] at b; cases b
    exact new_pair k hn rv rw'
  · unfold pairs at h
    rw [List.length_zipWith] at h
    rw [r.len, r2.len]
    omega
theorem it_zipT {p q : Addr} {l m : List T} {vs ws : List V} (hs : ∀ S1, Tr S S1 → SqT G.K S1.H p vs) (hs2 : ∀ S1, Tr S S1 → SqT G.K S1.H q ws) (r : RvL S l vs) (r2 : RvL S m ws) : ItOk S (RZ.ItzT G.K p q) (pairs l m) := fun S1 st k i => by
  have hs := hs S1 st
  have hs2 := hs2 S1 st
  refine ⟨fun t ht => ?_, fun h => ⟨vs, ws, hs, hs2, ?_⟩⟩
  · obtain ⟨x, y, hx, hy, rfl⟩ := pairs_get ht
    obtain ⟨v, hv, rv⟩ := (r.tr st).get hx
    obtain ⟨w, hw, rw'⟩ := (r2.tr st).get hy
    refine ⟨⟨vs, ws, v, w, hs, hs2, hv, hw⟩, fun z H' hy => ?_⟩
    obtain ⟨T0, x', y', rfl, hn, rfl, h1, h2⟩ := hy
    have a := h1 vs hs
    have b := h2 ws hs2
    rw [hv] at a; cases a
    rw [hw] at b; cases b
    exact new_pair k hn rv rw'
  · unfold pairs at h
    rw [List.length_zipWith] at h
    rw [r.len, r2.len]
    omega
@[simp] def iZipM (fa : FA) : FA := fun τ h => (fa τ h).bind fun xs h1 => match xs with
  | [.lst l, .lst m] => .ok (pairs l m) h1
  | [x, y] => match tupOf x, tupOf y with
    | some l, some m => .ok (pairs l m) h1
    | _, _ => .bad
  | _ => .bad
theorem sim_zip {ta : TA} {fa : FA} (ha : SimA G E ta fa) : SimI G E (RZ.iZipA G.K ta) (iZipM fa) := fun S σ τ R e k rs p => by
  refine ha S σ τ _ e k rs (PostG.imp (fun x S1 q u ru => ?_) (PostG.bind p))
  obtain ⟨k1, s1, q⟩ := q
  have e1 := s1.G.trans e
  split at q
  · simp only [RvL, Rv] at ru
    obtain ⟨_, _, rfl, ⟨a, vs, rfl, f1, r1⟩, _, _, rfl, ⟨b, ws, rfl, f2, r2⟩, rfl⟩ := ru
    exact ⟨a, b, vs, ws, rfl, .inl ⟨by rw [← e1]; exact sql_of f1, by rw [← e1]; exact sql_of f2, q S1 rfl k1 (Step.refl S1) _ (it_zipL e1 f1 f2 r1 r2)⟩⟩
  · split at q
    · rename_i l m hl hm
      simp only [RvL] at ru
      obtain ⟨_, _, rfl, h1, _, _, rfl, h2, rfl⟩ := ru
      obtain ⟨a, vs, rfl, hs1, r1⟩ := tup_stay e1 hl h1
      obtain ⟨b, ws, rfl, hs2, r2⟩ := tup_stay e1 hm h2
      exact ⟨a, b, vs, ws, rfl, .inr ⟨hs1 S1 (Tr.refl S1), hs2 S1 (Tr.refl S1), q S1 rfl k1 (Step.refl S1) _ (it_zipT hs1 hs2 r1 r2)⟩⟩
    · exact q.elim
  · exact q.elim
def numbered (l : List T) : List T := l.mapIdx fun i x => .tup [.int (i : Nat), x]
theorem numbered_get {l : List T} {i : Nat} {t : T} (h : (numbered l)[i]? = some t) : ∃ x, l[i]? = some x ∧ t = .tup [.int (i : Nat), x] := by
  unfold numbered at h
  rw [List.getElem?_mapIdx] at h
  obtain ⟨x, hx, rfl⟩ := Option.map_eq_some_iff.mp h
  exact ⟨x, hx, rfl⟩
@[simp] def iEnumL (fa : FA) : FA := fun τ h => (fa τ h).bind fun xs h1 => match xs with | [.lst l] => .ok (numbered l) h1 | _ => .bad
theorem sim_enumL {ta : TA} {fa : FA} (ha : SimA G E ta fa) : SimI G E (iEnum G.K ta) (iEnumL fa) := fun S σ τ R e k rs p => by
  refine ha S σ τ _ e k rs (PostG.imp (fun x S1 q u ru => ?_) (PostG.bind p))
  obtain ⟨k1, s1, q⟩ := q
  have e1 := s1.G.trans e
  split at q
  · simp only [RvL, Rv] at ru
    obtain ⟨_, _, rfl, ⟨a, vs, rfl, f, r⟩, rfl⟩ := ru
    refine ⟨a, vs, rfl, by rw [← e1]; exact sql_of f, q S1 rfl k1 (Step.refl S1) _ fun S2 st k i => ?_⟩
    have hs : SqL G.K S2.H a vs := by rw [← e1, ← st.G]; exact sql_of (st.fz _ _ f)
    refine ⟨fun t ht => ?_, fun h => ⟨vs, hs, by rw [r.len]; unfold numbered at h; rw [List.length_mapIdx] at h; exact h⟩⟩
    obtain ⟨x, hx, rfl⟩ := numbered_get ht
    obtain ⟨v, hv, rv⟩ := (r.tr st).get hx
    refine ⟨⟨vs, v, hs, hv⟩, fun z H' hy => ?_⟩
    obtain ⟨T0, x', rfl, hn, rfl, h1⟩ := hy
    have b := h1 vs hs
    rw [hv] at b; cases b
    exact new_pair k hn (by simp only [Rv]) rv
  · exact q.elim
@[simp] def iEnumTM (fa : FA) : FA := fun τ h => (fa τ h).bind fun xs h1 => match xs with | [x] => (match tupOf x with | some l => .ok (numbered l) h1 | none => .bad) | _ => .bad
theorem sim_enumT {ta : TA} {fa : FA} (ha : SimA G E ta fa) : SimI G E (ENT.iEnumT G.K ta) (iEnumTM fa) := fun S σ τ R e k rs p => by
  refine ha S σ τ _ e k rs (PostG.imp (fun x S1 q u ru => ?_) (PostG.bind p))
  obtain ⟨k1, s1, q⟩ := q
  have e1 := s1.G.trans e
  split at q
  · split at q
    · rename_i l hl
      simp only [RvL] at ru
      obtain ⟨_, _, rfl, h1, rfl⟩ := ru
      obtain ⟨a, vs, rfl, hs1, r⟩ := tup_stay e1 hl h1
      refine ⟨a, vs, rfl, hs1 S1 (Tr.refl S1), q S1 rfl k1 (Step.refl S1) _ fun S2 st k i => ?_⟩
      have hs := hs1 S2 st
      refine ⟨fun t ht => ?_, fun h => ⟨vs, hs, by rw [r.len]; unfold numbered at h; rw [List.length_mapIdx] at h; exact h⟩⟩
      obtain ⟨x, hx, rfl⟩ := numbered_get ht
      obtain ⟨v, hv, rv⟩ := (r.tr st).get hx
      refine ⟨⟨vs, v, hs, hv⟩, fun z H' hy => ?_⟩
      obtain ⟨T0, x', rfl, hn, rfl, h1⟩ := hy
      have b := h1 vs hs
      rw [hv] at b; cases b
      exact new_pair k hn (by simp only [Rv]) rv
    · exact q.elim
  · exact q.elim
/-! constants of the module -/
theorem rv_ktp {p : Addr} {l : List T} {vs : List V} (h : KT S.G.K p vs) (r : RvL S l vs) : Rv S (.ktp l) (.ref p) := by simp only [Rv]; exact ⟨p, vs, rfl, h, r⟩
/-! cleaning: what a def leaves behind its own end is dropped -/
mutual
def lt (n : Nat) : T → Bool
  | .obj i => decide (i < n)
  | .tup l => ltL n l
  | .ktp l => ltL n l
  | .lst l => ltL n l
  | .rdl l => ltL n l
  | .inst _ _ l => ltL n l
  | .dct _ l => ltL n l
  | .dctT _ l => ltL n l
  | _ => true
def ltL (n : Nat) : List T → Bool
  | [] => true
  | t :: ts => lt n t && ltL n ts
end
def ltO (n : Nat) : O → Bool
  | .lst l => ltL n l
  | .dct m => ltL n (m.map (·.2))
  | .dctT m => ltL n (m.map (·.2))
  | .ins _ m => ltL n (m.map (·.2))
/-- the first n of the tracked things -/
def Sta.cut (S : Sta) (n : Nat) : Sta := ⟨S.G, S.al.take n, S.h.take n, S.H, S.pv⟩
theorem cut_trk {n : Nat} {b : Addr} (h : Trk (S.cut n) b) : Trk S b := by
  obtain ⟨i, o, h1, h2⟩ := h
  simp only [Sta.cut] at h1 h2
  rw [List.getElem?_take] at h1 h2
  split at h1
  · rename_i hi
    rw [if_pos hi] at h2
    exact ⟨i, o, h1, h2⟩
  · cases h1
theorem cut_fz {n : Nat} {p : Addr} {o : HO} (f : Fz S p o) : Fz (S.cut n) p o := ⟨f.1, fun z => f.2 (z.imp cut_trk id)⟩
mutual
theorem rv_cut {n : Nat} : ∀ {t : T} {v : V}, Rv S t v → lt n t = true → Rv (S.cut n) t v
  | .non, v, h, _ => by simp only [Rv] at h ⊢; exact h
  | .bl b, v, h, _ => by simp only [Rv] at h ⊢; exact h
  | .int i, v, h, _ => by simp only [Rv] at h ⊢; exact h
  | .str x, v, h, _ => by simp only [Rv] at h ⊢; exact h
  | .ref a, v, h, _ => by simp only [Rv] at h ⊢; exact h
  | .tup l, v, h, q => by
    simp only [Rv] at h ⊢; simp only [lt] at q
    obtain ⟨p, vs, e, f, r⟩ := h
    exact ⟨p, vs, e, cut_fz f, rvL_cut r q⟩
  | .ktp l, v, h, q => by
    simp only [Rv] at h ⊢; simp only [lt] at q
    obtain ⟨p, vs, e, f, r⟩ := h
    exact ⟨p, vs, e, f, rvL_cut r q⟩
  | .lst l, v, h, q => by
    simp only [Rv] at h ⊢; simp only [lt] at q
    obtain ⟨p, vs, e, f, r⟩ := h
    exact ⟨p, vs, e, cut_fz f, rvL_cut r q⟩
  | .rdl l, v, h, q => by
    simp only [Rv] at h ⊢; simp only [lt] at q
    obtain ⟨p, vs, e, f, r⟩ := h
    exact ⟨p, vs, e, f.imp (fun ⟨ob, f⟩ => ⟨ob, cut_fz f⟩) (fun z => z.imp cut_fz id), rvL_cut r q⟩
  | .inst c ns l, v, h, q => by
    simp only [Rv] at h ⊢; simp only [lt] at q
    obtain ⟨p, dx, vs, e, f, n, r⟩ := h
    exact ⟨p, dx, vs, e, cut_fz f, n, rvL_cut r q⟩
  | .dct ks l, v, h, q => by
    simp only [Rv] at h ⊢; simp only [lt] at q
    obtain ⟨p, vs, e, f, n, r⟩ := h
    exact ⟨p, vs, e, f.imp cut_fz (fun ⟨od, f⟩ => ⟨od, cut_fz f⟩), n, rvL_cut r q⟩
  | .dctT ks l, v, h, q => by
    simp only [Rv] at h ⊢; simp only [lt] at q
    obtain ⟨p, vs, e, f, n, r⟩ := h
    exact ⟨p, vs, e, cut_fz f, n, rvL_cut r q⟩
  | .obj i, v, h, q => by
    simp only [Rv] at h ⊢; simp only [lt] at q
    obtain ⟨p, e, z⟩ := h
    refine ⟨p, ?_, z⟩
    simp only [Sta.cut]
    rw [List.getElem?_take, if_pos (of_decide_eq_true q)]
    exact e
theorem rvL_cut {n : Nat} : ∀ {l : List T} {vs : List V}, RvL S l vs → ltL n l = true → RvL (S.cut n) l vs
  | [], _, h, _ => by simp only [RvL] at h ⊢; exact h
  | t :: ts, vs, h, q => by
    simp only [RvL] at h ⊢; simp only [ltL, Bool.and_eq_true] at q
    obtain ⟨v, r, e, h1, h2⟩ := h
    exact ⟨v, r, e, rv_cut h1 q.1, rvL_cut h2 q.2⟩
end
theorem rvK_cut {κ : Type} {n : Nat} : ∀ {m : List (κ × T)} {vs : List (κ × V)}, RvK S m vs → ltL n (m.map (·.2)) = true → RvK (S.cut n) m vs
  | [], _, h, _ => h
  | (k, t) :: m, vs, h, q => by
    obtain ⟨v, m', rfl, h1, h2⟩ := h
    simp only [List.map_cons, ltL, Bool.and_eq_true] at q
    exact ⟨v, m', rfl, rv_cut h1 q.1, rvK_cut h2 q.2⟩
theorem ro_cut {n : Nat} {o : O} {u : HO} (r : RO S o u) (q : ltO n o = true) : RO (S.cut n) o u := by
  cases o with
  | lst l => obtain ⟨vs, e, r⟩ := r; exact ⟨vs, e, rvL_cut r q⟩
  | dct m => obtain ⟨vs, e, r⟩ := r; exact ⟨vs, e, rvK_cut r q⟩
  | dctT m => obtain ⟨vs, e, r⟩ := r; exact ⟨vs, e, rvK_cut r q⟩
  | ins c m => obtain ⟨dx, vs, e, r⟩ := r; exact ⟨dx, vs, e, rvK_cut r q⟩
mutual
theorem lt_of_rv : ∀ {t : T} {v : V}, Rv S t v → lt S.al.length t = true
  | .non, v, h => rfl
  | .bl b, v, h => rfl
  | .int i, v, h => rfl
  | .str x, v, h => rfl
  | .ref a, v, h => rfl
  | .tup l, v, h => by simp only [Rv] at h; simp only [lt]; obtain ⟨p, vs, e, f, r⟩ := h; exact ltL_of_rv r
  | .ktp l, v, h => by simp only [Rv] at h; simp only [lt]; obtain ⟨p, vs, e, f, r⟩ := h; exact ltL_of_rv r
  | .lst l, v, h => by simp only [Rv] at h; simp only [lt]; obtain ⟨p, vs, e, f, r⟩ := h; exact ltL_of_rv r
  | .rdl l, v, h => by simp only [Rv] at h; simp only [lt]; obtain ⟨p, vs, e, f, r⟩ := h; exact ltL_of_rv r
  | .inst c ns l, v, h => by simp only [Rv] at h; simp only [lt]; obtain ⟨p, dx, vs, e, f, n, r⟩ := h; exact ltL_of_rv r
  | .dct ks l, v, h => by simp only [Rv] at h; simp only [lt]; obtain ⟨p, vs, e, f, n, r⟩ := h; exact ltL_of_rv r
  | .dctT ks l, v, h => by simp only [Rv] at h; simp only [lt]; obtain ⟨p, vs, e, f, n, r⟩ := h; exact ltL_of_rv r
  | .obj i, v, h => by simp only [Rv] at h; simp only [lt]; obtain ⟨p, e, z⟩ := h; exact decide_eq_true (List.getElem?_eq_some_iff.mp e).1
theorem ltL_of_rv : ∀ {l : List T} {vs : List V}, RvL S l vs → ltL S.al.length l = true
  | [], _, h => rfl
  | t :: ts, vs, h => by
    simp only [RvL] at h; simp only [ltL, Bool.and_eq_true]
    obtain ⟨v, r, e, h1, h2⟩ := h
    exact ⟨lt_of_rv h1, ltL_of_rv h2⟩
end
theorem ltK_of_rv {κ : Type} : ∀ {m : List (κ × T)} {vs : List (κ × V)}, RvK S m vs → ltL S.al.length (m.map (·.2)) = true
  | [], _, _ => rfl
  | (k, t) :: m, vs, h => by
    obtain ⟨v, m', rfl, h1, h2⟩ := h
    simp only [List.map_cons, ltL, Bool.and_eq_true]
    exact ⟨lt_of_rv h1, ltK_of_rv h2⟩
theorem ltO_of_ro {o : O} {u : HO} (r : RO S o u) : ltO S.al.length o = true := by
  cases o with
  | lst l => obtain ⟨vs, e, r⟩ := r; exact ltL_of_rv r
  | dct m => obtain ⟨vs, e, r⟩ := r; exact ltK_of_rv r
  | dctT m => obtain ⟨vs, e, r⟩ := r; exact ltK_of_rv r
  | ins c m => obtain ⟨dx, vs, e, r⟩ := r; exact ltK_of_rv r
mutual
theorem lt_le {n m : Nat} (h : n ≤ m) : ∀ {t : T}, lt n t = true → lt m t = true
  | .non, _ => rfl
  | .bl b, _ => rfl
  | .int i, _ => rfl
  | .str x, _ => rfl
  | .ref a, _ => rfl
  | .tup l, q => by simp only [lt] at q ⊢; exact ltL_le h q
  | .ktp l, q => by simp only [lt] at q ⊢; exact ltL_le h q
  | .lst l, q => by simp only [lt] at q ⊢; exact ltL_le h q
  | .rdl l, q => by simp only [lt] at q ⊢; exact ltL_le h q
  | .inst c ns l, q => by simp only [lt] at q ⊢; exact ltL_le h q
  | .dct ks l, q => by simp only [lt] at q ⊢; exact ltL_le h q
  | .dctT ks l, q => by simp only [lt] at q ⊢; exact ltL_le h q
  | .obj i, q => by simp only [lt] at q ⊢; exact decide_eq_true (Nat.lt_of_lt_of_le (of_decide_eq_true q) h)
theorem ltL_le {n m : Nat} (h : n ≤ m) : ∀ {l : List T}, ltL n l = true → ltL m l = true
  | [], _ => rfl
  | t :: ts, q => by
    simp only [ltL, Bool.and_eq_true] at q ⊢
    exact ⟨lt_le h q.1, ltL_le h q.2⟩
end
theorem ltO_le {n m : Nat} (h : n ≤ m) {o : O} (q : ltO n o = true) : ltO m o = true := by
  cases o <;> exact ltL_le h q
/-- r is q, but for tracked things at its end that nobody knows -/
def Clean {α : Type} (lq : Nat → α → Bool) (h : AH) (r q : Res α) : Prop := match q with
  | .bad => True
  | .ok a h' => ∃ j, r = .ok a (h' ++ j) ∧ h.length ≤ h'.length ∧ lq h'.length a = true ∧ ∀ (i : Nat) (o : O), h'[i]? = some (some o) → h[i]? = some (some o) ∨ ltO h'.length o = true
  | .exc e h' => ∃ j, r = .exc e (h' ++ j) ∧ h.length ≤ h'.length ∧ ltL h'.length e.l = true ∧ ∀ (i : Nat) (o : O), h'[i]? = some (some o) → h[i]? = some (some o) ∨ ltO h'.length o = true
theorem cut_ok {S1 : Sta} {h' j : AH} (k0 : Ok S) (k : Ok S1) (st : Step S S1) (e : S1.h = h' ++ j) (hl : S.h.length ≤ h'.length) (ho : ∀ (i : Nat) (o : O), h'[i]? = some (some o) → S.h[i]? = some (some o) ∨ ltO h'.length o = true) : (S1.cut h'.length).h = h' ∧ Ok (S1.cut h'.length) ∧ Step S (S1.cut h'.length) := by
  have eh : (S1.cut h'.length).h = h' := by show S1.h.take _ = _; rw [e, List.take_left]
  have hal : h'.length ≤ S1.al.length := by rw [k.len, e, List.length_append]; omega
  have small : ∀ (i : Nat) (o : O), h'[i]? = some (some o) → ltO h'.length o = true := fun i o hi => by
    rcases ho i o hi with z | z
    · obtain ⟨p, hp⟩ := k0.addr z
      obtain ⟨u, _, r⟩ := k0.rel i o p z hp
      exact ltO_le (by rw [k0.len]; exact hl) (ltO_of_ro r)
    · exact z
  have back : ∀ (i : Nat) (o : O), (S1.cut h'.length).h[i]? = some (some o) → S1.h[i]? = some (some o) ∧ h'[i]? = some (some o) := fun i o hi => by
    rw [eh] at hi
    refine ⟨?_, hi⟩
    rw [e, List.getElem?_append_left (List.getElem?_eq_some_iff.mp hi).1]
    exact hi
  have backA : ∀ (i : Nat) (p : Addr), (S1.cut h'.length).al[i]? = some p → S1.al[i]? = some p := fun i p hi => by
    simp only [Sta.cut] at hi
    rw [List.getElem?_take] at hi
    split at hi
    · exact hi
    · cases hi
  refine ⟨eh, ⟨?_, fun i o p h1 h2 => ?_, fun i j' o o' p h1 h2 h3 h4 => ?_, fun q hq => ?_⟩, ⟨st.G, ?_, st.keep, fun b z => st.own b (z.imp cut_trk id), st.pv, st.pk⟩⟩
  · rw [eh]; simp only [Sta.cut]; rw [List.length_take]; omega
  · obtain ⟨b1, b2⟩ := back i o h1
    obtain ⟨u, hu, r⟩ := k.rel i o p b1 (backA i p h2)
    exact ⟨u, hu, ro_cut r (small i o b2)⟩
  · exact k.inj i j' o o' p (back i o h1).1 (back j' o' h2).1 (backA i p h3) (backA j' p h4)
  · exact ⟨(k.priv q hq).1, fun z => (k.priv q hq).2 (cut_trk z)⟩
  · have pre := st.al
    rw [List.prefix_iff_eq_take] at pre
    have hle : S.al.length ≤ h'.length := by rw [k0.len]; exact hl
    show S.al <+: S1.al.take h'.length
    rw [pre]
    exact List.take_prefix_take_left hle
theorem Clean.post {h : AH} {r q : Res T} {X : Exc → Sta → Prop} {P : T → Sta → Prop} {E' : XK} {Q : VK} (k0 : Ok S) (eh : S.h = h) (c : Clean lt h r q) (p : PostG S (XP E') (fun t S' => ∀ v, Rv S' t v → Q v S'.H) q) : PostG S (XP E') (fun t S' => ∀ v, Rv S' t v → Q v S'.H) r := by
  subst eh
  cases q with
  | bad => exact p.elim
  | ok a h' =>
    obtain ⟨j, rfl, hl, ha, ho⟩ := c
    intro S1 e k st v rv
    obtain ⟨e2, k2, st2⟩ := cut_ok k0 k st e hl ho
    exact p (S1.cut h'.length) e2 k2 st2 v (rv_cut rv ha)
  | exc x h' =>
    obtain ⟨j, rfl, hl, ha, ho⟩ := c
    intro S1 e k st cls d rx
    obtain ⟨e2, k2, st2⟩ := cut_ok k0 k st e hl ho
    refine p (S1.cut h'.length) e2 k2 st2 cls d ?_
    obtain ⟨r1, r2⟩ := rx
    refine ⟨r1, r2.imp id fun ⟨a, vs, h1, h2, h3, h4⟩ => ⟨a, vs, h1, cut_fz h2, h3, rvL_cut h4 ha⟩⟩
/-- a def's promise by a cleaner mirror -/
theorem sp_clean {n : Nat} {m p : List T → AH → Res T} (hc : ∀ ts h, ts.length = n → Clean lt h (m ts h) (p ts h)) : ∀ vs H Q E, spM G n p vs H Q E → spM G n m vs H Q E := fun vs H Q E h => by
  obtain ⟨S, ts, e, k, rfl, rl, hn, q⟩ := h
  exact ⟨S, ts, e, k, rfl, rl, hn, Clean.post (P := fun _ _ => True) (X := fun _ _ => True) k rfl (hc ts S.h hn) q⟩
/-! the law's end -/
def FUEL : Nat := 1000000
def spLaw (K : PySem.W.Frag) : Sp := fun vs H Q _ => ∃ (a : Addr) (ns : List Int), vs = [.ref a] ∧ SqL K H a (ns.map V.int) ∧ ns.length ≤ 63 ∧ ∀ H', Q (.bl true) H'
theorem RvL.ofInts {S : Sta} : ∀ ns : List Int, RvL S (ns.map T.int) (ns.map V.int)
  | [] => RvL.nil
  | n :: ns => RvL.cons (by simp only [Rv]) (RvL.ofInts ns)
theorem law_end {P : Program} {w : World} {K : PySem.W.Frag} {mg : Str → Option Value} {k : Nat} {fa0 : Addr} {ps : List Str} {m : List T → AH → Res T} {R : FuncData → Prop} (ht : ∀ ns : List Int, ns.length ≤ 63 → ∃ h', m [.rdl (ns.map .int)] [] = .ok (.bl true) h')
    (h : ∃ fd : FuncData, R fd ∧ ∃ G : Env, G.K = K ∧ ∀ base : Heap, K.In base → base.Ns mainGlobals mg → FnOk P w K mg base CX0 k fa0 fd ps (spM G 1 m)) :
    ∃ fd : FuncData, R fd ∧ ∀ base : Heap, K.In base → base.Ns mainGlobals mg → FnOk P w K mg base CX0 k fa0 fd ps (spLaw K) := by
  obtain ⟨fd, r, G, rfl, h⟩ := h
  refine ⟨fd, r, fun base a b => FnOk.imp (h base a b) fun vs H Q E q => ?_⟩
  obtain ⟨p, ns, rfl, hs, hl, q⟩ := q
  obtain ⟨h', hm⟩ := ht ns hl
  refine ⟨⟨G, [], [], H, []⟩, [.rdl (ns.map .int)], rfl, ⟨rfl, fun i o p h1 => by simp at h1, fun i j o o' p h1 => by simp at h1, fun q hq => by simp at hq⟩, rfl, RvL.cons ?_ RvL.nil, rfl, ?_⟩
  · simp only [Rv]
    have no : ¬ Own (⟨G, [], [], H, []⟩ : Sta) p := fun z => by
      rcases z with ⟨i, o, h1, _⟩ | z
      · simp at h1
      · simp at z
    refine ⟨p, _, rfl, ?_, RvL.ofInts ns⟩
    rcases hs with (hs | ⟨ob, hs⟩) | hs
    · exact .inr (.inl ⟨hs, no⟩)
    · exact .inl ⟨ob, hs, no⟩
    · exact .inr (.inr hs)
  · rw [hm]
    intro S' e k st v rv
    simp only [Rv] at rv
    subst rv
    exact q _
end M
/-! ### loops, step by step -/
namespace M
open PySem PySem.Spec PyProof.Rows L2
section
variable {f : FT} {b : FS} {n : Nat} {τ τ' : LS} {h h1 h2 : AH} {t : T} {e : Exc}
theorem while_nx (hc : f τ h = .ok true h1) (hb : b τ h1 = .ok (.nx τ') h2) : sWhile f b (n + 1) τ h = sWhile f b n τ' h2 := by
  show liftE (f τ h) τ _ = _
  rw [hc]
  show (b τ h1).bind _ = _
  rw [hb]; rfl
theorem while_ct (hc : f τ h = .ok true h1) (hb : b τ h1 = .ok (.ct τ') h2) : sWhile f b (n + 1) τ h = sWhile f b n τ' h2 := by
  show liftE (f τ h) τ _ = _
  rw [hc]
  show (b τ h1).bind _ = _
  rw [hb]; rfl
theorem while_rt (hc : f τ h = .ok true h1) (hb : b τ h1 = .ok (.rt t) h2) : sWhile f b (n + 1) τ h = .ok (.rt t) h2 := by
  show liftE (f τ h) τ _ = _
  rw [hc]
  show (b τ h1).bind _ = _
  rw [hb]; rfl
theorem while_bk (hc : f τ h = .ok true h1) (hb : b τ h1 = .ok (.bk τ') h2) : sWhile f b (n + 1) τ h = .ok (.nx τ') h2 := by
  show liftE (f τ h) τ _ = _
  rw [hc]
  show (b τ h1).bind _ = _
  rw [hb]; rfl
theorem while_end (hc : f τ h = .ok false h1) : sWhile f b (n + 1) τ h = .ok (.nx τ) h1 := by
  show liftE (f τ h) τ _ = _
  rw [hc]; rfl
variable {a : FG} {x : T} {xs : List T} {τ1 : LS}
theorem for_nil : sForL a b [] τ h = .ok (.nx τ) h := rfl
theorem for_cons (ha : a x τ = some τ1) : sForL a b (x :: xs) τ h = (b τ1 h).bind fun fl h1 => match fl with
      | .nx τ2 => sForL a b xs τ2 h1
      | .ct τ2 => sForL a b xs τ2 h1
      | .bk τ2 => .ok (.nx τ2) h1
      | fl => .ok fl h1 := by
  show (match a x τ with | some τ' => _ | none => _) = _
  rw [ha] <;> rfl
theorem for_nx (ha : a x τ = some τ1) (hb : b τ1 h = .ok (.nx τ') h1) : sForL a b (x :: xs) τ h = sForL a b xs τ' h1 := by
  rw [for_cons ha, hb]; rfl
theorem for_ct (ha : a x τ = some τ1) (hb : b τ1 h = .ok (.ct τ') h1) : sForL a b (x :: xs) τ h = sForL a b xs τ' h1 := by
  rw [for_cons ha, hb]; rfl
theorem for_rt (ha : a x τ = some τ1) (hb : b τ1 h = .ok (.rt t) h1) : sForL a b (x :: xs) τ h = .ok (.rt t) h1 := by
  rw [for_cons ha, hb]; rfl
theorem for_bk (ha : a x τ = some τ1) (hb : b τ1 h = .ok (.bk τ') h1) : sForL a b (x :: xs) τ h = .ok (.nx τ') h1 := by
  rw [for_cons ha, hb]; rfl
/-- a for whose turns keep Pv -/
theorem for_all {l : List T} (Pv : List T → LS → AH → Prop) (h0 : Pv l τ h) (hs : ∀ x xs τ h, Pv (x :: xs) τ h → ∃ τ1 τ' h', a x τ = some τ1 ∧ (b τ1 h = .ok (.nx τ') h' ∨ b τ1 h = .ok (.ct τ') h') ∧ Pv xs τ' h') : ∃ τ' h', sForL a b l τ h = .ok (.nx τ') h' ∧ Pv [] τ' h' := by
  induction l generalizing τ h with
  | nil => exact ⟨τ, h, rfl, h0⟩
  | cons x xs ih =>
    obtain ⟨τ1, τ', h', ha, hb, hP⟩ := hs x xs τ h h0
    obtain ⟨τ2, h2, e, q⟩ := ih hP
    refine ⟨τ2, h2, ?_, q⟩
    rw [← e]
    rcases hb with hb | hb
    · exact for_nx ha hb
    · exact for_ct ha hb
end
end M
/-! ### what is never reached, stars, reversed, dict displays -/
namespace M
open PySem PySem.Spec PyProof.Rows L2
variable {G : Env} {E : L2.St → XK} {S : Sta} {W : WX}
/-! what the mirror never reaches -/
theorem ps_nev {X : Cx} {st : Stmt} : PS X st (fun _ _ _ => False) := ⟨fun _ _ _ _ _ _ h => h.elim⟩
theorem pe_nev {X : Cx} {e : Expr} : PE X e (fun _ _ _ => False) := ⟨fun _ _ _ _ _ _ h => h.elim⟩
theorem pt_nev {X : Cx} {e : Expr} : PT X e (fun _ _ _ => False) := ⟨fun _ _ _ _ _ _ h => h.elim⟩
@[simp] def mBad : FE := fun _ _ => .bad
@[simp] def tBad : FT := fun _ _ => .bad
@[simp] def sBad : FS := fun _ _ => .bad
theorem sim_bad {te : TE} : SimE G E te mBad := fun _ _ _ _ _ _ _ p => p.elim
theorem sim_badT {te : TT} : SimT G E te tBad := fun _ _ _ _ _ _ _ p => p.elim
theorem sim_badS {te : TS} : SimS G W te sBad := fun _ _ _ _ _ _ _ p => p.elim
/-! [*xs, ..] -/
@[simp] def mStar (fe : FE) (fr : FA) : FA := fun τ h => (fe τ h).bind fun x h1 => (pur (seqOf x h1) h1).bind fun l h1 => (fr τ h1).bind fun ys h2 => .ok (l ++ ys) h2
theorem x_star {X : Cx} {K : PySem.W.Frag} (h : X.K = K) {e : Expr} {es : List Expr} {te : TE} {t : TA} {p : Pos} (he : PE X e te) (hr : PA X es t) (hs : starEach (.Starred e p :: es) X.env = (true, eval e X.env) :: starEach es X.env := by rfl) : PA X (.Starred e p :: es) (StX.tStar K te t) := h ▸ StX.pa_star he hr hs
theorem sim_star {te : TE} {fe : FE} {tr : TA} {fr : FA} (ha : SimE G E te fe) (hb : SimA G E tr fr) : SimA G E (StX.tStar G.K te tr) (mStar fe fr) := fun S σ τ Q e k rs p => by
  refine ha S σ τ _ e k rs (PostG.imp (fun x S1 q u ru => ?_) (PostG.bind p))
  obtain ⟨k1, s1, q⟩ := q
  unfold pur at q
  split at q
  · rename_i l hl
    obtain ⟨a, vs, rfl, hs, rl⟩ := seqOf_ok k1 hl ru
    rw [s1.G.trans e] at hs
    refine ⟨a, vs, rfl, hs.symm, ?_⟩
    refine hb S1 σ τ _ (s1.G.trans e) k1 (rs.mono s1) (PostG.imp (fun y S2 q v rv => ?_) (PostG.bind q))
    obtain ⟨k2, s2, q⟩ := q
    exact q S2 rfl k2 (Step.refl S2) _ ((rl.mono s2).app rv)
  · exact q.elim
/-! reversed -/
theorem rev_get {l : List T} {i : Nat} {x : T} (h : l.reverse[i]? = some x) : i < l.length ∧ l[l.length - 1 - i]? = some x := by
  have hl := (List.getElem?_eq_some_iff.mp h).1
  rw [List.length_reverse] at hl
  rw [List.getElem?_reverse hl] at h
  exact ⟨hl, h⟩
@[simp] def iRevM (fe : FE) : FA := fun τ h => (fe τ h).bind fun x h1 => match x with
  | .lst l => .ok l.reverse h1
  | x => match tupOf x with | some l => .ok l.reverse h1 | none => .bad
theorem x_rev {X : Cx} {K : PySem.W.Frag} (h : X.K = K) {tg e : Expr} {te : TE} {p pos : Pos} (hg : Gl X "reversed") (hm : X.mg "reversed" = none) (he : PE X e te) (hs : starEach [e] X.env = (false, eval e X.env) :: starEach [] X.env := by rfl) : PI X tg (.Call (.Name "reversed" p) [e] [] pos) (RT.iRevA K te) := h ▸ RT.pi_revA hg hm he hs
theorem sim_rev {te : TE} {fe : FE} (he : SimE G E te fe) : SimI G E (RT.iRevA G.K te) (iRevM fe) := fun S σ τ R e k rs p => by
  refine he S σ τ _ e k rs (PostG.imp (fun x S1 q u ru => ?_) (PostG.bind p))
  obtain ⟨k1, s1, q⟩ := q
  have e1 := s1.G.trans e
  split at q
  · rename_i l
    simp only [Rv] at ru
    obtain ⟨p, vs, rfl, f, rl⟩ := ru
    refine ⟨p, vs, rfl, .inl ⟨by rw [← e1]; exact sql_of f, q S1 rfl k1 (Step.refl S1) _ fun S2 st k i => ?_⟩⟩
    have hs : SqL G.K S2.H p vs := by rw [← e1, ← st.G]; exact sql_of (st.fz _ _ f)
    refine ⟨fun t ht => ?_, fun h => by rw [List.length_reverse] at h; show vs.length ≤ i; rw [rl.len]; exact h⟩
    obtain ⟨hi, ht⟩ := rev_get ht
    obtain ⟨v, hv, rv⟩ := (rl.tr st).get ht
    rw [← rl.len] at hv hi
    refine ⟨⟨hi, vs, v, hs, hv⟩, fun w H' hy => ?_⟩
    obtain ⟨rfl, hy⟩ := hy
    have := hy vs hs
    rw [hv] at this; cases this
    exact ⟨S2, rfl, rfl, k, Step.refl S2, rv⟩
  · split at q
    · rename_i l hl
      obtain ⟨p, vs, rfl, hs, rl⟩ := tup_stay e1 hl ru
      refine ⟨p, vs, rfl, .inr ⟨hs S1 (Tr.refl S1), q S1 rfl k1 (Step.refl S1) _ fun S2 st k i => ?_⟩⟩
      have hs := hs S2 st
      refine ⟨fun t ht => ?_, fun h => by rw [List.length_reverse] at h; show vs.length ≤ i; rw [rl.len]; exact h⟩
      obtain ⟨hi, ht⟩ := rev_get ht
      obtain ⟨v, hv, rv⟩ := (rl.tr st).get ht
      rw [← rl.len] at hv hi
      refine ⟨⟨hi, vs, v, hs, hv⟩, fun w H' hy => ?_⟩
      obtain ⟨rfl, hy⟩ := hy
      have := hy vs hs
      rw [hv] at this; cases this
      exact ⟨S2, rfl, rfl, k, Step.refl S2, rv⟩
    · exact q.elim
/-! {k: v, ..} -/
def mPairs : List (FE × FE) → LS → AH → Res (List (Key × T))
  | [], _, h => .ok [] h
  | (fk, fv) :: r, τ, h => (fk τ h).bind fun x h1 => (fv τ h1).bind fun y h2 => match keyOf x with
    | some k => (mPairs r τ h2).bind fun ps h3 => .ok ((k, y) :: ps) h3
    | none => .bad
def mergeT (m more : List (Key × T)) : List (Key × T) := more.foldl (fun acc kv => putT acc kv.1 kv.2) m
theorem RvK.merge : ∀ {more : List (Key × T)} {ws : List (Key × V)} {m : List (Key × T)} {vs : List (Key × V)}, RvK S more ws → RvK S m vs → RvK S (mergeT m more) (mergeK vs ws)
  | [], ws, m, vs, r, q => by rw [show ws = [] from r]; exact q
  | (k, t) :: more, ws, m, vs, r, q => by
    obtain ⟨v, m', rfl, h1, h2⟩ := r
    exact RvK.merge (more := more) (ws := m') (m := putT m k t) h2 (q.put k h1)
inductive SimP (G : Env) (E : L2.St → XK) : List (TE × TE) → List (FE × FE) → Prop
  | nil : SimP G E [] []
  | cons {tk tv : TE} {fk fv : FE} {tr : List (TE × TE)} {fr : List (FE × FE)} : SimE G E tk fk → SimE G E tv fv → SimP G E tr fr → SimP G E ((tk, tv) :: tr) ((fk, fv) :: fr)
theorem pairs_ok {tr : List (TE × TE)} {fr : List (FE × FE)} (hp : SimP G E tr fr) : ∀ (S : Sta) (σ : L2.St) (τ : LS) (Q : List (V × V) → Hp → Prop), S.G = G → Ok S → RS S τ σ →
    PostG S (XP (E σ)) (fun m S' => ∀ ws, RvK S' m ws → Q (ws.map fun kv => (kV kv.1, kv.2)) S'.H) (mPairs fr τ S.h) → tPairs tr σ S.H Q := by
  induction hp with
  | nil => exact fun S σ τ Q e k rs p => p S rfl k (Step.refl S) [] rfl
  | cons hk hv hr ih =>
    intro S σ τ Q e k rs p
    refine hk S σ τ _ e k rs (PostG.imp (fun x S1 q u ru => ?_) (PostG.bind p))
    obtain ⟨k1, s1, q⟩ := q
    refine hv S1 σ τ _ (s1.G.trans e) k1 (rs.mono s1) (PostG.imp (fun y S2 q v rv => ?_) (PostG.bind q))
    obtain ⟨k2, s2, q⟩ := q
    split at q
    · rename_i ky hky
      refine ih S2 σ τ _ (s2.G.trans (s1.G.trans e)) k2 (rs.mono (s1.trans s2)) (PostG.imp (fun ps S3 q ws rw' => ?_) (PostG.bind q))
      obtain ⟨k3, s3, q⟩ := q
      have := q S3 rfl k3 (Step.refl S3) ((ky, v) :: ws) ⟨v, ws, rfl, rv.mono s3, rw'⟩
      rw [keyOf_ok ru hky]
      exact this
    · exact q.elim
/-- {k: v, ..}: a tree, or a dict that will change -/
@[simp] def mDisp (fr : List (FE × FE)) : FE := fun τ h => (mPairs fr τ h).bind fun ps h1 => if ps.length ≤ 15 then .ok (.dct ((mergeT [] ps).map (·.1)) ((mergeT [] ps).map (·.2))) h1 else .bad
@[simp] def mDispO (fr : List (FE × FE)) : FE := fun τ h => (mPairs fr τ h).bind fun ps h1 => if ps.length ≤ 15 then .ok (.obj h1.length) (h1 ++ [some (.dct (mergeT [] ps))]) else .bad
theorem rv_dct {p : Addr} {m : List (Key × T)} {vs : List (Key × V)} (f : Fz S p (.dK vs)) (r : RvK S m vs) : Rv S (.dct (m.map (·.1)) (m.map (·.2))) (.ref p) := by
  obtain ⟨ws, rfl, rl⟩ := r.unzip
  simp only [Rv]
  exact ⟨p, ws, rfl, .inl f, by rw [List.length_map, List.length_map], rl⟩
theorem disp_all {tr : List (TE × TE)} {fr : List (FE × FE)} (hp : SimP G ET tr fr) (S : Sta) (σ : L2.St) (τ : LS) (Q : VK) (e : S.G = G) (k : Ok S) (rs : RS S τ σ) (fin : List (Key × T) → AH → Res T)
    (p : PostG S (fun _ _ => True) (fun t S' => ∀ v, Rv S' t v → Q v S'.H) ((mPairs fr τ S.h).bind fun ps h1 => if ps.length ≤ 15 then fin (mergeT [] ps) h1 else .bad))
    (hfin : ∀ (S0 S : Sta) (m : List (Key × T)) (ws : List (Key × V)) (D : Addr), S0.G = G → Ok S0 → Ok S → Priv S0 S D → S.H D = some (.dK ws) → RvK S m ws → PostG S0 (fun _ _ => True) (fun t S' => ∀ v, Rv S' t v → Q v S'.H) (fin m S.h) → Q (.ref D) S.H) : tDisp tr σ S.H Q := by
  intro D hD
  have k1 := ok_hide (u := .dK []) k hD
  have x1 := Priv.start (u := .dK []) k hD
  refine pairs_ok hp (S.hide D (upd S.H D (.dK []))) σ τ _ e k1 (RS.tr x1.tr rs) (PostG.exc (fun _ _ _ _ _ _ => trivial) (PostG.imp (fun ps S2 q ws rw' => ?_) (Pnd.post (S := S.hide D (upd S.H D (.dK []))) (PostG.pnd (S := S) p))))
  obtain ⟨k2, s2, q⟩ := q
  have x2 := x1.step k k1 k2 s2
  have hD2 : S2.H D = some (.dK []) := (s2.pk D List.mem_cons_self).trans upd_same
  split at q
  · rename_i h15
    refine ⟨hD2, ws, rfl, by rw [rw'.len]; exact h15, ?_⟩
    have hm : D ∈ S2.pv := by rw [x2.pv]; exact List.mem_cons_self
    have k3 := ok_fill (u := .dK (mergeK [] ws)) k2 hm
    have x3 := x2.fill (u := .dK (mergeK [] ws)) k
    exact hfin S (S2.fill (upd S2.H D (.dK (mergeK [] ws)))) (mergeT [] ps) _ D e k k3 x3 upd_same ((RvK.merge (m := []) (vs := []) rw' rfl).tr (tr_fill hm)) q
  · exact q.elim
theorem sim_disp {tr : List (TE × TE)} {fr : List (FE × FE)} (hp : SimP G ET tr fr) : SimE G E (tDisp tr) (mDisp fr) := fun S σ τ Q e k rs p => by
  refine disp_all hp S σ τ Q e k rs (fun m h1 => .ok (.dct (m.map (·.1)) (m.map (·.2))) h1) (PostG.exc (fun _ _ _ => trivial) p) fun S0 S m ws D _ k0 k x hD r q => ?_
  have e := x.pv
  exact q (S.show S0.pv) rfl (ok_show k e) x.st _ (rv_dct ⟨hD, x.nown k0 k⟩ (r.tr (tr_show e)))
theorem sim_dispO {tr : List (TE × TE)} {fr : List (FE × FE)} (hp : SimP G ET tr fr) : SimE G E (tDisp tr) (mDispO fr) := fun S σ τ Q e k rs p => by
  refine disp_all hp S σ τ Q e k rs (fun m h1 => .ok (.obj h1.length) (h1 ++ [some (.dct m)])) (PostG.exc (fun _ _ _ => trivial) p) fun S0 S m ws D _ k0 k x hD r q => ?_
  obtain ⟨k', st⟩ := x.adopt (o := .dct m) k0 k hD ⟨_, rfl, r⟩
  exact q (S.adopt S0.pv D _) rfl k' st _ (by simp only [Rv]; exact ⟨D, by simp [Sta.adopt, k.len], rfl⟩)
end M
/-! ### bits put into a word -/
namespace M
open PySem PySem.Spec PyProof.Rows L2 PySem.W
theorem band_zero : ∀ y : Int, Builtin.bitAnd 0 y = 0 := fun y => by
  rw [bitAnd_comm]
  have := kbt_mask y 0
  simpa using this
theorem kb0 (x y : Int) : ((if x % 2 = 1 ∧ y % 2 = 1 then 1 else 0 : Int) = 0 ∧ ¬ (x % 2 = 1 ∧ y % 2 = 1)) ∨ ((if x % 2 = 1 ∧ y % 2 = 1 then 1 else 0 : Int) = 1 ∧ x % 2 = 1 ∧ y % 2 = 1) := by
  split
  · rename_i h; exact .inr ⟨rfl, h⟩
  · rename_i h; exact .inl ⟨rfl, h⟩
theorem p2s (k : Nat) : (2 : Int) ^ (k + 1) = 2 * 2 ^ k := Int.pow_succ' _ _
theorem band_not_n (y : Int) : ∀ (n : Nat) (w y : Int), 0 ≤ w → w < n → Builtin.bitAnd w (-y - 1) + Builtin.bitAnd w y = w := by
  intro n
  induction n with
  | zero => intro w y h1 h2; omega
  | succ n ih =>
    intro w y h1 h2
    by_cases z : w = 0
    · subst z; rw [band_zero, band_zero]; rfl
    · have a := kbt_halves w (-y - 1)
      have b := kbt_halves w y
      have c := ih (w / 2) (y / 2) (by omega) (by omega)
      have e : (-y - 1) / 2 = -(y / 2) - 1 := by omega
      rw [e] at a
      rcases kb0 w (-y - 1) with ⟨q, q'⟩ | ⟨q, q'⟩ <;> rcases kb0 w y with ⟨r, r'⟩ | ⟨r, r'⟩ <;> rw [q] at a <;> rw [r] at b <;> omega
theorem band_not {w y : Int} (h : 0 ≤ w) : Builtin.bitAnd w (Builtin.bitNot y) = w - Builtin.bitAnd w y := by
  have := band_not_n y (w.toNat + 1) w y h (by omega)
  rw [kbt_not]; omega
theorem band_sh : ∀ (k : Nat) (x y : Int), Builtin.bitAnd x (y * 2 ^ k) = Builtin.bitAnd (x / 2 ^ k) y * 2 ^ k
  | 0, x, y => by simp
  | k + 1, x, y => by
    have a := kbt_halves x (y * 2 ^ (k + 1))
    have e1 : y * 2 ^ (k + 1) = 2 * (y * 2 ^ k) := by rw [p2s, Int.mul_left_comm]
    have e2 : y * 2 ^ (k + 1) / 2 = y * 2 ^ k := by rw [e1]; omega
    have e3 : y * 2 ^ (k + 1) % 2 = 0 := by rw [e1]; omega
    have e4 : x / 2 ^ (k + 1) = x / 2 / 2 ^ k := by rw [p2s, Int.ediv_ediv_of_nonneg (by decide)]
    have e5 : Builtin.bitAnd (x / 2 / 2 ^ k) y * 2 ^ (k + 1) = 2 * (Builtin.bitAnd (x / 2 / 2 ^ k) y * 2 ^ k) := by rw [p2s, Int.mul_left_comm]
    rw [e2, e3, band_sh k (x / 2) y] at a
    rw [a, e4, e5]
    have : ¬ (x % 2 = 1 ∧ (0 : Int) = 1) := by omega
    rw [if_neg this]; omega
theorem band_lo : ∀ (k : Nat) (x y : Int), x % 2 ^ k = 0 → 0 ≤ y → y < 2 ^ k → Builtin.bitAnd x y = 0
  | 0, x, y, _, h1, h2 => by
    have : y = 0 := by simp at h2; omega
    subst this; rw [bitAnd_comm, band_zero]
  | k + 1, x, y, h0, h1, h2 => by
    have a := kbt_halves x y
    have hp := kbt_pos k
    rw [p2s] at h0 h2
    have hx : x % 2 = 0 := by
      have := Int.emod_emod_of_dvd x (Int.dvd_mul_right 2 (2 ^ k)); rw [h0] at this; omega
    have hx2 : x / 2 % 2 ^ k = 0 := by
      have d : 2 * 2 ^ k ∣ x := Int.dvd_of_emod_eq_zero h0
      obtain ⟨c, rfl⟩ := d
      rw [Int.mul_assoc, Int.mul_ediv_cancel_left _ (by decide)]
      exact Int.mul_emod_right _ _
    rw [band_lo k (x / 2) (y / 2) hx2 (by omega) (by omega)] at a
    have : ¬ (x % 2 = 1 ∧ y % 2 = 1) := by omega
    rw [if_neg this] at a; omega
/-- a field that is empty takes a number's bits -/
theorem setf {w x : Int} {many pos : Nat} (h : 0 ≤ w) (hz : w / 2 ^ pos % 2 ^ many = 0) : Builtin.bitOr (Builtin.bitAnd w (Builtin.bitNot ((2 ^ many - 1) * 2 ^ pos))) (Builtin.bitAnd x (2 ^ many - 1) * 2 ^ pos) = w + x % 2 ^ many * 2 ^ pos := by
  have hm := kbt_pos many
  rw [band_not h, band_sh, kbt_mask, kbt_mask, hz, Int.zero_mul, Int.sub_zero, bitOr_and, band_sh, band_lo many _ _ hz (Int.emod_nonneg _ (by omega)) (Int.emod_lt_of_pos _ hm)]
  omega
/-- bits put beside -/
theorem bor_add {w x : Int} {pos : Nat} (h : 0 ≤ w) (hw : w < 2 ^ pos) : Builtin.bitOr w (x * 2 ^ pos) = w + x * 2 ^ pos := by
  have e : w / 2 ^ pos = 0 := Int.ediv_eq_zero_of_lt h hw
  rw [bitOr_and, band_sh, e, band_zero]; omega
/-! letting go of plain lists -/
@[simp] def isObj : T → Bool | .obj _ => true | _ => false
theorem frz_no {n : Nat} {h : AH} {t : T} (ht : isObj t = false) : frz n h t = (t, h) := by
  cases n with
  | zero => rfl
  | succ n => cases t <;> first | rfl | cases ht
theorem frzL_no {n : Nat} {h : AH} : ∀ {l : List T}, (∀ t ∈ l, isObj t = false) → frzL (frz n) h l = (l, h)
  | [], _ => rfl
  | t :: ts, hl => by
    have e := frz_no (n := n) (h := h) (hl t List.mem_cons_self)
    have r := frzL_no (n := n) (h := h) (l := ts) fun t ht => hl t (List.mem_cons_of_mem _ ht)
    unfold frzL
    rw [e]
    dsimp only
    rw [r]
theorem frz_lst {h : AH} {i : Nat} {l : List T} (hi : h[i]? = some (some (.lst l))) (hl : ∀ t ∈ l, isObj t = false) : frz 8 h (.obj i) = (.lst l, h.set i none) := by
  show frz (7 + 1) h (.obj i) = _
  unfold frz
  dsimp only
  rw [hi]
  dsimp only
  rw [frzL_no hl]
/-- a for that appends -/
theorem for_app {α : Type} {b : FS} {a : FG} {g enc : α → T} {τ0 : Option T → LS} {p : Nat} (hb : ∀ (x : α) (l : List T) (h : AH), h[p]? = some (some (.lst l)) → l.length < sizeLine → b (τ0 (some (enc x))) h = .ok (.nx (τ0 (some (enc x)))) (h.set p (some (.lst (l ++ [g x])))))
    (ha : ∀ x v, a x (τ0 v) = some (τ0 (some x))) : ∀ (xs : List α) (v : Option T) (l : List T) (h : AH), h[p]? = some (some (.lst l)) → l.length + xs.length ≤ sizeLine → ∃ v', sForL a b (xs.map enc) (τ0 v) h = .ok (.nx (τ0 v')) (h.set p (some (.lst (l ++ xs.map g))))
  | [], v, l, h, hp, _ => ⟨v, by
    have : h.set p (some (.lst l)) = h := by
      apply List.ext_getElem?
      intro j
      by_cases z : p = j
      · subst z; rw [List.getElem?_set_self (List.getElem?_eq_some_iff.mp hp).1, hp]
      · rw [List.getElem?_set_ne z]
    rw [List.map_nil, List.map_nil, List.append_nil, this]; rfl⟩
  | x :: xs, v, l, h, hp, hn => by
    rw [List.length_cons] at hn
    obtain ⟨v', e⟩ := for_app hb ha xs (some (enc x)) (l ++ [g x]) (h.set p (some (.lst (l ++ [g x])))) (List.getElem?_set_self (List.getElem?_eq_some_iff.mp hp).1) (by rw [List.length_append, List.length_singleton]; omega)
    refine ⟨v', ?_⟩
    rw [List.map_cons, for_nx (ha _ _) (hb x l h hp (by omega)), e, List.set_set, List.append_assoc]
    rfl
theorem get_new {h : AH} {o : Option O} : (h ++ [o])[h.length]? = some o := by simp
theorem set_new {h : AH} {o o' : Option O} : (h ++ [o]).set h.length o' = h ++ [o'] := by simp
/-! texts of the program are compared as texts of Lean -/
theorem map_inj {α β : Type} {f : α → β} (hf : ∀ a b, f a = f b → a = b) : ∀ {l m : List α}, l.map f = m.map f → l = m
  | [], [], _ => rfl
  | [], _ :: _, h => by cases h
  | _ :: _, [], h => by cases h
  | a :: l, b :: m, h => by
    simp only [List.map_cons, List.cons.injEq] at h
    rw [hf a b h.1, map_inj hf h.2]
@[simp] theorem str_inj {a b : String} : Str.ofString a = Str.ofString b ↔ a = b := ⟨fun h => by
  rw [Str.ofString_eq_toList, Str.ofString_eq_toList] at h
  have h : (a.toList.map Char.toNat).toArray = (b.toList.map Char.toNat).toArray := congrArg Str.cps h
  have h := congrArg Array.toList h
  simp only [List.toList_toArray] at h
  have := map_inj (fun x y e => Char.ext (UInt32.toNat_inj.mp e)) h
  rw [← String.ofList_toList (s := a), this, String.ofList_toList], fun h => by rw [h]⟩
end M
/-! ### for k, v in D.items(), D a dict of the module -/
namespace M
open PySem PySem.Spec PyProof.Rows L2 PySem.W
/-- the items of a dict of the module, in their order -/
def ItiK (kvs : List (V × V)) : It :=
  ⟨fun i _ => i < kvs.length, fun i H x H' => ∃ (T : Addr) (k v : V), kvs[i]? = some (k, v) ∧ x = .ref T ∧ H T = none ∧ H' = upd H T (.tup [k, v]), fun i _ => kvs.length ≤ i⟩
def EsRel (es : Array DictEntry) (kvs : List (V × V)) : Prop := es.size = kvs.length ∧ ∀ (i : Nat) (hi : i < es.size) (k v : V), kvs[i]? = some (k, v) → RelV k es[i].key ∧ RelV v es[i].val
def KItems (K : PySem.W.Frag) (d : Addr) (kvs : List (V × V)) : Prop := ∃ es n, K.lookup d = some ⟨.type "dict", none, .dict es n, #[]⟩ ∧ (d == sysModules) = false ∧ EsRel es kvs
def iItemsK (K : PySem.W.Frag) (td : TE) : TI := fun σ H R => td σ H fun x H1 => ∃ d kvs, x = .ref d ∧ KItems K d kvs ∧ R (ItiK kvs) H1
theorem turn_itemsK {P : Program} {w : World} {K : PySem.W.Frag} {d : Addr} {es : Array DictEntry} {n : Nat} {elts : List Expr} {kk : Nat} {tpos : Pos} (hl : K.lookup d = some ⟨.type "dict", none, .dict es n, #[]⟩) {kvs : List (V × V)} (hv : EsRel es kvs) (it : Addr) :
    Turn P w K (.Tuple elts kk tpos) (ItiK kvs) [it] it (fun i h => ∃ ok ov, IsItemIter h it d i es.size n ok ov) where
  mem := by simp
  obj := fun i h st b hb => by
    have e : b = it := by simpa using hb
    subst e
    obtain ⟨ok, ov, e⟩ := st
    exact ⟨_, e, fun v z => nomatch z⟩
  keep := fun i h h' st k => let ⟨ok, ov, e⟩ := st; ⟨ok, ov, k it (by simp) _ e⟩
  item := by
    intro X hP hw hK hc i pins s σ H E I hf st hg
    subst hP hw hK
    have hi' : i < kvs.length := hg
    have hi : i < es.size := by rw [hv.1]; exact hi'
    obtain ⟨⟨k, v⟩, hkv⟩ : ∃ p, kvs[i]? = some p := ⟨kvs[i], List.getElem?_eq_getElem hi'⟩
    obtain ⟨rk, rv⟩ := hv.2 i hi k v hkv
    obtain ⟨ok, ov, he⟩ := st
    have hlt : it < s.heap.objs.size := Heap.lt_size he
    have hm : s.heap.DictRaw d es n := ⟨_, I.kIn _ _ hl, ⟨rfl, rfl, rfl⟩, rfl⟩
    refine wpAny_pyNext_items_item_raw he hm hi fun h' ho hT hz hk => ?_
    refine ⟨_, rfl, wpAny_letOwnedTupleGo_items (s := { s with heap := h' }) ho fun h'' he' sb => ?_⟩
    have hT2 : h''.get? s.heap.objs.size = some { cls := .type "tuple", data := .seq #[es[i].key, es[i].val] } := (sb.2 _ (Nat.ne_of_gt hlt)).trans hT
    have new : ObjOk X.prog X.w (upd H s.heap.objs.size (.tup [k, v])) h'' s.heap.objs.size (.tup [k, v]) :=
      ⟨by show 2 ≤ sizeLine; decide, [es[i].key, es[i].val], .cons rk (.cons rv .nil), ⟨_, hT2, rfl, _, rfl⟩⟩
    have I1 : Inv X pins σ (upd H s.heap.objs.size (.tup [k, v])) { s with heap := h'' } :=
      I.turnedNew (t' := s.toks) (ch := [it]) (fun b ob hb e => (sb.2 b (by simpa using hb)).trans (hk b ob (by simpa using hb) e)) hf (Nat.le_refl _) new
    refine ⟨.ref s.heap.objs.size, _, I1, rfl, ⟨_, k, v, hkv, rfl, I.hok.fresh (Nat.le_refl _), rfl⟩, ⟨es[i].key, es[i].val, he'⟩, fun b hb => ?_⟩
    have e : b = it := by simpa using hb
    rw [e, upd_ne (Nat.ne_of_lt hlt)]
    exact (hf it (by simp)).1
  done := by
    intro X hP hw hK hc i pins s σ H E I hf st hg
    subst hP hw hK
    obtain ⟨f0, f1, f2, f3, f4, f5⟩ := hf it (by simp)
    obtain ⟨ok, ov, he⟩ := st
    have hm : s.heap.DictRaw d es n := ⟨_, I.kIn _ _ hl, ⟨rfl, rfl, rfl⟩, rfl⟩
    exact wpAny_pyNext_items_end_raw (I.ok.hd hc) he hm (by rw [hv.1]; exact hg) fun h' eb => ⟨rfl, I.turned (t' := s.toks) (fun b ob hb e => eb b ob hb e) f0 f1 f3 f4 f5⟩
  self := fun A i s Q E st h => let ⟨_, _, e⟩ := st; PySem.W.kcp_self e h
theorem pi_itemsK {X : Cx} {e : Expr} {td : TE} {apos cpos : Pos} {elts : List Expr} {kk : Nat} {tpos : Pos} (he : PE X e td) (hbase : attributeBase e "items" X.env (eval e X.env) = eval e X.env := by rfl) (hline : (apos.endLine == cpos.line) = true := by rfl) :
    PI X (.Tuple elts kk tpos) (.Call (.Attribute e "items" apos) [] [] cpos) (iItemsK X.K td) := by
  refine ⟨fun pins s σ H R I h => ?_⟩
  refine wpAny_Call_method (T := "dict") (id := "dict.items") hbase rfl hline F.plainAttrs_dict F.slot_dict_items F.type_dict_items (thn (he.run pins s σ H _ I h) fun u s1 ⟨x, H1, I1, rx, d, kvs, ex, ⟨es, n, hl, hs, hv⟩, q⟩ => ?_)
  subst ex
  obtain rfl : u = Value.ref d := rx
  have hm : s1.heap.DictRaw d es n := ⟨_, I1.kIn _ _ hl, ⟨rfl, rfl, rfl⟩, rfl⟩
  have hT : s1.TypeIs (.ref d) "dict" := ⟨_, I1.kIn _ _ hl, rfl⟩
  refine ⟨hT, fun a ea => by cases ea; exact ⟨_, I1.kIn _ _ hl, rfl⟩, ?_⟩
  have I2 : Inv X pins σ H1 { s1 with heap := s1.heap.push { cls := .type "dict_items", data := .fields #[.ref d] } } := I1.kept (t' := s1.toks) fun b ob q => Heap.get?_push_of_some _ q
  have hm2 : ({ s1 with heap := s1.heap.push { cls := .type "dict_items", data := .fields #[.ref d] } } : Shared).heap.DictRaw d es n := ⟨_, I2.kIn _ _ hl, ⟨rfl, rfl, rfl⟩, rfl⟩
  have fin : wpAny (model X.prog X.w) X.A (pyIter (.ref s1.heap.objs.size)) (PIE X pins σ (.Tuple elts kk tpos) R) X.xe { s1 with heap := s1.heap.push { cls := .type "dict_items", data := .fields #[.ref d] } } := by
    refine wpAny_pyIter_items_raw (d := d) ⟨_, Heap.get?_push_size _ rfl, rfl, rfl⟩ hm2 (pi_one (tk := s1.toks) I2 _ (turn_itemsK hl hv _) ⟨.none, .none, ?_⟩ q)
    exact Heap.get?_push_size _ rfl
  show wpAny _ _ (callWith cpos (.builtin "dict.items") [.ref d] [] []) _ X.xe s1
  exact method_meetsIn F.slot_dict_items F.entry_dict_items rfl (PySem.evalArgs_none ⟨rfl, hT, F.args_dict_items_1 _, _, meets_dict_items_raw d hs, ⟨es, n, hm⟩, fin⟩)
variable {G : Env} {E : L2.St → XK} {S : Sta}
/-- all rows of a dict of the module, in their order -/
def KAll (G : Env) (d : Addr) (rows : List (Str × T)) : Prop := ∃ kvs, KItems G.K d kvs ∧ kvs.length = rows.length ∧ ∀ (i : Nat) (r : Str × T), rows[i]? = some r → ∃ v, kvs[i]? = some (.str r.1, v) ∧ ∀ S, S.G = G → Rv S r.2 v
@[simp] def iItmM (n : Str) (rows : List (Str × T)) (fe : FE) : FA := fun τ h => (fe τ h).bind fun x h1 => match x with | .ref m => if m = n then .ok (rows.map fun r => .tup [.str r.1, r.2]) h1 else .bad | _ => .bad
theorem sim_itemsK {n : Str} {d : Addr} {rows : List (Str × T)} {te : TE} {fe : FE} (hd : G.fa n = .ref d) (hk : KAll G d rows) (he : SimE G E te fe) : SimI G E (iItemsK G.K te) (iItmM n rows fe) := fun S σ τ R e k rs p => by
  refine he S σ τ _ e k rs (PostG.imp (fun x S1 q u ru => ?_) (PostG.bind p))
  obtain ⟨k1, s1, q⟩ := q
  have e1 := s1.G.trans e
  split at q
  · split at q
    · rename_i hm
      subst hm
      simp only [Rv] at ru
      rw [e1, hd] at ru
      subst ru
      obtain ⟨kvs, hki, hlen, hr⟩ := hk
      refine ⟨d, kvs, rfl, hki, q S1 rfl k1 (Step.refl S1) _ fun S2 st k i => ?_⟩
      have e2 : S2.G = G := st.G.trans e1
      refine ⟨fun t ht => ?_, fun h => by rw [List.length_map] at h; show kvs.length ≤ i; rw [hlen]; exact h⟩
      rw [List.getElem?_map] at ht
      obtain ⟨r, hri, rfl⟩ := Option.map_eq_some_iff.mp ht
      obtain ⟨v, hv, rv⟩ := hr i r hri
      refine ⟨(List.getElem?_eq_some_iff.mp hv).1, fun z H' hy => ?_⟩
      obtain ⟨T0, k', v', hkv, rfl, hn, rfl⟩ := hy
      rw [hv] at hkv; cases hkv
      exact new_pair k hn (by simp only [Rv]) (rv S2 e2)
    · exact q.elim
  · exact q.elim
def EsR : List DictEntry → List (V × V) → Prop
  | [], [] => True
  | e :: es, kv :: kvs => (RelV kv.1 e.key ∧ RelV kv.2 e.val) ∧ EsR es kvs
  | _, _ => False
def RwR (G : Env) : List (Str × T) → List (V × V) → Prop
  | [], [] => True
  | r :: rs, kv :: kvs => (kv.1 = .str r.1 ∧ ∀ S, S.G = G → Rv S r.2 kv.2) ∧ RwR G rs kvs
  | _, _ => False
theorem esR_get : ∀ {es : List DictEntry} {kvs : List (V × V)}, EsR es kvs → es.length = kvs.length ∧ ∀ (i : Nat) (e : DictEntry) (kv : V × V), es[i]? = some e → kvs[i]? = some kv → RelV kv.1 e.key ∧ RelV kv.2 e.val
  | [], [], _ => ⟨rfl, fun i e kv h _ => by cases h⟩
  | e :: es, kv :: kvs, h => by
    obtain ⟨h1, h2⟩ := h
    obtain ⟨l, r⟩ := esR_get h2
    refine ⟨by rw [List.length_cons, List.length_cons, l], fun i e' kv' he hk => ?_⟩
    cases i with
    | zero => cases he; cases hk; exact h1
    | succ i => exact r i e' kv' he hk
  | [], _ :: _, h => h.elim
  | _ :: _, [], h => h.elim
theorem rwR_get {G : Env} : ∀ {rs : List (Str × T)} {kvs : List (V × V)}, RwR G rs kvs → kvs.length = rs.length ∧ ∀ (i : Nat) (r : Str × T), rs[i]? = some r → ∃ v, kvs[i]? = some (.str r.1, v) ∧ ∀ S, S.G = G → Rv S r.2 v
  | [], [], _ => ⟨rfl, fun i r h => by cases h⟩
  | r :: rs, (k, v) :: kvs, h => by
    obtain ⟨⟨h0, h1⟩, h2⟩ := h
    obtain ⟨l, q⟩ := rwR_get h2
    refine ⟨by rw [List.length_cons, List.length_cons, l], fun i r' hr => ?_⟩
    cases i with
    | zero => cases hr; exact ⟨v, by dsimp only at h0; rw [h0]; rfl, h1⟩
    | succ i => exact q i r' hr
  | [], _ :: _, h => h.elim
  | _ :: _, [], h => h.elim
theorem kall_of {d : Addr} {es : Array DictEntry} {n : Nat} {kvs : List (V × V)} {rows : List (Str × T)} (hl : G.K.lookup d = some ⟨.type "dict", none, .dict es n, #[]⟩) (hs : (d == sysModules) = false) (he : EsR es.toList kvs) (hr : RwR G rows kvs) : KAll G d rows := by
  obtain ⟨l, q⟩ := esR_get he
  refine ⟨kvs, ⟨es, n, hl, hs, by rw [← l, Array.length_toList], fun i hi k v hk => ?_⟩, (rwR_get hr).1, (rwR_get hr).2⟩
  exact q i es[i] (k, v) (by rw [Array.getElem?_toList]; exact Array.getElem?_eq_getElem hi) hk
theorem x_itemsK {X : Cx} {K : PySem.W.Frag} (h : X.K = K) {e : Expr} {td : TE} {apos cpos : Pos} {elts : List Expr} {kk : Nat} {tpos : Pos} (he : PE X e td) (hbase : attributeBase e "items" X.env (eval e X.env) = eval e X.env := by rfl) (hline : (apos.endLine == cpos.line) = true := by rfl) :
    PI X (.Tuple elts kk tpos) (.Call (.Attribute e "items" apos) [] [] cpos) (iItemsK K td) := h ▸ pi_itemsK he hbase hline
end M
/-! ### bits taken out of a word -/
namespace M
open PySem PySem.Spec PyProof.Rows L2 PySem.W
/-- an empty field takes bits -/
theorem bor_fld {w x : Int} {many pos : Nat} (h : 0 ≤ w) (x0 : 0 ≤ x) (x1 : x < 2 ^ many) (hz : w / 2 ^ pos % 2 ^ many = 0) : Builtin.bitOr w (x * 2 ^ pos) = w + x * 2 ^ pos := by
  have := setf (x := x) h hz
  rw [band_not h, band_sh, kbt_mask, kbt_mask, hz, Int.zero_mul, Int.sub_zero, Int.emod_eq_of_lt x0 x1] at this
  exact this
theorem emod_2 (x : Int) {m : Int} (hm : 0 < m) : x % (2 * m) = 2 * (x / 2 % m) + x % 2 := by
  have e := Int.mul_ediv_add_emod (x / 2) m
  have h0 := Int.emod_nonneg (x / 2) (by omega : m ≠ 0)
  have h1 := Int.emod_lt_of_pos (x / 2) hm
  refine (kbt_unique (b := 2 * m) (q := x / 2 / m) (by omega) ?_ (by omega) (by omega)).2
  rw [Int.mul_assoc]; omega
theorem band_cat : ∀ (k : Nat) (w a b : Int), 0 ≤ a → a < 2 ^ k → Builtin.bitAnd w (a + b * 2 ^ k) = Builtin.bitAnd w a + Builtin.bitAnd (w / 2 ^ k) b * 2 ^ k
  | 0, w, a, b, h0, h1 => by
    have : a = 0 := by simp at h1; omega
    subst this
    have := bitAnd_comm w 0
    simp [this, band_zero]
  | k + 1, w, a, b, h0, h1 => by
    rw [p2s] at h1
    have x := kbt_halves w (a + b * 2 ^ (k + 1))
    have y := kbt_halves w a
    have e1 : b * 2 ^ (k + 1) = 2 * (b * 2 ^ k) := by rw [p2s, Int.mul_left_comm]
    have e2 : (a + b * 2 ^ (k + 1)) / 2 = a / 2 + b * 2 ^ k := by rw [e1]; omega
    have e3 : (a + b * 2 ^ (k + 1)) % 2 = a % 2 := by rw [e1]; omega
    have e4 : w / 2 ^ (k + 1) = w / 2 / 2 ^ k := by rw [p2s, Int.ediv_ediv_of_nonneg (by decide)]
    have e5 : Builtin.bitAnd (w / 2 / 2 ^ k) b * 2 ^ (k + 1) = 2 * (Builtin.bitAnd (w / 2 / 2 ^ k) b * 2 ^ k) := by rw [p2s, Int.mul_left_comm]
    rw [e2, e3, band_cat k (w / 2) (a / 2) b (by omega) (by omega)] at x
    rw [e4, e5]
    omega
theorem bxor_half (x y : Int) : Builtin.bitXor x y = 2 * Builtin.bitXor (x / 2) (y / 2) + (if x % 2 = y % 2 then 0 else 1) := by
  have a := kbt_halves x y
  have e : ∀ x y, Builtin.bitXor x y = Builtin.bitOr x y - Builtin.bitAnd x y := fun _ _ => rfl
  rw [e, e, bitOr_and, bitOr_and]
  by_cases z : x % 2 = y % 2
  · rw [if_pos z]
    by_cases q : x % 2 = 1 ∧ y % 2 = 1
    · rw [if_pos q] at a; omega
    · rw [if_neg q] at a; omega
  · rw [if_neg z]
    rw [if_neg (by omega)] at a; omega
theorem bxor_low : ∀ (k : Nat) (x y : Int), Builtin.bitXor x y % 2 ^ k = 0 ↔ x % 2 ^ k = y % 2 ^ k
  | 0, x, y => by simp
  | k + 1, x, y => by
    have hp := kbt_pos k
    have a := bxor_half x y
    have ih := bxor_low k (x / 2) (y / 2)
    rw [p2s, emod_2 _ hp, emod_2 x hp, emod_2 y hp]
    have q0 := Int.emod_nonneg (Builtin.bitXor x y / 2) (by omega : (2 : Int) ^ k ≠ 0)
    have q1 := Int.emod_nonneg (x / 2) (by omega : (2 : Int) ^ k ≠ 0)
    have q2 := Int.emod_nonneg (y / 2) (by omega : (2 : Int) ^ k ≠ 0)
    by_cases z : x % 2 = y % 2
    · rw [if_pos z] at a
      have e : Builtin.bitXor x y / 2 = Builtin.bitXor (x / 2) (y / 2) := by omega
      rw [e] at q0 ⊢
      constructor
      · intro h
        have := ih.mp (by omega); omega
      · intro h
        have := ih.mpr (by omega); omega
    · rw [if_neg z] at a
      constructor <;> intro h <;> omega
/-- the masks of the words' fixed bits -/
theorem band_1 {w : Int} : Builtin.bitAnd w 127 = w % 128 := kbt_mask w 7
theorem band_2 {w : Int} : Builtin.bitAnd w 28799 = w % 128 + w / 4096 % 8 * 4096 := by
  have := band_cat 12 w 127 7 (by decide) (by decide)
  have q : Builtin.bitAnd (w / 4096) 7 = w / 4096 % 8 := kbt_mask _ 3
  rw [band_1] at this
  rw [← q]; exact this
theorem band_3 {w : Int} : Builtin.bitAnd w 4261441663 = w % 128 + w / 4096 % 8 * 4096 + w / 33554432 % 128 * 33554432 := by
  have := band_cat 25 w 28799 127 (by decide) (by decide)
  rw [band_2] at this
  have q : Builtin.bitAnd (w / 33554432) 127 = w / 33554432 % 128 := band_1
  rw [← q]; exact this
theorem band_4 {w : Int} (h0 : 0 ≤ w) (h1 : w < 4294967296) : Builtin.bitAnd w 4294967295 = w := (kbt_mask w 32).trans (Int.emod_eq_of_lt h0 h1)
theorem bxor_7 {w op : Int} : (Builtin.bitAnd (Builtin.bitXor w op) 127 = 0) ↔ w % 128 = op % 128 := by
  rw [band_1]; exact bxor_low 7 w op
/-- a digit, named -/
theorem dig (v : Int) (s m : Nat) : ∃ d, v / 2 ^ s % 2 ^ m = d ∧ 0 ≤ d ∧ d < 2 ^ m := by
  have p := kbt_pos m
  exact ⟨_, rfl, Int.emod_nonneg _ (by omega), Int.emod_lt_of_pos _ p⟩
/-- a number that is small enough to be multiplied -/
theorem mul_lt {x : Int} {n : Nat} (h0 : -4294967296 ≤ x) (h1 : x ≤ 4294967296) (hn : n < 18446744073709551616) : x.natAbs.log2 + n.log2 < 1000000 := by
  have a : x.natAbs.log2 < 100 := by
    by_cases z : x.natAbs = 0
    · rw [z]; decide
    · exact (Nat.log2_lt z).mpr (by omega)
  have b : n.log2 < 100 := by
    by_cases z : n = 0
    · rw [z]; decide
    · exact (Nat.log2_lt z).mpr (by omega)
  omega
theorem mul_d {d : Int} {k n : Nat} (l : 0 ≤ d) (u : d < 2 ^ k) (hk : k ≤ 32) (hn : n < 18446744073709551616) : d.natAbs.log2 + n.log2 < 1000000 := by
  have p2 : (2 : Nat) ^ k ≤ 2 ^ 32 := Nat.pow_le_pow_right (by decide) hk
  have p3 := kbt_cast k
  have : (2 : Nat) ^ 32 = 4294967296 := by decide
  exact mul_lt (by omega) (by omega) hn
/-- written divisors are small -/
theorem lgs : Nat.log2 2 < 9000 ∧ Nat.log2 3 < 9000 ∧ Nat.log2 4 < 9000 ∧ Nat.log2 5 < 9000 ∧ Nat.log2 6 < 9000 ∧ Nat.log2 7 < 9000 ∧ Nat.log2 8 < 9000 ∧ Nat.log2 9 < 9000 ∧ Nat.log2 10 < 9000 ∧ Nat.log2 11 < 9000 ∧ Nat.log2 12 < 9000 ∧ Nat.log2 13 < 9000 ∧ Nat.log2 14 < 9000 ∧ Nat.log2 15 < 9000 ∧ Nat.log2 16 < 9000 ∧ Nat.log2 17 < 9000 ∧ Nat.log2 18 < 9000 ∧ Nat.log2 19 < 9000 ∧ Nat.log2 20 < 9000 ∧ Nat.log2 21 < 9000 ∧ Nat.log2 22 < 9000 ∧ Nat.log2 23 < 9000 ∧ Nat.log2 24 < 9000 ∧ Nat.log2 25 < 9000 ∧ Nat.log2 26 < 9000 ∧ Nat.log2 27 < 9000 ∧ Nat.log2 28 < 9000 ∧ Nat.log2 29 < 9000 ∧ Nat.log2 30 < 9000 ∧ Nat.log2 31 < 9000 ∧ Nat.log2 32 < 9000 ∧ Nat.log2 33 < 9000 ∧ Nat.log2 34 < 9000 ∧ Nat.log2 35 < 9000 ∧ Nat.log2 36 < 9000 ∧ Nat.log2 37 < 9000 ∧ Nat.log2 38 < 9000 ∧ Nat.log2 39 < 9000 ∧ Nat.log2 40 < 9000 ∧ Nat.log2 41 < 9000 ∧ Nat.log2 42 < 9000 ∧ Nat.log2 43 < 9000 ∧ Nat.log2 44 < 9000 ∧ Nat.log2 45 < 9000 ∧ Nat.log2 46 < 9000 ∧ Nat.log2 47 < 9000 ∧ Nat.log2 48 < 9000 ∧ Nat.log2 49 < 9000 ∧ Nat.log2 50 < 9000 ∧ Nat.log2 51 < 9000 ∧ Nat.log2 52 < 9000 ∧ Nat.log2 53 < 9000 ∧ Nat.log2 54 < 9000 ∧ Nat.log2 55 < 9000 ∧ Nat.log2 56 < 9000 ∧ Nat.log2 57 < 9000 ∧ Nat.log2 58 < 9000 ∧ Nat.log2 59 < 9000 ∧ Nat.log2 60 < 9000 ∧ Nat.log2 61 < 9000 ∧ Nat.log2 62 < 9000 ∧ Nat.log2 63 < 9000 ∧ Nat.log2 64 < 9000 ∧ Nat.log2 100 < 9000 ∧ Nat.log2 127 < 9000 ∧ Nat.log2 128 < 9000 ∧ Nat.log2 255 < 9000 ∧ Nat.log2 256 < 9000 ∧ Nat.log2 512 < 9000 ∧ Nat.log2 1000 < 9000 ∧ Nat.log2 1001 < 9000 ∧ Nat.log2 1024 < 9000 ∧ Nat.log2 2048 < 9000 ∧ Nat.log2 4096 < 9000 ∧ Nat.log2 8192 < 9000 ∧ Nat.log2 16384 < 9000 ∧ Nat.log2 32768 < 9000 ∧ Nat.log2 65536 < 9000 ∧ Nat.log2 131072 < 9000 ∧ Nat.log2 1048576 < 9000 ∧ Nat.log2 2097152 < 9000 ∧ Nat.log2 33554432 < 9000 ∧ Nat.log2 2147483648 < 9000 ∧ Nat.log2 4294967296 < 9000 ∧ Nat.log2 4294967295 < 9000 ∧ Nat.log2 2199023255551 < 9000 := ⟨by decide, by decide, by decide, by decide, by decide, by decide, by decide, by decide, by decide, by decide, by decide, by decide, by decide, by decide, by decide, by decide, by decide, by decide, by decide, by decide, by decide, by decide, by decide, by decide, by decide, by decide, by decide, by decide, by decide, by decide, by decide, by decide, by decide, by decide, by decide, by decide, by decide, by decide, by decide, by decide, by decide, by decide, by decide, by decide, by decide, by decide, by decide, by decide, by decide, by decide, by decide, by decide, by decide, by decide, by decide, by decide, by decide, by decide, by decide, by decide, by decide, by decide, by decide, by decide, by decide, by decide, by decide, by decide, by decide, by decide, by decide, by decide, by decide, by decide, by decide, by decide, by decide, by decide, by decide, by decide, by decide, by decide, by decide, by decide, by decide, by decide⟩
/-- a signed field -/
def sg (s n : Int) : Int := if n < s / 2 then n else n - s
theorem sg_of {n n' lo hi s : Int} (e : n = n') (hl : 2 * lo = -s) (hh : n' ≤ hi ↔ n' < s / 2) : (if n ≤ hi then n else n + 2 * lo) = sg s n' := by
  subst e
  unfold sg
  by_cases z : n ≤ hi
  · rw [if_pos z, if_pos (hh.mp z)]
  · rw [if_neg z, if_neg (fun q => z (hh.mpr q)), hl]; rfl
theorem sg_no {n n' lo hi : Int} (e : n = n') (hh : n' ≤ hi) : (if n ≤ hi then n else n + 2 * lo) = n' := by
  subst e; exact if_pos hh
theorem sg_inv {s v n : Int} (hn : n = v % s) (hs : 0 < s) (h2 : s % 2 = 0) (h0 : -(s / 2) ≤ v) (h1 : v < s / 2) : sg s n = v := by
  subst hn
  unfold sg
  by_cases z : 0 ≤ v
  · have : v % s = v := Int.emod_eq_of_lt z (by omega)
    rw [this, if_pos h1]
  · have : v % s = v + s := by
      rw [← Int.add_emod_right]; exact Int.emod_eq_of_lt (by omega) (by omega)
    rw [this, if_neg (by omega)]; omega
/-! comprehensions that only read -/
theorem lc_pure {α : Type} {a : FG} {tt : FT} {fe : FE} {τ : LS} {enc g : α → T} {h : AH} : ∀ (l : List α) (n : Nat), n + l.length ≤ sizeLine → (∀ x ∈ l, ∃ τ', a (enc x) τ = some τ' ∧ tt τ' h = .ok true h ∧ fe τ' h = .ok (g x) h) → mLcL a tt fe τ n (l.map enc) h = .ok (l.map g) h
  | [], _, _, _ => rfl
  | x :: l, n, hn, ha => by
    rw [List.length_cons] at hn
    obtain ⟨τ', e1, e2, e3⟩ := ha x List.mem_cons_self
    have ih := lc_pure (a := a) (tt := tt) (fe := fe) (τ := τ) (enc := enc) (g := g) (h := h) l (n + 1) (by omega) fun x hx => ha x (List.mem_cons_of_mem _ hx)
    have hn' : n < sizeLine := by omega
    rw [List.map_cons, List.map_cons]
    unfold mLcL
    rw [e1]
    simp [e2, e3, hn', ih]
theorem lc_some {α : Type} {a : FG} {tt : FT} {fe : FE} {τ : LS} {enc g : α → T} {q : α → Bool} {h : AH} : ∀ (l : List α) (n : Nat), n + l.length ≤ sizeLine → (∀ x ∈ l, ∃ τ', a (enc x) τ = some τ' ∧ tt τ' h = .ok (q x) h ∧ (q x = true → fe τ' h = .ok (g x) h)) → mLcL a tt fe τ n (l.map enc) h = .ok ((l.filter q).map g) h
  | [], _, _, _ => rfl
  | x :: l, n, hn, ha => by
    rw [List.length_cons] at hn
    obtain ⟨τ', e1, e2, e3⟩ := ha x List.mem_cons_self
    have ih := fun m hm => lc_some (a := a) (tt := tt) (fe := fe) (τ := τ) (enc := enc) (g := g) (q := q) (h := h) l m hm fun x hx => ha x (List.mem_cons_of_mem _ hx)
    have hn' : n < sizeLine := by omega
    rw [List.map_cons]
    unfold mLcL
    rw [e1]
    cases z : q x with
    | true => rw [List.filter_cons_of_pos (by rw [z])]; simp [e2, z, e3 z, hn', ih (n + 1) (by omega)]
    | false => rw [List.filter_cons_of_neg (by rw [z]; simp)]; simp [e2, z, ih n (by omega)]
end M
/-! isinstance of built-in types: decided once -/
namespace M
open PySem PySem.Spec PyProof.Rows L2
@[simp] theorem kit_int_int : kitB "int" "int" = some true := by decide +kernel
@[simp] theorem kit_int_bool : kitB "int" "bool" = some false := by decide +kernel
@[simp] theorem kit_int_str : kitB "int" "str" = some false := by decide +kernel
@[simp] theorem kit_int_tuple : kitB "int" "tuple" = some false := by decide +kernel
@[simp] theorem kit_int_list : kitB "int" "list" = some false := by decide +kernel
@[simp] theorem kit_int_dict : kitB "int" "dict" = some false := by decide +kernel
@[simp] theorem kit_bool_int : kitB "bool" "int" = some true := by decide +kernel
@[simp] theorem kit_bool_bool : kitB "bool" "bool" = some true := by decide +kernel
@[simp] theorem kit_bool_str : kitB "bool" "str" = some false := by decide +kernel
@[simp] theorem kit_bool_tuple : kitB "bool" "tuple" = some false := by decide +kernel
@[simp] theorem kit_bool_list : kitB "bool" "list" = some false := by decide +kernel
@[simp] theorem kit_bool_dict : kitB "bool" "dict" = some false := by decide +kernel
@[simp] theorem kit_str_int : kitB "str" "int" = some false := by decide +kernel
@[simp] theorem kit_str_bool : kitB "str" "bool" = some false := by decide +kernel
@[simp] theorem kit_str_str : kitB "str" "str" = some true := by decide +kernel
@[simp] theorem kit_str_tuple : kitB "str" "tuple" = some false := by decide +kernel
@[simp] theorem kit_str_list : kitB "str" "list" = some false := by decide +kernel
@[simp] theorem kit_str_dict : kitB "str" "dict" = some false := by decide +kernel
@[simp] theorem kit_tuple_int : kitB "tuple" "int" = some false := by decide +kernel
@[simp] theorem kit_tuple_bool : kitB "tuple" "bool" = some false := by decide +kernel
@[simp] theorem kit_tuple_str : kitB "tuple" "str" = some false := by decide +kernel
@[simp] theorem kit_tuple_tuple : kitB "tuple" "tuple" = some true := by decide +kernel
@[simp] theorem kit_tuple_list : kitB "tuple" "list" = some false := by decide +kernel
@[simp] theorem kit_tuple_dict : kitB "tuple" "dict" = some false := by decide +kernel
@[simp] theorem kit_list_int : kitB "list" "int" = some false := by decide +kernel
@[simp] theorem kit_list_bool : kitB "list" "bool" = some false := by decide +kernel
@[simp] theorem kit_list_str : kitB "list" "str" = some false := by decide +kernel
@[simp] theorem kit_list_tuple : kitB "list" "tuple" = some false := by decide +kernel
@[simp] theorem kit_list_list : kitB "list" "list" = some true := by decide +kernel
@[simp] theorem kit_list_dict : kitB "list" "dict" = some false := by decide +kernel
@[simp] theorem kit_dict_int : kitB "dict" "int" = some false := by decide +kernel
@[simp] theorem kit_dict_bool : kitB "dict" "bool" = some false := by decide +kernel
@[simp] theorem kit_dict_str : kitB "dict" "str" = some false := by decide +kernel
@[simp] theorem kit_dict_tuple : kitB "dict" "tuple" = some false := by decide +kernel
@[simp] theorem kit_dict_list : kitB "dict" "list" = some false := by decide +kernel
@[simp] theorem kit_dict_dict : kitB "dict" "dict" = some true := by decide +kernel
@[simp] theorem kit_NoneType_int : kitB "NoneType" "int" = some false := by decide +kernel
@[simp] theorem kit_NoneType_bool : kitB "NoneType" "bool" = some false := by decide +kernel
@[simp] theorem kit_NoneType_str : kitB "NoneType" "str" = some false := by decide +kernel
@[simp] theorem kit_NoneType_tuple : kitB "NoneType" "tuple" = some false := by decide +kernel
@[simp] theorem kit_NoneType_list : kitB "NoneType" "list" = some false := by decide +kernel
@[simp] theorem kit_NoneType_dict : kitB "NoneType" "dict" = some false := by decide +kernel
end M
/-! ### recursion's start; what is raised and caught -/
namespace M
open PySem PySem.Spec PyProof.Rows L2
variable {G : Env} {W : WX} {S : Sta} {E : L2.St → XK}
/-- without fuel: no promise -/
theorem fn_bad {P : Program} {w : World} {K : PySem.W.Frag} {mg : Str → Option Value} {base : Heap} {CX : CXT} {lv : Nat} {f : Addr} {fd : FuncData} {ps : List Str} {n : Nat} (hp : ps.length = n) : FnOk P w K mg base CX lv f fd ps (spM G n fun _ _ => .bad) :=
  ⟨sp_len hp, fun _ _ _ _ _ _ _ _ _ _ _ _ _ ⟨_, _, _, _, _, _, _, p⟩ => p.elim⟩
/-- an own exception class -/
structure TxE (K : PySem.W.Frag) (C : Addr) (fs : List Str) : Prop where
  ox : OexC K C
  xf : XfC K C
  ie : ExcC K C
  no : ∀ f ∈ fs, PySem.W.findIn K (.ref C) f = some none
/-- its own __init__ -/
structure MkX (K : PySem.W.Frag) (C fI : Addr) : Prop where
  iC : PySem.W.findIn K (.ref C) "__init__" = some (some (.ref fI))
  tI : PySem.W.typeIn K (.ref fI) = some (.type "function")
/-! who is of which class -/
theorem exm_own {K : PySem.W.Frag} {A B : Addr} {b : Bool} (i : PySem.W.isClsIn K B = true) (t : PySem.W.typeIn K (.ref B) = some (.type "type")) (s0 : PySem.W.subIn K (.ref B) (.type "BaseException") = some true) (s : PySem.W.subIn K (.ref A) (.ref B) = some b) : PySem.W.exmOne K (.ref A) (.ref B) = some b := by
  have i : (PySem.W.clsIn K B).isSome = true := i
  unfold PySem.W.exmOne
  rw [s0]
  unfold PySem.W.kitCls
  dsimp only
  rw [i, t]
  simp [s]
theorem kit_self {K : PySem.W.Frag} {A : Addr} : PySem.W.kitOne K (.ref A) (.ref A) = some true := by
  unfold PySem.W.kitOne
  simp
theorem kit_own {K : PySem.W.Frag} {A B : Addr} {b : Bool} (i : PySem.W.isClsIn K B = true) (t : PySem.W.typeIn K (.ref B) = some (.type "type")) (s : PySem.W.subIn K (.ref A) (.ref B) = some b) (n : (A == B) = false) : PySem.W.kitOne K (.ref A) (.ref B) = some b := by
  have i : (PySem.W.clsIn K B).isSome = true := i
  have n : ¬ A = B := by simpa using n
  unfold PySem.W.kitOne PySem.W.kitCls
  dsimp only
  rw [i, t]
  simp [s, n]
theorem kit_type {K : PySem.W.Frag} {A : Addr} {T : String} {b : Bool} (m : PySem.W.kitMeta T = true) (s : PySem.W.subIn K (.ref A) (.type T) = some b) : PySem.W.kitOne K (.ref A) (.type T) = some b := by
  unfold PySem.W.kitOne PySem.W.kitCls
  dsimp only
  rw [m]
  simp [s]
/-! __init__ of an own exception: it stores its arguments -/
def spX1 (K : PySem.W.Frag) (f : Str) : Sp := fun vs H Q _ => ∃ (a C : Addr) (x : V), vs = [.ref a, x] ∧ H a = some (exo a C none) ∧ OexC K C ∧ PySem.W.findIn K (.ref C) f = some none ∧
  ∀ d, H d = none → d ≠ a → Q .non (upd (upd H d (exd d [(f, x)])) a (exo a C (some d)))
def spX2 (K : PySem.W.Frag) (f g : Str) : Sp := fun vs H Q _ => ∃ (a C : Addr) (x y : V), vs = [.ref a, x, y] ∧ H a = some (exo a C none) ∧ OexC K C ∧ (PySem.W.findIn K (.ref C) f = some none ∧ PySem.W.findIn K (.ref C) g = some none) ∧
  ∀ d, H d = none → d ≠ a → Q .non (upd (upd (upd H d (exd d [(f, x)])) a (exo a C (some d))) d (exd d [(g, y), (f, x)]))
theorem spX1_len {K : PySem.W.Frag} {f : Str} {ps : List Str} (hp : ps.length = 2) : ∀ vs H Q E, spX1 K f vs H Q E → vs.length = ps.length := fun vs H Q E ⟨_, _, _, e, _⟩ => by subst e; exact hp.symm
theorem spX2_len {K : PySem.W.Frag} {f g : Str} {ps : List Str} (hp : ps.length = 3) : ∀ vs H Q E, spX2 K f g vs H Q E → vs.length = ps.length := fun vs H Q E ⟨_, _, _, _, e, _⟩ => by subst e; exact hp.symm
theorem x1_run {K : PySem.W.Frag} {f : Str} {vs : List V} {H : Hp} {Q : VK} {E : XK} {a b : Str} (h : spX1 K f vs H Q E) : tOst K f (tVar 0) (tVar 1) { nx := fun _ H' => Q .non H', rt := Q } (start [a, b] vs) H := by
  obtain ⟨a, C, x, rfl, ha, T, n1, q⟩ := h
  exact ⟨_, rfl, _, rfl, _, _, rfl, T, n1, .inl ⟨ha, fun dx hdx ne => q dx hdx ne⟩⟩
theorem x2_run {K : PySem.W.Frag} {f g : Str} {vs : List V} {H : Hp} {Q : VK} {E : XK} {a b c : Str} (h : spX2 K f g vs H Q E) : tSeq (tOst K f (tVar 0) (tVar 1)) (tOst K g (tVar 0) (tVar 2)) { nx := fun _ H' => Q .non H', rt := Q } (start [a, b, c] vs) H := by
  obtain ⟨a, C, x, y, rfl, ha, T, ⟨n1, n2⟩, q⟩ := h
  refine ⟨_, rfl, _, rfl, _, _, rfl, T, n1, .inl ⟨ha, fun dx hdx ne => ?_⟩⟩
  exact ⟨_, rfl, _, rfl, _, _, rfl, T, n2, .inr ⟨dx, _, upd_same, by rw [upd_ne ne]; exact upd_same, by show (1 : Nat) ≤ 900; decide, q dx hdx ne⟩⟩
/-! raise C(..) -/
@[simp] def sRaise (c : Str) (ns : List Str) (fa : FA) : FS := fun τ h => liftE (fa τ h) τ fun xs h1 => if xs.length = ns.length then .ok (.xc ⟨c, ns.reverse, xs.reverse⟩ τ) h1 else .bad
theorem raise_end {σ : L2.St} {τ : LS} {D : Ends} {c : Str} {C d : Addr} {ns : List Str} {xs : List T} {vs : List V} (hc : S.G.ca c = C) (k : Ok S) (rs : RS S τ σ) (hd : S.H d = none) (hn : ns.length = xs.length) (r : RvL S xs vs)
    (q : PG S W D (.ok (.xc ⟨c, ns, xs⟩ τ) S.h)) : W (.ref C) (some d) σ (upd S.H d (.xd (ns.zip vs))) := by
  have g := Grow.upd (u := HO.xd (ns.zip vs)) hd
  have st := step_at k g
  have q := q (S.at (upd S.H d (.xd (ns.zip vs)))) rfl (ok_at k g) st σ (rs.mono st) (.ref C) (some d)
  exact q ⟨by rw [← hc]; rfl, .inr ⟨d, vs, rfl, fz_new k hd upd_same, hn, r.mono st⟩⟩
theorem sim_raise1 {C : Addr} {c f : Str} {ta : TA} {fa : FA} (hc : G.ca c = C) (T : TxE G.K C [f]) (ha : SimA G (WE W) ta fa) : SimS G W (fun _ σ H => tMkO C (spX1 G.K f) [] ta σ H fun cls d H' => W cls d σ H') (sRaise c [f] fa) := fun S σ τ D e k rs p => by
  refine ha S σ τ _ e k rs (PostG.imp (fun xs S1 q vs rv => ?_) (PG.lift rs p))
  obtain ⟨k1, s1, q⟩ := q
  split at q
  · rename_i hl
    obtain ⟨x, rfl⟩ : ∃ x, xs = [x] := List.length_eq_one_iff.mp hl
    simp only [RvL] at rv
    obtain ⟨v, _, rfl, r1, rfl⟩ := rv
    refine ⟨by show (1 : Nat) ≤ 1000; decide, fun a hna => ⟨a, C, v, rfl, upd_same, T.ox, T.no _ List.mem_cons_self, fun d hd ne => ?_⟩⟩
    rw [upd_ne ne] at hd
    refine ⟨rfl, d, _, upd_same, by rw [upd_ne ne]; exact upd_same, hd, ?_⟩
    have eH : upd (del (upd (upd (upd S1.H a (exo a C none)) d (exd d [(f, v)])) a (exo a C (some d))) a) d (HO.xd [(f, v)]) = upd S1.H d (.xd (([f] : List Str).zip [v])) := by
      funext b
      by_cases hb : b = d
      · subst hb; rw [upd_same, upd_same]; rfl
      · rw [upd_ne hb, upd_ne hb]
        by_cases ha : b = a
        · subst ha; rw [del_same, hna]
        · rw [del_ne ha, upd_ne ha, upd_ne hb, upd_ne ha]
    rw [eH]
    exact raise_end (by rw [s1.G, e]; exact hc) k1 (rs.mono s1) hd rfl (RvL.cons r1 RvL.nil) q
  · exact q.elim
theorem sim_raise2 {C : Addr} {c f g : Str} {ta : TA} {fa : FA} (hc : G.ca c = C) (T : TxE G.K C [f, g]) (ha : SimA G (WE W) ta fa) : SimS G W (fun _ σ H => tMkO C (spX2 G.K f g) [] ta σ H fun cls d H' => W cls d σ H') (sRaise c [f, g] fa) := fun S σ τ D e k rs p => by
  refine ha S σ τ _ e k rs (PostG.imp (fun xs S1 q vs rv => ?_) (PG.lift rs p))
  obtain ⟨k1, s1, q⟩ := q
  split at q
  · rename_i hl
    obtain ⟨x, y, rfl⟩ : ∃ x y, xs = [x, y] := by
      match xs, hl with
      | [x, y], _ => exact ⟨x, y, rfl⟩
    simp only [RvL] at rv
    obtain ⟨v, _, rfl, r1, w, _, rfl, r2, rfl⟩ := rv
    refine ⟨by show (2 : Nat) ≤ 1000; decide, fun a hna => ⟨a, C, v, w, rfl, upd_same, T.ox, ⟨T.no _ List.mem_cons_self, T.no _ (List.mem_cons_of_mem _ List.mem_cons_self)⟩, fun d hd ne => ?_⟩⟩
    rw [upd_ne ne] at hd
    refine ⟨rfl, d, _, by rw [upd_ne (Ne.symm ne)]; exact upd_same, upd_same, hd, ?_⟩
    have eH : upd (del (upd (upd (upd (upd S1.H a (exo a C none)) d (exd d [(f, v)])) a (exo a C (some d))) d (exd d [(g, w), (f, v)])) a) d (HO.xd [(g, w), (f, v)]) = upd S1.H d (.xd (([g, f] : List Str).zip [w, v])) := by
      funext b
      by_cases hb : b = d
      · subst hb; rw [upd_same, upd_same]; rfl
      · rw [upd_ne hb, upd_ne hb]
        by_cases ha : b = a
        · subst ha; rw [del_same, hna]
        · rw [del_ne ha, upd_ne hb, upd_ne ha, upd_ne hb, upd_ne ha]
    rw [eH]
    exact raise_end (by rw [s1.G, e]; exact hc) k1 (rs.mono s1) hd rfl (RvL.cons r2 (RvL.cons r1 RvL.nil)) q
  · exact q.elim
/-! the same state, seen with something caught (or without) -/
def Sta.c (S : Sta) (x : Option Ex) : Sta := ⟨⟨S.G.K, S.G.ca, S.G.fa, x⟩, S.al, S.h, S.H, S.pv⟩
variable {x : Option Ex}
mutual
theorem Rv.c : ∀ {t : T} {v : V}, Rv S t v → Rv (S.c x) t v
  | .non, v, h => by simp only [Rv] at h ⊢; exact h
  | .bl b, v, h => by simp only [Rv] at h ⊢; exact h
  | .int i, v, h => by simp only [Rv] at h ⊢; exact h
  | .str z, v, h => by simp only [Rv] at h ⊢; exact h
  | .ref a, v, h => by simp only [Rv] at h ⊢; exact h
  | .tup l, v, h => by
    simp only [Rv] at h ⊢
    obtain ⟨p, vs, e, f, r⟩ := h
    exact ⟨p, vs, e, f, RvL.c r⟩
  | .ktp l, v, h => by
    simp only [Rv] at h ⊢
    obtain ⟨p, vs, e, f, r⟩ := h
    exact ⟨p, vs, e, f, RvL.c r⟩
  | .lst l, v, h => by
    simp only [Rv] at h ⊢
    obtain ⟨p, vs, e, f, r⟩ := h
    exact ⟨p, vs, e, f, RvL.c r⟩
  | .rdl l, v, h => by
    simp only [Rv] at h ⊢
    obtain ⟨p, vs, e, f, r⟩ := h
    exact ⟨p, vs, e, f, RvL.c r⟩
  | .inst c ns l, v, h => by
    simp only [Rv] at h ⊢
    obtain ⟨p, dx, vs, e, f, n, r⟩ := h
    exact ⟨p, dx, vs, e, f, n, RvL.c r⟩
  | .dct ks l, v, h => by
    simp only [Rv] at h ⊢
    obtain ⟨p, vs, e, f, n, r⟩ := h
    exact ⟨p, vs, e, f, n, RvL.c r⟩
  | .dctT ks l, v, h => by
    simp only [Rv] at h ⊢
    obtain ⟨p, vs, e, f, n, r⟩ := h
    exact ⟨p, vs, e, f, n, RvL.c r⟩
  | .obj i, v, h => by simp only [Rv] at h ⊢; exact h
theorem RvL.c : ∀ {l : List T} {vs : List V}, RvL S l vs → RvL (S.c x) l vs
  | [], _, h => by simp only [RvL] at h ⊢; exact h
  | t :: ts, vs, h => by
    simp only [RvL] at h ⊢
    obtain ⟨v, r, e, h1, h2⟩ := h
    exact ⟨v, r, e, Rv.c h1, RvL.c h2⟩
end
theorem RvK.c {κ : Type} : ∀ {m : List (κ × T)} {vs : List (κ × V)}, RvK S m vs → RvK (S.c x) m vs
  | [], _, h => h
  | (_, _) :: _, _, ⟨v, m', e, h1, h2⟩ => ⟨v, m', e, h1.c, RvK.c h2⟩
theorem RO.c : ∀ {o : O} {u : HO}, RO S o u → RO (S.c x) o u
  | .lst _, _, ⟨vs, e, r⟩ => ⟨vs, e, r.c⟩
  | .dct _, _, ⟨vs, e, r⟩ => ⟨vs, e, r.c⟩
  | .dctT _, _, ⟨vs, e, r⟩ => ⟨vs, e, r.c⟩
  | .ins _ _, _, ⟨dx, vs, e, r⟩ => ⟨dx, vs, e, r.c⟩
theorem Ok.c (k : Ok S) : Ok (S.c x) := ⟨k.len, fun i o p h1 h2 => let ⟨u, hu, r⟩ := k.rel i o p h1 h2; ⟨u, hu, r.c⟩, k.inj, k.priv⟩
theorem RS0.c : ∀ {τ : LS} {σ : L2.St}, RS0 S τ σ → RS0 (S.c x) τ σ
  | [], _, h => h
  | _ :: _, _, ⟨v, r, e, h, q⟩ => ⟨v, r, e, fun t ht => let ⟨w, h1, h2⟩ := h t ht; ⟨w, h1, h2.c⟩, RS0.c q⟩
theorem RS0.len : ∀ {τ : LS} {σ : L2.St}, RS0 S τ σ → σ.length = τ.length
  | [], σ, h => by
    have h : σ = [] := h
    subst h; rfl
  | _ :: _, _, ⟨v, r, e, _, q⟩ => by subst e; simp [RS0.len q]
theorem RX.c {e : Exc} {cls : Value} {d : Option Addr} (h : RX S e cls d) : RX (S.c x) e cls d := by
  obtain ⟨h1, h2⟩ := h
  refine ⟨h1, h2.imp id ?_⟩
  rintro ⟨a, vs, e1, f, n, r⟩
  exact ⟨a, vs, e1, f, n, r.c⟩
/-! try .. except C as n -/
/-- behind a suite the name is gone -/
def unname (i : Nat) : Fl → Fl
  | .nx τ => .nx (τ.set i none)
  | .bk τ => .bk (τ.set i none)
  | .ct τ => .ct (τ.set i none)
  | .rt t => .rt t
  | .xc e τ => .xc e τ
def noXc : Fl → Bool
  | .xc _ _ => false
  | _ => true
def sTry (xm : List (Str × Bool)) (i : Nat) (b : FS) (su : Exc → FS) : FS := fun τ h => (b τ h).bind fun fl h1 => match fl with
  | .xc e τ1 => match xm.lookup e.c with
    | some true => if i < τ1.length then (su e (τ1.set i none) h1).bind fun fl2 h2 => if noXc fl2 = true then .ok (unname i fl2) h2 else .bad else .bad
    | some false => .ok (.xc e τ1) h1
    | none => .bad
  | fl => .ok fl h1
section
variable {K : PySem.W.Frag} {ca : Str → Addr} {fa : Str → V} {c : Value} {i : Nat} {tb : WX → TS} {ts : Addr → Value → Option Addr → TS} {xm : List (Str × Bool)} {b : FS} {su : Exc → FS} {W0 : WX}
theorem suite_go {D D' : Ends} {σ : L2.St} {τ : LS} {e : Exc} {a : Addr} {cls : Value} {d : Option Addr} {ts : TS} {g : FS} (eG : S.G = ⟨K, ca, fa, none⟩) (k : Ok S) (rs : RS S τ σ) (hi : i < τ.length) (rx : RX S e cls d)
    (hs : SimS ⟨K, ca, fa, some ⟨a, cls, d, i, e⟩⟩ W0 ts g)
    (hn : ∀ σ' H, D.nx (σ'.set i none) H → D'.nx σ' H) (hb : ∀ σ' H, D.bk (σ'.set i none) H → D'.bk σ' H) (hc : ∀ σ' H, D.ct (σ'.set i none) H → D'.ct σ' H) (hr : ∀ v H, D.rt v H → D'.rt v H)
    (p : PG S W D ((g (τ.set i none) S.h).bind fun fl2 h2 => if noXc fl2 = true then .ok (unname i fl2) h2 else .bad)) : ts D' (σ.set i (some (.ref a))) S.H := by
  have eG2 : (S.c (some ⟨a, cls, d, i, e⟩)).G = ⟨K, ca, fa, some ⟨a, cls, d, i, e⟩⟩ := by unfold Sta.c; rw [eG]
  refine hs (S.c (some ⟨a, cls, d, i, e⟩)) _ (τ.set i none) D' eG2 k.c ⟨RS0.unset i rs.r.c, fun y hy => ?_⟩ ?_
  · have hy : some _ = some y := hy
    cases hy
    exact ⟨by rw [List.getElem?_set_self (by rw [rs.r.len]; exact hi)], rx.c⟩
  · show PG (S.c (some ⟨a, cls, d, i, e⟩)) W0 D' (g (τ.set i none) S.h)
    cases hg : g (τ.set i none) S.h with
    | bad => rw [hg] at p; exact p.elim
    | exc e2 h2 =>
      rw [hg] at p
      intro S2 e2 k2 st
      have eS2 : (S2.c none).G = S.G := by
        have : S2.G = _ := st.G
        unfold Sta.c
        rw [this, eG2, eG]
      exact p (S2.c none) e2 k2.c ⟨eS2, st.al, st.keep, st.own, st.pv, st.pk⟩
    | ok fl2 h2 =>
      rw [hg, bind_ok] at p
      intro S2 e2 k2 st
      have k2' : Ok (S2.c none) := k2.c
      have eS2 : (S2.c none).G = S.G := by
        have : S2.G = _ := st.G
        unfold Sta.c
        rw [this, eG2, eG]
      have st' : Step S (S2.c none) := ⟨eS2, st.al, st.keep, st.own, st.pv, st.pk⟩
      have xi : ∀ σ', XI (S2.c none) σ' := fun σ' y hy => by cases hy
      split at p
      · rename_i hx
        have p := p (S2.c none) e2 k2' st'
        match fl2, hx, p with
        | .nx τ2, _, p => exact fun σ2 rs2 => hn _ _ (p _ ⟨RS0.unset i rs2.r.c, xi _⟩)
        | .bk τ2, _, p => exact fun σ2 rs2 => hb _ _ (p _ ⟨RS0.unset i rs2.r.c, xi _⟩)
        | .ct τ2, _, p => exact fun σ2 rs2 => hc _ _ (p _ ⟨RS0.unset i rs2.r.c, xi _⟩)
        | .rt t, _, p => exact fun v rv => hr _ _ (p v rv.c)
      · exact p.elim
/-- the reading of a try, as one thing -/
def tTryAs (K : PySem.W.Frag) (c : Value) (i : Nat) (ts : Addr → Value → Option Addr → TS) (Wout : WX) (tb : WX → TS) : TS := fun D σ H => tb (wAs K c i ts Wout D) D σ H
theorem ps_tryT {X : Cx} {x n : Str} {c : Value} {body suite : List Stmt} {b₀ : Stmt} {np pos pos' : Pos} {tb : WX → TS} {ts : Addr → Value → Option Addr → TS} {Wout : WX} {i : Nat} {K : PySem.W.Frag} (hK : X.K = K) (hs : X.stack = X.env :: X.outer) (hf : X.env.frame = some X.env.locals) (hN : X.N.Nodup) (hi : X.N[i]? = some n) (hln : X.env.kindOf n = some .local) (hc : Names X x c) (tk : Takes X Wout)
    (hb : ∀ (W : WX) (pn : List (Addr × Obj)) (xe : Value → Shared → Prop), Takes (X.tr pn xe) W → PassesOwn (model X.prog X.w) X.A X.env xe → PSs (X.tr pn xe) body (tb W))
    (hsu : ∀ (a : Addr) (oe : Obj) (cls : Value) (d : Option Addr) (pn : List (Addr × Obj)), Zc cls d oe → (∃ vs, oe.data = .fields vs) → PSs (X.suite a ((a, oe) :: pn)) (b₀ :: suite) (ts a cls d)) :
    PS X (.Try body [.ExceptHandler (some (.Name x np)) (some n) (b₀ :: suite) pos'] [] [] pos) (tTryAs K c i ts Wout tb) := hK ▸ ps_try_as hs hf hN hi hln hc tk hb hsu
theorem sim_try (hk : ∀ n b, xm.lookup n = some b → PySem.W.exmOne K (.ref (ca n)) c = some b) (hb : ∀ W', SimS ⟨K, ca, fa, none⟩ W' (tb W') b)
    (hs : ∀ (a : Addr) (cls : Value) (d : Option Addr) (e : Exc), SimS ⟨K, ca, fa, some ⟨a, cls, d, i, e⟩⟩ W0 (ts a cls d) (su e)) :
    SimS ⟨K, ca, fa, none⟩ W (tTryAs K c i ts W tb) (sTry xm i b su) := fun S σ τ D e k rs p => by
  refine hb (wAs K c i ts W D) S σ τ D e k rs ?_
  unfold sTry at p
  cases hg : b τ S.h with
  | bad => rw [hg] at p; exact p.elim
  | exc e2 h2 => rw [hg] at p; exact p
  | ok fl h1 =>
    rw [hg, bind_ok] at p
    match fl, p with
    | .nx τ1, p => exact p
    | .bk τ1, p => exact p
    | .ct τ1, p => exact p
    | .rt t, p => exact p
    | .xc ex τ1, p =>
      intro S1 e1 k1 st1 σ1 rs1 cls d rx
      subst e1
      have eG := st1.G.trans e
      dsimp only at p
      have ec : cls = .ref (ca ex.c) := by rw [rx.1, eG]
      split at p
      · rename_i hl
        refine ⟨true, by rw [ec]; exact hk _ _ hl, fun _ a ha => ?_, fun z => Bool.noConfusion z⟩
        split at p
        · rename_i hi
          exact suite_go (D := D) eG k1 rs1 hi rx (hs a cls d ex) (fun _ _ z => z) (fun _ _ z => z) (fun _ _ z => z) (fun _ _ z => z) (PostG.mono st1 p)
        · exact p.elim
      · rename_i hl
        refine ⟨false, by rw [ec]; exact hk _ _ hl, fun z => Bool.noConfusion z, fun _ => ?_⟩
        exact p S1 rfl k1 st1 σ1 rs1 cls d rx
      · exact p.elim
/-- a try in a def that raises nothing itself -/
def sTry0 (xm : List (Str × Bool)) (i : Nat) (b : FS) (su : Exc → FS) : FS := fun τ h => (b τ h).bind fun fl h1 => match fl with
  | .xc e τ1 => match xm.lookup e.c with
    | some true => if i < τ1.length then (su e (τ1.set i none) h1).bind fun fl2 h2 => if noXc fl2 = true then .ok (unname i fl2) h2 else .bad else .bad
    | _ => .bad
  | fl => .ok fl h1
theorem sim_try0 (hk : ∀ n b, xm.lookup n = some b → PySem.W.exmOne K (.ref (ca n)) c = some b) (hb : ∀ W', SimS ⟨K, ca, fa, none⟩ W' (tb W') b)
    (hs : ∀ (a : Addr) (cls : Value) (d : Option Addr) (e : Exc), SimS ⟨K, ca, fa, some ⟨a, cls, d, i, e⟩⟩ W0 (ts a cls d) (su e)) :
    SimS ⟨K, ca, fa, none⟩ W (tTryAs K c i ts (fun _ _ _ _ => False) tb) (sTry0 xm i b su) := fun S σ τ D e k rs p => by
  refine hb (wAs K c i ts (fun _ _ _ _ => False) D) S σ τ D e k rs ?_
  unfold sTry0 at p
  cases hg : b τ S.h with
  | bad => rw [hg] at p; exact p.elim
  | exc e2 h2 => rw [hg] at p; exact p
  | ok fl h1 =>
    rw [hg, bind_ok] at p
    match fl, p with
    | .nx τ1, p => exact p
    | .bk τ1, p => exact p
    | .ct τ1, p => exact p
    | .rt t, p => exact p
    | .xc ex τ1, p =>
      intro S1 e1 k1 st1 σ1 rs1 cls d rx
      subst e1
      have eG := st1.G.trans e
      dsimp only at p
      have ec : cls = .ref (ca ex.c) := by rw [rx.1, eG]
      split at p
      · rename_i hl
        refine ⟨true, by rw [ec]; exact hk _ _ hl, fun _ a ha => ?_, fun z => Bool.noConfusion z⟩
        split at p
        · rename_i hi
          exact suite_go (D := D) eG k1 rs1 hi rx (hs a cls d ex) (fun _ _ z => z) (fun _ _ z => z) (fun _ _ z => z) (fun _ _ z => z) (PostG.mono st1 p)
        · exact p.elim
      · exact p.elim
end
/-! what a suite asks of what is caught -/
section
variable {K : PySem.W.Frag} {ca : Str → Addr} {fa : Str → V} {y : Ex}
/-- n.f -/
@[simp] def mXf (e : Exc) (c f : Str) : FE := fun _ h => if e.c = c then (match (e.ns.zip e.l).lookup f with | some t => .ok t h | none => .bad) else .bad
theorem sim_xf {C : Addr} {c f : Str} (hc : ca c = C) : SimE ⟨K, ca, fa, some y⟩ E (tXf y.a y.cls y.d C f (tVar y.i)) (mXf y.e c f) := fun S σ τ Q e k rs p => by
  unfold mXf at p
  obtain ⟨h1, h2, h3⟩ := rs.x y (by rw [e])
  split at p
  · rename_i he
    split at p
    · rename_i t ht
      refine ⟨_, h1, rfl, by rw [h2, e, ← hc, ← he], ?_⟩
      rcases h3 with ⟨n1, n2, _⟩ | ⟨dd, vs, e1, f1, n1, rl⟩
      · rw [n1] at ht; cases ht
      · have := (RvK.zip n1 rl).look (f := f)
        rw [ht] at this
        cases hv : (y.e.ns.zip vs).lookup f with
        | none => rw [hv] at this; exact this.elim
        | some w => rw [hv] at this; exact ⟨dd, _, w, e1, f1.1, hv, p S rfl k (Step.refl S) w this⟩
    · exact p.elim
  · exact p.elim
/-- one of two readings -/
def tAlt (t1 t2 : TE) : TE := fun σ H Q => t1 σ H Q ∨ t2 σ H Q
theorem pe_alt {X : Cx} {e : Expr} {t1 t2 : TE} (h1 : PE X e t1) (h2 : PE X e t2) : PE X e (tAlt t1 t2) := ⟨fun pins s σ H Q I h => h.elim (h1.run pins s σ H Q I) (h2.run pins s σ H Q I)⟩
@[simp] def mAlt (f g : FE) : FE := fun τ h => match f τ h with | .bad => g τ h | r => r
theorem mAlt_bad {f g : FE} {τ : LS} {h : AH} (e : f τ h = .bad) : mAlt f g τ h = g τ h := by unfold mAlt; rw [e]
theorem sim_alt {t1 t2 : TE} {f g : FE} (h1 : SimE G E t1 f) (h2 : SimE G E t2 g) : SimE G E (tAlt t1 t2) (mAlt f g) := fun S σ τ Q e k rs p => by
  unfold mAlt at p
  split at p
  · exact .inr (h2 S σ τ Q e k rs p)
  · exact .inl (h1 S σ τ Q e k rs p)
/-- isinstance(n, c), isinstance(n, (c, ..)), n of the class c0 -/
def rIsX (K : PySem.W.Frag) (D a : Addr) (cls : Value) (d : Option Addr) : List V → Hp → VK → Prop := fun xs H Q => cls = .ref D ∧ (∃ dd fs, d = some dd ∧ H dd = some (.xd fs)) ∧
  ((∃ (c : V) (u : Value) (b : Bool), xs = [.ref a, c] ∧ ClsV c u ∧ PySem.W.kitOne K (.ref D) u = some b ∧ Q (.bl b) H) ∨
    ∃ (tp : Addr) (cs : List V) (us : List Value) (b : Bool), xs = [.ref a, .ref tp] ∧ H tp = some (.tup cs) ∧ Paired ClsV cs us ∧ PySem.W.kitAny K (.ref D) us = some b ∧ Q (.bl b) H)
theorem call_isX {X : Cx} {a D : Addr} {oe : Obj} {pn : List (Addr × Obj)} {cls : Value} {d : Option Addr} (C : ExcC X.K D) (hz : Zc cls d oe) (hf : ∃ vs, oe.data = .fields vs) : CallR (X.suite a ((a, oe) :: pn)) (.builtin "isinstance") (rIsX X.K D a cls d) := by
  intro pins s σ H xs us Q I r h
  obtain ⟨rfl, ⟨dd, fs, rfl, ed⟩, h⟩ := h
  obtain ⟨ha, _⟩ := I.pin (a, oe) (List.mem_append_left _ List.mem_cons_self)
  obtain ⟨vs, hd⟩ := hf
  have hx : ObjOk X.prog X.w H s.heap dd (.xd fs) := I.hok dd _ ed
  obtain ⟨mA, hns, hr⟩ := hx
  obtain ⟨od, ho, hl⟩ := lookIn_ns hns
  have J : PySem.W.InstAt s.heap a oe D (some od) := ⟨ha, hz.1, by unfold PySem.W.notCls; rw [hd] <;> rfl, by rw [hz.2]; exact ho⟩
  have hcl : (PySem.W.clsIn X.K D).isSome = true := by
    obtain ⟨cd, hc, _⟩ := PySem.W.any_some C.hd
    rw [hc]; rfl
  have Z := PySem.W.kitx_exc (x := a) (ox := oe) (od := some od) hcl C.hg C.hk C.hs C.ha C.hn C.ht C.hm
  rcases h with ⟨c, u, b, rfl, k, e, q⟩ | ⟨tp, cs, us', b, rfl, hT, k, e, q⟩
  · obtain ⟨u1, u2, rfl, r1, r2⟩ := vals2 r
    have e2 := k.eq r2
    subst e2
    cases r1
    exact PySem.W.kia_one Z I.kIn J e (fun z => nomatch z) fun tk => ⟨.bl b, H, I.tok tk, rfl, q⟩
  · obtain ⟨u1, u2, rfl, r1, r2⟩ := vals2 r
    cases (show u2 = Value.ref tp from r2)
    cases r1
    obtain ⟨_, its, rv, o, h1, h2, n, h3⟩ := (show ObjOk X.prog X.w H s.heap tp (.tup cs) from I.hok tp _ hT)
    have e3 := ClsV.all k rv
    subst e3
    obtain ⟨oc, od', dt, sl⟩ := o
    simp only at h2 h3
    subst h2 h3
    exact PySem.W.kia_tup Z I.kIn J h1 e (fun z => nomatch z) fun tk => ⟨.bl b, H, I.tok tk, rfl, q⟩
@[simp] def mIsX (e : Exc) (c : Str) (b : Bool) : FE := fun _ h => if e.c = c then (match e.ns with | [] => .bad | _ => .ok (.bl b) h) else .bad
theorem isX_at {σ : L2.St} {τ : LS} (e : S.G = ⟨K, ca, fa, some y⟩) (rs : RS S τ σ) {c : Str} {C : Addr} (hc : ca c = C) (he : y.e.c = c) (hn : y.e.ns ≠ []) : σ[y.i]? = some (some (.ref y.a)) ∧ y.cls = .ref C ∧ ∃ dd fs, y.d = some dd ∧ S.H dd = some (.xd fs) ∧ Fz S dd (.xd fs) := by
  obtain ⟨h1, h2, h3⟩ := rs.x y (by rw [e])
  refine ⟨h1, by rw [h2, e, ← hc, ← he], ?_⟩
  rcases h3 with ⟨n1, _⟩ | ⟨dd, vs, e1, f1, n1, rl⟩
  · exact (hn n1).elim
  · exact ⟨dd, _, e1, f1.1, f1⟩
theorem sim_isX1 {C : Addr} {c : Str} {v : V} {u : Value} {b : Bool} (hc : ca c = C) (hv : ClsV v u) (hk : PySem.W.kitOne K (.ref C) u = some b) : SimE ⟨K, ca, fa, some y⟩ E (tCB (rIsX K C y.a y.cls y.d) (tCons (tVar y.i) (tCons (tC v) tNil))) (mIsX y.e c b) := fun S σ τ Q e k rs p => by
  unfold mIsX at p
  split at p
  · rename_i he
    split at p
    · exact p.elim
    · rename_i hn
      obtain ⟨h1, h2, dd, fs, h3, h4, _⟩ := isX_at e rs hc he (fun z => hn z)
      exact ⟨_, h1, h2, ⟨dd, fs, h3, h4⟩, .inl ⟨v, u, b, rfl, hv, hk, p S rfl k (Step.refl S) _ (by simp only [Rv])⟩⟩
  · exact p.elim
/-- a tuple of classes -/
inductive CTs : TA → List V → Prop
  | nil : CTs tNil []
  | cons {v : V} {t : TA} {vs : List V} : CTs t vs → CTs (tCons (tC v) t) (v :: vs)
theorem CTs.go {t : TA} {vs : List V} (h : CTs t vs) {σ : L2.St} {H : Hp} {Q : List V → Hp → Prop} (q : Q vs H) : t σ H Q := by
  induction h generalizing Q with
  | nil => exact q
  | cons _ ih => exact ih q
theorem sim_isXt {C : Addr} {c : Str} {t : TA} {vs : List V} {us : List Value} {b : Bool} (hc : ca c = C) (ht : CTs t vs) (hl : vs.length ≤ 100) (hv : Paired ClsV vs us) (hk : PySem.W.kitAny K (.ref C) us = some b) : SimE ⟨K, ca, fa, some y⟩ E (tCB (rIsX K C y.a y.cls y.d) (tCons (tVar y.i) (tCons (tTup t) tNil))) (mIsX y.e c b) := fun S σ τ Q e k rs p => by
  unfold mIsX at p
  split at p
  · rename_i he
    split at p
    · exact p.elim
    · rename_i hn
      obtain ⟨h1, h2, dd, fs, h3, h4, f1⟩ := isX_at e rs hc he (fun z => hn z)
      refine ⟨_, h1, ht.go ⟨Nat.le_trans hl (by decide), fun q hq => ?_⟩⟩
      have g := Grow.upd (u := HO.tup vs) hq
      have st := step_at k g
      exact ⟨h2, ⟨dd, fs, h3, g dd _ h4⟩, .inr ⟨q, vs, us, b, rfl, upd_same, hv, hk, p (S.at (upd S.H q (.tup vs))) rfl (ok_at k g) st _ (by simp only [Rv])⟩⟩
  · exact p.elim
end
end M
/-! ### methods of texts; is of bools; insert, index, list * int; o.f op= e, d[k] op= e; isinstance with a tuple of built-in types; a module's dict asked with any text -/
namespace M
open PySem PySem.Spec PyProof.Rows L2
variable {G : Env} {W : WX} {S : Sta} {E : L2.St → XK}
/-! methods of texts -/
@[simp] def mM0 (g : Str → AH → Res T) (fo : FE) : FE := fun τ h => (fo τ h).bind fun x h1 => match x with | .str a => g a h1 | _ => .bad
@[simp] def mM1 (g : Str → T → AH → Res T) (fo fe : FE) : FE := fun τ h => (fo τ h).bind fun x h1 => match x with | .str a => (fe τ h1).bind fun y h2 => g a y h2 | _ => .bad
def SimM0 (G : Env) (r : V → List V → Hp → VK → Prop) (g : Str → AH → Res T) : Prop := ∀ (S : Sta) (a : Str) (X : Exc → Sta → Prop) (Q : VK), S.G = G → Ok S → PostG S X (fun t S' => ∀ v, Rv S' t v → Q v S'.H) (g a S.h) → r (.str a) [] S.H Q
def SimM1 (G : Env) (r : V → List V → Hp → VK → Prop) (g : Str → T → AH → Res T) : Prop := ∀ (S : Sta) (a : Str) (y : T) (v : V) (X : Exc → Sta → Prop) (Q : VK), S.G = G → Ok S → Rv S y v → PostG S X (fun t S' => ∀ v, Rv S' t v → Q v S'.H) (g a y S.h) → r (.str a) [v] S.H Q
theorem sim_M0 {r : V → List V → Hp → VK → Prop} {g : Str → AH → Res T} {to : TE} {fo : FE} (hr : SimM0 G r g) (ho : SimE G E to fo) : SimE G E (tM0 r to) (mM0 g fo) := fun S σ τ Q e k rs p => by
  refine ho S σ τ _ e k rs (PostG.imp (fun x S1 q u ru => ?_) (PostG.bind p))
  obtain ⟨k1, s1, q⟩ := q
  split at q
  · rename_i a
    simp only [Rv] at ru; subst ru
    exact ⟨⟨a, rfl⟩, hr S1 a _ Q (s1.G.trans e) k1 q⟩
  · exact q.elim
theorem sim_M1 {r : V → List V → Hp → VK → Prop} {g : Str → T → AH → Res T} {to te : TE} {fo fe : FE} (hr : SimM1 G r g) (ho : SimE G E to fo) (he : SimE G E te fe) : SimE G E (tM1 r to te) (mM1 g fo fe) := fun S σ τ Q e k rs p => by
  refine ho S σ τ _ e k rs (PostG.imp (fun x S1 q u ru => ?_) (PostG.bind p))
  obtain ⟨k1, s1, q⟩ := q
  split at q
  · rename_i a
    simp only [Rv] at ru; subst ru
    refine ⟨⟨a, rfl⟩, he S1 σ τ _ (s1.G.trans e) k1 (rs.mono s1) (PostG.imp (fun y S2 q v rv => ?_) (PostG.bind q))⟩
    obtain ⟨k2, s2, q⟩ := q
    exact hr S2 a y v _ Q (s2.G.trans (s1.G.trans e)) k2 rv q
  · exact q.elim
@[simp] def gUpper (a : Str) (h : AH) : Res T := if a.length ≤ 5592405 then .ok (.str (Txt.upper a)) h else .bad
theorem sr_upper : SimM0 G (fun x xs H Q => ∃ a, x = .str a ∧ xs = [] ∧ a.length ≤ 5592405 ∧ Q (.str (Txt.upper a)) H) gUpper := fun S a X Q e k p => by
  unfold gUpper at p
  split at p
  · rename_i hl; exact ⟨a, rfl, rfl, hl, p S rfl k (Step.refl S) _ (by simp only [Rv])⟩
  · exact p.elim
@[simp] def gStarts (a : Str) (y : T) (h : AH) : Res T := match y with | .str b => .ok (.bl (Txt.startswith a b)) h | _ => .bad
theorem sr_starts : SimM1 G (fun x xs H Q => ∃ a b, x = .str a ∧ xs = [.str b] ∧ Q (.bl (Txt.startswith a b)) H) gStarts := fun S a y v X Q e k r p => by
  unfold gStarts at p
  split at p
  · simp only [Rv] at r; subst r; exact ⟨a, _, rfl, rfl, p S rfl k (Step.refl S) _ (by simp only [Rv])⟩
  · exact p.elim
@[simp] def gFind (a : Str) (y : T) (h : AH) : Res T := match y with | .str b => .ok (.int (Txt.find a b)) h | _ => .bad
theorem sr_find : SimM1 G (fun x xs H Q => ∃ a b, x = .str a ∧ xs = [.str b] ∧ Q (.int (Txt.find a b)) H) gFind := fun S a y v X Q e k r p => by
  unfold gFind at p
  split at p
  · simp only [Rv] at r; subst r; exact ⟨a, _, rfl, rfl, p S rfl k (Step.refl S) _ (by simp only [Rv])⟩
  · exact p.elim
@[simp] def gPart (a : Str) (y : T) (h : AH) : Res T := match y with
  | .str b => if (b.length == 0) = false ∧ a.length ≤ sizeLine then .ok (.tup [.str (Txt.partition a b).1, .str (Txt.partition a b).2.1, .str (Txt.partition a b).2.2]) h else .bad
  | _ => .bad
theorem sr_part : SimM1 G (fun x xs H Q => ∃ a b, x = .str a ∧ xs = [.str b] ∧ (b.length == 0) = false ∧ a.length ≤ sizeLine ∧ ∀ p, H p = none → Q (.ref p) (upd H p (.tup [.str (Txt.partition a b).1, .str (Txt.partition a b).2.1, .str (Txt.partition a b).2.2]))) gPart := fun S a y v X Q e k r p => by
  unfold gPart at p
  split at p
  · split at p
    · rename_i b hl
      simp only [Rv] at r; subst r
      exact ⟨a, b, rfl, rfl, hl.1, hl.2, new_fz k p fun q hq f => rv_tup f (RvL.cons (by simp only [Rv]) (RvL.cons (by simp only [Rv]) (RvL.cons (by simp only [Rv]) RvL.nil)))⟩
    · exact p.elim
  · exact p.elim
theorem rvL_strs : ∀ ys : List Str, RvL S (ys.map T.str) (ys.map V.str)
  | [] => RvL.nil
  | y :: ys => RvL.cons (by simp only [Rv]) (rvL_strs ys)
@[simp] def gSplit (a : Str) (y : T) (h : AH) : Res T := match y with
  | .str b => if (b.length == 0) = false ∧ a.length + 2 ≤ sizeLine then .ok (.lst ((Txt.split a b).map .str)) h else .bad
  | _ => .bad
theorem sr_split : SimM1 G (fun x xs H Q => ∃ a b, x = .str a ∧ xs = [.str b] ∧ (b.length == 0) = false ∧ a.length + 2 ≤ sizeLine ∧ rNewStrs (Txt.split a b) H Q) gSplit := fun S a y v X Q e k r p => by
  unfold gSplit at p
  split at p
  · split at p
    · rename_i b hl
      simp only [Rv] at r; subst r
      exact ⟨a, b, rfl, rfl, hl.1, hl.2, new_fz k p fun q hq f => rv_lst f (rvL_strs _)⟩
    · exact p.elim
  · exact p.elim
/-- all texts, or not -/
def strsOf : List T → Option (List Str)
  | [] => some []
  | .str x :: r => (strsOf r).map (x :: ·)
  | _ :: _ => none
theorem strsOf_ok : ∀ {l : List T} {vs : List V} {xs : List Str}, RvL S l vs → strsOf l = some xs → vs = xs.map V.str
  | [], _, _, r, h => by
    simp only [RvL] at r
    unfold strsOf at h; cases h; exact r
  | t :: l, vs, xs, r, h => by
    simp only [RvL] at r
    obtain ⟨v, m, rfl, r1, r2⟩ := r
    unfold strsOf at h
    split at h
    · rename_i e; cases e
    · rename_i x r' e
      cases e
      obtain ⟨ys, h1, rfl⟩ := Option.map_eq_some_iff.mp h
      simp only [Rv] at r1; subst r1
      rw [strsOf_ok r2 h1]; rfl
    · cases h
@[simp] theorem strsOf_map : ∀ xs : List Str, strsOf (xs.map T.str) = some xs
  | [] => rfl
  | x :: xs => by show (strsOf (xs.map T.str)).map (x :: ·) = _; rw [strsOf_map xs]; rfl
@[simp] def gJoin (a : Str) (y : T) (h : AH) : Res T := match (seqOf y h).bind strsOf with
  | some ys => if (ys.map (·.length)).sum + ys.length * a.length ≤ 16777216 then .ok (.str (Txt.join a ys)) h else .bad
  | none => .bad
theorem sr_join : SimM1 G (fun x xs H Q => ∃ a p, ∃ ys : List Str, x = .str a ∧ xs = [.ref p] ∧ (SqL G.K H p (ys.map V.str) ∨ SqT G.K H p (ys.map V.str)) ∧ (ys.map (·.length)).sum + ys.length * a.length ≤ 16777216 ∧ Q (.str (Txt.join a ys)) H) gJoin := fun S a y v X Q e k r p => by
  unfold gJoin at p
  split at p
  · rename_i ys hy
    split at p
    · rename_i hl
      obtain ⟨l, h1, h2⟩ := Option.bind_eq_some_iff.mp hy
      obtain ⟨q, vs, rfl, hs, rl⟩ := seqOf_ok k h1 r
      have := strsOf_ok rl h2
      subst this
      rw [e] at hs
      exact ⟨a, q, ys, rfl, rfl, hs, hl, p S rfl k (Step.refl S) _ (by simp only [Rv])⟩
    · exact p.elim
  · exact p.elim
theorem x_join {X : Cx} {K : PySem.W.Frag} (h : X.K = K) {o e : Expr} {to te : TE} {apos pos : Pos} (ho : PE X o to) (he : PE X e te) (hs : starEach [e] X.env = [(false, eval e X.env)] := by rfl) (hbase : attributeBase o "join" X.env (eval o X.env) = eval o X.env := by rfl) (hline : (apos.endLine == pos.line) = true := by rfl) :
    PE X (.Call (.Attribute o "join" apos) [e] [] pos) (tM1 (fun x xs H Q => ∃ a p, ∃ ys : List Str, x = .str a ∧ xs = [.ref p] ∧ (SqL K H p (ys.map V.str) ∨ SqT K H p (ys.map V.str)) ∧ (ys.map (·.length)).sum + ys.length * a.length ≤ 16777216 ∧ Q (.str (Txt.join a ys)) H) to te) := h ▸ pe_join ho he hs hbase hline
/-! order of texts -/
@[simp] abbrev oLeS := P2 (fun x y => match x, y with | .str i, .str j => some (.bl (!decide (j.cps.toList < i.cps.toList))) | _, _ => none)
@[simp] abbrev oGtS := P2 (fun x y => match x, y with | .str i, .str j => some (.bl (decide (j.cps.toList < i.cps.toList))) | _, _ => none)
@[simp] abbrev oGeS := P2 (fun x y => match x, y with | .str i, .str j => some (.bl (!decide (i.cps.toList < j.cps.toList))) | _, _ => none)
theorem so_leS : SimR2 G (fun x y H Q => ∃ i j, x = .str i ∧ y = .str j ∧ Q (.bl (!decide (j.cps.toList < i.cps.toList))) H) oLeS := simP2 fun S x y t u v Q e k ru rv hg q => by
  split at hg
  · cases hg; simp only [Rv] at ru rv; subst ru; subst rv; exact ⟨_, _, rfl, rfl, q _ (by simp only [Rv])⟩
  · cases hg
theorem so_gtS : SimR2 G (fun x y H Q => ∃ i j, x = .str i ∧ y = .str j ∧ Q (.bl (decide (j.cps.toList < i.cps.toList))) H) oGtS := simP2 fun S x y t u v Q e k ru rv hg q => by
  split at hg
  · cases hg; simp only [Rv] at ru rv; subst ru; subst rv; exact ⟨_, _, rfl, rfl, q _ (by simp only [Rv])⟩
  · cases hg
theorem so_geS : SimR2 G (fun x y H Q => ∃ i j, x = .str i ∧ y = .str j ∧ Q (.bl (!decide (i.cps.toList < j.cps.toList))) H) oGeS := simP2 fun S x y t u v Q e k ru rv hg q => by
  split at hg
  · cases hg; simp only [Rv] at ru rv; subst ru; subst rv; exact ⟨_, _, rfl, rfl, q _ (by simp only [Rv])⟩
  · cases hg
/-! is of bools -/
@[simp] abbrev oIsB := P2 (fun x y => match x, y with | .bl a, .bl b => some (.bl (decide (a = b))) | _, _ => none)
@[simp] abbrev oNotB := P2 (fun x y => match x, y with | .bl a, .bl b => some (.bl (!decide (a = b))) | _, _ => none)
theorem so_isB : SimR2 G rIsB oIsB := simP2 fun S x y t u v Q e k ru rv hg q => by
  split at hg
  · cases hg; simp only [Rv] at ru rv; subst ru; subst rv; exact ⟨_, _, rfl, rfl, q _ (by simp only [Rv])⟩
  · cases hg
theorem so_notB : SimR2 G rNotB oNotB := simP2 fun S x y t u v Q e k ru rv hg q => by
  split at hg
  · cases hg; simp only [Rv] at ru rv; subst ru; subst rv; exact ⟨_, _, rfl, rfl, q _ (by simp only [Rv])⟩
  · cases hg
/-! list * int: a list that is wholly known -/
@[simp] def gRep (x y : T) (h : AH) : Option (List T) := match y with
  | .int k => (lstIn x h).bind fun l => if -(2 ^ 60) ≤ k ∧ k.natAbs.log2 < 60 ∧ l.length * k.toNat ≤ sizeLine then some (List.replicate k.toNat l).flatten else none
  | _ => none
theorem RvL.rep {l : List T} {vs : List V} (r : RvL S l vs) : ∀ n, RvL S (List.replicate n l).flatten (List.replicate n vs).flatten
  | 0 => RvL.nil
  | n + 1 => by
    rw [List.replicate_succ, List.replicate_succ, List.flatten_cons, List.flatten_cons]
    exact r.app (RvL.rep r n)
@[simp] def oRep : T → T → AH → Res T := fun x y h => (pur (gRep x y h) h).bind fun l h1 => .ok (.lst l) h1
@[simp] def oRepO : T → T → AH → Res T := fun x y h => (pur (gRep x y h) h).bind fun l h1 => .ok (.obj h1.length) (h1 ++ [some (.lst l)])
theorem rep_ok {x y : T} {u v : V} {l : List T} (k : Ok S) (ru : Rv S x u) (rv : Rv S y v) (h : gRep x y S.h = some l) : ∃ p i xs, u = .ref p ∧ v = .int i ∧ S.H p = some (.lst xs) ∧ -(2 ^ 63) ≤ i ∧ i < 2 ^ 63 ∧ xs.length * i.toNat ≤ sizeLine ∧ RvL S l (List.replicate i.toNat xs).flatten := by
  unfold gRep at h
  split at h
  · rename_i i
    obtain ⟨m, hm, h⟩ := Option.bind_eq_some_iff.mp h
    split at h
    · rename_i hz
      cases h
      obtain ⟨p, vs, rfl, hp, r⟩ := lstIn_ok k hm ru
      simp only [Rv] at rv
      have hb : i.natAbs < 2 ^ 60 := by
        by_cases z : i.natAbs = 0
        · omega
        · exact (Nat.log2_lt z).mp hz.2.1
      have : (2 : Nat) ^ 60 = 1152921504606846976 := by decide
      exact ⟨p, i, vs, rfl, rv, hp, by omega, by omega, by rw [r.len]; exact hz.2.2, r.rep _⟩
    · cases h
  · cases h
theorem so_rep : SimR2 G rRep oRep := fun S x y u v X Q e k ru rv p => by
  unfold oRep at p
  cases hg : gRep x y S.h with
  | none => rw [hg] at p; exact p.elim
  | some l =>
    rw [hg] at p
    obtain ⟨q, i, xs, rfl, rfl, hq, b1, b2, hl, r⟩ := rep_ok k ru rv hg
    refine ⟨q, i, xs, rfl, rfl, hq, b1, b2, hl, ?_⟩
    exact new_fz k p fun a ha f => rv_lst f (r.mono (step_at k (Grow.upd ha)))
theorem so_repO : SimR2 G rRep oRepO := fun S x y u v X Q e k ru rv p => by
  unfold oRepO at p
  cases hg : gRep x y S.h with
  | none => rw [hg] at p; exact p.elim
  | some l =>
    rw [hg] at p
    obtain ⟨q, i, xs, rfl, rfl, hq, b1, b2, hl, r⟩ := rep_ok k ru rv hg
    refine ⟨q, i, xs, rfl, rfl, hq, b1, b2, hl, ?_⟩
    exact new_obj k p fun S' st => ⟨_, rfl, r.mono st⟩
/-! insert, index -/
@[simp] def gIns : T → List T → AH → Res T
  | .obj i, [.int j, y], h => match h[i]? with
    | some (some (.lst l)) => if l.length < sizeLine ∧ 0 ≤ j ∧ j.natAbs.log2 < 60 then .ok .non (h.set i (some (.lst (l.take j.toNat ++ [y] ++ l.drop j.toNat)))) else .bad
    | _ => .bad
  | _, _, _ => .bad
theorem sm_insert : SimM G "list" (fun x vs H Q => ∃ (l : Addr) (xs : List V) (i : Int) (y : V), x = .ref l ∧ vs = [.int i, y] ∧ H l = some (.lst xs) ∧ xs.length < sizeLine ∧ 0 ≤ i ∧ i < 2 ^ 63 ∧ Q .non (upd H l (.lst (xs.take i.toNat ++ [y] ++ xs.drop i.toNat)))) gIns := fun S x xs u us X Q e k ru rus p => by
  unfold gIns at p
  split at p
  · rename_i i j y
    split at p
    · rename_i l hl
      split at p
      · rename_i hz
        obtain ⟨a, vs, rfl, hp, ha, rl⟩ := obj_lst k hl ru
        simp only [RvL] at rus
        obtain ⟨v, _, rfl, r1, w, _, rfl, r2, rfl⟩ := rus
        simp only [Rv] at r1
        subst r1
        have hb : j.natAbs < 2 ^ 60 := by
          by_cases z : j.natAbs = 0
          · omega
          · exact (Nat.log2_lt z).mp hz.2.2
        have : (2 : Nat) ^ 60 = 1152921504606846976 := by decide
        refine ⟨a, vs, j, w, rfl, rfl, ha, by rw [rl.len]; exact hz.1, hz.2.1, by omega, ?_⟩
        exact put_done k hl hp (RO.mk_lst (((rl.take _).app (RvL.cons r2 RvL.nil)).app (rl.drop _))) (by simp only [Rv]) p
      · exact p.elim
    · exact p.elim
  · exact p.elim
theorem x_index {X : Cx} {K : PySem.W.Frag} (h : X.K = K) : MtR X "list.index" (rIndex K) := h ▸ mt_index
/-- the place of the first like thing -/
def idxT (y : T) : List T → Option Nat
  | [] => none
  | x :: r => if eqF x y = true then some 0 else (idxT y r).map (· + 1)
@[simp] def gIdx : T → List T → AH → Res T := fun x xs h => match xs with
  | [y] => match lstOf x h with
    | some l => if flatT y = true ∧ l.all flatT = true then (match idxT y l with | some j => .ok (.int (j : Nat)) h | none => .bad) else .bad
    | none => .bad
  | _ => .bad
theorem idxT_ok {y : T} {w : V} (ry : Rv S y w) (fy : flatT y = true) : ∀ {l : List T} {vs : List V} {j : Nat}, RvL S l vs → l.all flatT = true → idxT y l = some j → ∃ z, vs[j]? = some z ∧ eqV z w = true ∧ ∀ (m : Nat) (z' : V), m < j → vs[m]? = some z' → eqV z' w = false
  | [], _, _, _, _, h => by cases h
  | x :: l, vs, j, r, fl, h => by
    simp only [RvL] at r
    obtain ⟨v, m, rfl, r1, r2⟩ := r
    rw [List.all_cons, Bool.and_eq_true] at fl
    have eq := eqF_ok ry r1 fy fl.1
    unfold idxT at h
    split at h
    · rename_i hx
      cases h
      exact ⟨v, rfl, by rw [eq]; exact hx, fun m z' hm => by omega⟩
    · rename_i hx
      obtain ⟨i, hi, rfl⟩ := Option.map_eq_some_iff.mp h
      obtain ⟨z, h1, h2, h3⟩ := idxT_ok ry fy r2 fl.2 hi
      refine ⟨z, by simpa using h1, h2, fun q z' hq hz => ?_⟩
      match q with
      | 0 =>
        simp at hz; subst hz
        rw [eq]; exact Bool.eq_false_iff.mpr hx
      | q + 1 => exact h3 q z' (by omega) (by simpa using hz)
theorem sm_index : SimM G "list" (rIndex G.K) gIdx := fun S x xs u us X Q e k ru rus p => by
  unfold gIdx at p
  split at p
  · split at p
    · rename_i y l hl
      split at p
      · rename_i hf
        split at p
        · rename_i j hj
          obtain ⟨a, vs, rfl, hs, rl⟩ := lstOf_ok k hl ru
          simp only [RvL] at rus
          obtain ⟨w, _, rfl, r1, rfl⟩ := rus
          obtain ⟨z, h1, h2, h3⟩ := idxT_ok r1 hf.1 rl hf.2 hj
          rw [e] at hs
          exact ⟨a, vs, w, j, z, rfl, rfl, hs, flat_ok r1 hf.1, flats_ok rl hf.2, h1, h2, h3, p S rfl k (Step.refl S) _ (by simp only [Rv])⟩
        · exact p.elim
      · exact p.elim
    · exact p.elim
  · exact p.elim
/-! isinstance(x, (T, ..)) of built-in types -/
def kitL (a : String) : List String → Option Bool
  | [] => some false
  | b :: r => match kitB a b with | some true => some true | some false => kitL a r | none => none
@[simp] def mIsiT (ns : List String) (fe : FE) : FE := fun τ h => (fe τ h).bind fun x h1 => match (tyOf x h1).bind fun a => kitL a ns with | some b => .ok (.bl b) h1 | none => .bad
theorem kitL_ok {K : PySem.W.Frag} {a : String} : ∀ {ns : List String} {b : Bool}, kitL a ns = some b → PySem.W.kitAny K (.type a) (ns.map .type) = some b
  | [], _, h => h
  | n :: ns, b, h => by
    unfold kitL at h
    split at h
    · rename_i hb; cases h
      exact kitAny_cons (kit_ty hb) (fun z => Bool.noConfusion z) fun _ => rfl
    · rename_i hb
      exact kitAny_cons (kit_ty hb) (fun _ => kitL_ok h) fun z => Bool.noConfusion z
    · cases h
theorem paired_ty : ∀ ns : List String, Paired ClsV (ns.map V.ty) (ns.map Value.type)
  | [] => .nil
  | n :: ns => .cons (.ty n) (paired_ty ns)
theorem sim_isiT {ns : List String} {te : TE} {fe : FE} {t : TA} (hl : ns.length ≤ 100) (he : SimE G E te fe) (ht : CTs t (ns.map V.ty)) : SimE G E (tCB (rIsiT G.K) (tCons te (tCons (tTup t) tNil))) (mIsiT ns fe) := fun S σ τ Q e k rs p => by
  refine he S σ τ _ e k rs (PostG.imp (fun x S1 q u ru => ?_) (PostG.bind p))
  obtain ⟨k1, s1, q⟩ := q
  split at q
  · rename_i b hb
    obtain ⟨a, h1, h2⟩ := Option.bind_eq_some_iff.mp hb
    refine ht.go ⟨by rw [List.length_map]; exact Nat.le_trans hl (by decide), fun r hr => ?_⟩
    have g := Grow.upd (u := HO.tup (ns.map V.ty)) hr
    have st := step_at k1 g
    have ty := tyOf_ok (S := S1.at (upd S1.H r (.tup (ns.map V.ty)))) (ok_at k1 g) (ru.mono st) (n := a) h1
    have eG : (S1.at (upd S1.H r (HO.tup (ns.map V.ty)))).G = G := st.G.trans (s1.G.trans e)
    rw [eG] at ty
    exact ⟨u, r, ns.map V.ty, _, ns.map Value.type, b, rfl, upd_same, paired_ty ns, ty, kitL_ok h2, q (S1.at (upd S1.H r (.tup (ns.map V.ty)))) rfl (ok_at k1 g) st (.bl b) (by simp only [Rv])⟩
  · exact q.elim
theorem x_isiT {X : Cx} {K : PySem.W.Frag} (h : X.K = K) : CallR X (.builtin "isinstance") (rIsiT K) := h ▸ call_isiT
/-! o.f op= e -/
@[simp] def sFldAugM (c f : Str) (g : T → T → AH → Res T) (fo fv : FE) : FS := fun τ h => liftE (fo τ h) τ fun x h1 => match x with
  | .obj i => match h1[i]? with
    | some (some (.ins c' m)) => if c' = c ∧ m.length < 1000 then (match m.lookup f with
      | some a => liftE (fv τ h1) τ fun y h2 => liftE (g a y h2) τ fun z h3 => match h3[i]? with
        | some (some (.ins c2 m2)) => if c2 = c ∧ m2.length < 1000 then .ok (.nx τ) (h3.set i (some (.ins c2 (putFT f z m2)))) else .bad
        | _ => .bad
      | none => .bad) else .bad
    | _ => .bad
  | _ => .bad
theorem sim_fldaug {c f : Str} {ta tv : TE} {fo fv : FE} {rd : V → V → Hp → VK → Prop} {g : T → T → AH → Res T} (hC : Cls G.K (G.ca c)) (hn : NoAttr G.K (G.ca c) f) (hr : SimR2 G rd g) (ha : SimE G (WE W) ta fo) (hv : SimE G (WE W) tv fv) : SimS G W (sFldAug G.K ta tv rd f) (sFldAugM c f g fo fv) := fun S σ τ D e k rs p => by
  refine ha S σ τ _ e k rs (PostG.imp (fun x S1 q u ru => ?_) (PG.lift rs p))
  obtain ⟨k1, s1, q⟩ := q
  have e1 := s1.G.trans e
  split at q
  · rename_i i
    split at q
    · rename_i c' m hm
      split at q
      · rename_i hz
        obtain ⟨rfl, hz⟩ := hz
        split at q
        · rename_i t ht
          obtain ⟨a, ho, rfl, hp, hH, dx, vs, rfl, rk⟩ := obj_at k1 hm ru
          have := rk.look (f := f)
          rw [ht] at this
          cases hv' : vs.lookup f with
          | none => rw [hv'] at this; exact this.elim
          | some w =>
            rw [hv'] at this
            refine ⟨a, G.ca c', dx, vs, w, rfl, by rw [hH, e1], hC, hn, hv', ?_⟩
            refine hv S1 σ τ _ e1 k1 (rs.mono s1) (PostG.imp (fun y S2 q2 v2 rv2 => ?_) (PG.lift (rs.mono s1) q))
            obtain ⟨k2, s2, q2⟩ := q2
            have e2 := s2.G.trans e1
            have this : Rv S1 t w := this
            refine hr S2 t y w v2 _ _ e2 k2 (this.mono s2) rv2 (PostG.imp (fun z S3 q3 v3 rv3 => ?_) (PG.lift (rs.mono (s1.trans s2)) q2))
            obtain ⟨k3, s3, q3⟩ := q3
            have e3 := s3.G.trans e2
            split at q3
            · rename_i c2 m2 hm2
              split at q3
              · rename_i hz2
                obtain ⟨rfl, hz2⟩ := hz2
                have hp3 := s3.al_lt (s2.al_lt hp)
                obtain ⟨a', ho', ea, hp', hH', dx', vs', rfl, rk'⟩ := obj_at k3 hm2 (show Rv S3 (.obj i) (.ref a) by simp only [Rv]; exact ⟨a, hp3, rfl⟩)
                cases ea
                have st := step_put (o' := .ins c2 (putFT f z m2)) (u := .ins (S3.G.ca c2) dx' (putF f v3 vs')) k3 hm2 hp'
                have q4 := q3 (S3.put _ _ _) rfl (ok_put k3 hm2 hp' ⟨dx', _, rfl, rk'.putF rv3⟩) st σ (rs.mono (((s1.trans s2).trans s3).trans st))
                refine ⟨dx', vs', by rw [hH', e3], by rw [rk'.len]; exact hz2, ?_⟩
                rw [← e3]; exact q4
              · exact q3.elim
            · exact q3.elim
        · exact q.elim
      · exact q.elim
    · exact q.elim
  · exact q.elim
/-! d[k] op= e -/
@[simp] def sDAugM (g : T → T → AH → Res T) (fd fy fv : FE) : FS := fun τ h => liftE (fd τ h) τ fun x h1 => liftE (fy τ h1) τ fun y h2 => match x, keyOf y with
  | .obj i, some kk => match h2[i]? with
    | some (some (.dct m)) => (match getT m kk with
      | some a => liftE (fv τ h2) τ fun y2 h3 => liftE (g a y2 h3) τ fun z h4 => match h4[i]? with
        | some (some (.dct m2)) => if m2.length < sizeLine then .ok (.nx τ) (h4.set i (some (.dct (putT m2 kk z)))) else .bad
        | _ => .bad
      | none => .bad)
    | _ => .bad
  | _, _ => .bad
theorem sim_daug {td ty tv : TE} {fd fy fv : FE} {rd : V → V → Hp → VK → Prop} {g : T → T → AH → Res T} (hr : SimR2 G rd g) (hd : SimE G (WE W) td fd) (hy : SimE G (WE W) ty fy) (hv : SimE G (WE W) tv fv) : SimS G W (sDAug td ty tv rd) (sDAugM g fd fy fv) := fun S σ τ D e k rs p => by
  refine hd S σ τ _ e k rs (PostG.imp (fun x S1 q u ru => ?_) (PG.lift rs p))
  obtain ⟨k1, s1, q⟩ := q
  have e1 := s1.G.trans e
  refine hy S1 σ τ _ e1 k1 (rs.mono s1) (PostG.imp (fun y S2 q v rv => ?_) (PG.lift (rs.mono s1) q))
  obtain ⟨k2, s2, q⟩ := q
  have e2 := s2.G.trans e1
  have s12 := s1.trans s2
  split at q
  · rename_i i kk hk q
    split at q
    · rename_i m hm
      split at q
      · rename_i t ht
        obtain ⟨a, ho, rfl, hp, hH, vs, rfl, rk⟩ := obj_at k2 hm (ru.mono s2)
        have hkv := keyOf_ok rv hk
        have := rk.get kk
        rw [ht] at this
        cases hv' : valV vs kk with
        | none => rw [hv'] at this; exact this.elim
        | some w =>
          rw [hv'] at this
          have this : Rv S2 t w := this
          subst hkv
          refine ⟨a, w, rfl, by rw [← hv']; exact DGet.k hH, ?_⟩
          refine hv S2 σ τ _ e2 k2 (rs.mono s12) (PostG.imp (fun y2 S3 q2 v2 rv2 => ?_) (PG.lift (rs.mono s12) q))
          obtain ⟨k3, s3, q2⟩ := q2
          have e3 := s3.G.trans e2
          refine hr S3 t y2 w v2 _ _ e3 k3 (this.mono s3) rv2 (PostG.imp (fun z S4 q3 v3 rv3 => ?_) (PG.lift (rs.mono (s12.trans s3)) q2))
          obtain ⟨k4, s4, q3⟩ := q3
          split at q3
          · rename_i m2 hm2
            split at q3
            · rename_i hz2
              obtain ⟨a', ho', ea, hp', hH', vs', rfl, rk'⟩ := obj_at k4 hm2 (show Rv S4 (.obj i) (.ref a) by simp only [Rv]; exact ⟨a, s4.al_lt (s3.al_lt hp), rfl⟩)
              cases ea
              have st := step_put (o' := .dct (putT m2 kk z)) (u := .dK (putK vs' kk v3)) k4 hm2 hp'
              have q4 := q3 (S4.put _ _ _) rfl (ok_put k4 hm2 hp' ⟨_, rfl, rk'.put kk rv3⟩) st σ (rs.mono (((s12.trans s3).trans s4).trans st))
              exact ⟨_, DPut.k hH' (by rw [rk'.len]; exact hz2), q4⟩
            · exact q3.elim
          · exact q3.elim
      · exact q.elim
    · exact q.elim
  · exact q.elim
/-! a module's dict asked with any text -/
def KFull (G : Env) (d : Addr) (rows : List (Str × T)) : Prop := ∀ z : Str, match rows.lookup z with
  | some t => ∃ u v, PySem.W.nsIn G.K d z = some (some u) ∧ RelV v u ∧ ∀ S, S.G = G → Rv S t v
  | none => PySem.W.nsIn G.K d z = some none
theorem kfull_go {z : Str} {G : Env} : ∀ {es : List DictEntry} {kvs : List (V × V)} {rows : List (Str × T)}, EsR es kvs → RwR G rows kvs →
    match rows.lookup z with
    | some t => ∃ e v, es.find? (·.key.isStr z) = some e ∧ RelV v e.val ∧ ∀ S, S.G = G → Rv S t v
    | none => es.find? (·.key.isStr z) = none ∧ es.any (·.refKey) = false
  | [], [], [], _, _ => ⟨rfl, rfl⟩
  | e :: es, (k, v) :: kvs, (s, t) :: rows, h1, h2 => by
    obtain ⟨⟨r1, r2⟩, h1⟩ := h1
    obtain ⟨⟨ek, rv⟩, h2⟩ := h2
    dsimp only at r1 r2 ek
    subst ek
    obtain ⟨tk, hk⟩ := (show ∃ t, e.key = Value.str s t from r1)
    have ih := kfull_go (z := z) h1 h2
    rw [List.lookup_cons, List.find?_cons, List.any_cons]
    by_cases q : z = s
    · subst q
      have e1 : e.key.isStr z = true := by rw [hk]; simp [Value.isStr]
      rw [e1, beq_self_eq_true]
      exact ⟨e, v, rfl, r2, rv⟩
    · have e1 : e.key.isStr z = false := by rw [hk]; simp [Value.isStr]; exact fun y => q y.symm
      have e2 : (z == s) = false := by simpa using q
      have e3 : e.refKey = false := by unfold DictEntry.refKey; rw [hk]
      rw [e1, e2]
      dsimp only
      split at ih
      · rename_i t' hl; rw [hl]; exact ih
      · rename_i hl; rw [hl, e3]; exact ih
theorem kfull_of {d : Addr} {es : Array DictEntry} {n : Nat} {kvs : List (V × V)} {rows : List (Str × T)} (hl : G.K.lookup d = some ⟨.type "dict", none, .dict es n, #[]⟩) (he : EsR es.toList kvs) (hr : RwR G rows kvs) : KFull G d rows := fun z => by
  have := kfull_go (z := z) he hr
  unfold PySem.W.nsIn
  rw [hl]
  dsimp only
  split at this
  · rename_i t ht
    obtain ⟨e, v, h1, h2, h3⟩ := this
    rw [h1]
    exact ⟨e.val, v, rfl, h2, h3⟩
  · rename_i ht
    rw [this.1, this.2]
    rfl
@[simp] abbrev oKinA (neg : Bool) (n : Str) (rows : List (Str × T)) := P2 (fun x y => match x, y with | .str z, .ref m => if m = n then some (.bl (if neg then !(rows.lookup z).isSome else (rows.lookup z).isSome)) else none | _, _ => none)
@[simp] abbrev oKdA (n : Str) (rows : List (Str × T)) := P2 (fun x y => match x, y with | .ref m, .str z => if m = n then rows.lookup z else none | _, _ => none)
theorem kfull_some {d : Addr} {rows : List (Str × T)} (h : KFull G d rows) (z : Str) : ∃ r, PySem.W.nsIn G.K d z = some r ∧ r.isSome = (rows.lookup z).isSome := by
  have := h z
  split at this
  · rename_i t ht
    obtain ⟨u, v, h1, _⟩ := this
    exact ⟨_, h1, by rw [ht]; rfl⟩
  · rename_i ht; exact ⟨_, this, by rw [ht]; rfl⟩
theorem so_kinA {n : Str} {d : Addr} {rows : List (Str × T)} (hd : G.fa n = .ref d) (hr : KFull G d rows) : SimR2 G (fun x y H Q => ∃ (z : Str) (r : Option Value), x = .str z ∧ y = .ref d ∧ PySem.W.nsIn G.K d z = some r ∧ Q (.bl r.isSome) H) (oKinA false n rows) := simP2 fun S x y t u v Q e k ru rv hg q => by
  split at hg
  · rename_i z m
    split at hg
    · rename_i hm
      subst hm; cases hg
      simp only [Rv] at ru rv
      obtain ⟨r, h1, h2⟩ := kfull_some hr z
      exact ⟨z, r, ru, by rw [rv, e, hd], h1, q _ (by simp only [Rv]; rw [h2]; rfl)⟩
    · cases hg
  · cases hg
theorem so_kninA {n : Str} {d : Addr} {rows : List (Str × T)} (hd : G.fa n = .ref d) (hr : KFull G d rows) : SimR2 G (fun x y H Q => ∃ (z : Str) (r : Option Value), x = .str z ∧ y = .ref d ∧ PySem.W.nsIn G.K d z = some r ∧ Q (.bl (!r.isSome)) H) (oKinA true n rows) := simP2 fun S x y t u v Q e k ru rv hg q => by
  split at hg
  · rename_i z m
    split at hg
    · rename_i hm
      subst hm; cases hg
      simp only [Rv] at ru rv
      obtain ⟨r, h1, h2⟩ := kfull_some hr z
      exact ⟨z, r, ru, by rw [rv, e, hd], h1, q _ (by simp only [Rv]; rw [h2]; rfl)⟩
    · cases hg
  · cases hg
theorem so_kdA {n : Str} {d : Addr} {rows : List (Str × T)} (hd : G.fa n = .ref d) (hr : KFull G d rows) : SimR2 G (fun x y H Q => ∃ (z : Str) (u0 : Value) (v0 : V), x = .ref d ∧ y = .str z ∧ PySem.W.nsIn G.K d z = some (some u0) ∧ RelV v0 u0 ∧ Q v0 H) (oKdA n rows) := simP2 fun S x y t u v Q e k ru rv hg q => by
  split at hg
  · rename_i m z
    split at hg
    · rename_i hm
      subst hm
      simp only [Rv] at ru rv
      have := hr z
      rw [hg] at this
      obtain ⟨u0, v0, h1, h2, h3⟩ := this
      exact ⟨z, u0, v0, by rw [ru, e, hd], rv, h1, h2, q _ (h3 S e)⟩
    · cases hg
  · cases hg
/-! tuple + tuple, any of them empty -/
@[simp] def gCatA : T → T → Option T
  | .tup l, .tup m => if l.length + m.length ≤ sizeLine then some (.tup (l ++ m)) else none
  | _, _ => none
@[simp] abbrev oCatA : T → T → AH → Res T := P2 gCatA
theorem x_catA {X : Cx} {K : PySem.W.Frag} (h : X.K = K) : OpR X (binaryOp .Add) (rCatA K) := h ▸ op_catA
theorem so_catA : SimR2 G (rCatA G.K) oCatA := fun S x y u v X Q e k ru rv p => by
  rw [← e]
  unfold oCatA P2 pur at p
  split at p
  · rename_i t ht
    unfold gCatA at ht
    split at ht
    · rename_i l m
      split at ht
      · rename_i hz
        cases ht
        obtain ⟨a, xs, ru', hs, rl⟩ := tupOf_ok (l := l) rfl ru
        obtain ⟨b, ys, rv', hs2, rm⟩ := tupOf_ok (l := m) rfl rv
        have nx : xs = [] → l = [] := by
          rintro rfl
          have := rl.len
          exact List.length_eq_zero_iff.mp (by simpa using this.symm)
        have ny : ys = [] → m = [] := by
          rintro rfl
          have := rm.len
          exact List.length_eq_zero_iff.mp (by simpa using this.symm)
        subst ru'; subst rv'
        refine ⟨a, b, xs, ys, rfl, rfl, hs, hs2, by rw [rl.len, rm.len]; exact hz, fun z => ?_, fun _ z => ?_, fun _ _ => new_fz k p fun p n f => rv_tup f ((rl.app rm).mono (step_at (by assumption) (Grow.upd n)))⟩
        · have z := nx z; subst z
          exact p S rfl k (Step.refl S) _ rv
        · have z := ny z; subst z
          rw [List.append_nil] at p
          exact p S rfl k (Step.refl S) _ ru
      · cases ht
    · cases ht
  · exact p.elim
/-! n.bit_length() -/
@[simp] def mBits (fo : FE) : FE := fun τ h => (fo τ h).bind fun x h1 => match x with | .int i => .ok (.int (Builtin.Int.intBits i : Nat)) h1 | _ => .bad
theorem sim_bits {to : TE} {fo : FE} (ho : SimE G E to fo) : SimE G E (tBits to) (mBits fo) := fun S σ τ Q e k rs p => by
  refine ho S σ τ _ e k rs (PostG.imp (fun x S1 q u ru => ?_) (PostG.bind p))
  obtain ⟨k1, s1, q⟩ := q
  split at q
  · simp only [Rv] at ru; exact ⟨_, ru, q S1 rfl k1 (Step.refl S1) _ (by simp only [Rv])⟩
  · exact q.elim
end M
/-! a call of a local that holds a def; len(set(t)) -/
/- a level below another -/
namespace M
open PySem PySem.Spec PyProof.Rows L2
variable {G : Env} {W : WX} {S : Sta} {E : L2.St → XK}
/-- the local i holds the def nm, with the mirror m: its call; else as els -/
@[simp] def mCallL (i : Nat) (nm : Str) (n : Nat) (m : List T → AH → Res T) (fr : FA) (els : FE) : FE := fun τ h => match τ[i]? with
  | some (some (.ref a)) => if a = nm then mCall n m fr τ h else els τ h
  | _ => .bad
theorem sim_callL {i n : Nat} {nm : Str} {f : Addr} {m : List T → AH → Res T} {ta : TA} {fa : FA} {tb : TE} {fb : FE} (hl : G.fa nm = .ref f) (ha : SimA G E ta fa) (hb : SimE G E tb fb) :
    SimE G E (tAlt (tCallL i f (spM G n m) [] (fun _ _ _ => True) ta) tb) (mCallL i nm n m fa fb) := fun S σ τ Q e k rs p => by
  unfold mCallL at p
  split at p
  · rename_i a ht
    split at p
    · rename_i h
      subst h
      obtain ⟨w, h1, h2⟩ := rs.get ht
      simp only [Rv] at h2
      rw [e, hl] at h2
      subst h2
      exact .inl ⟨h1, sim_call ha S σ τ Q e k rs p⟩
    · exact .inr (hb S σ τ Q e k rs p)
  · exact p.elim
/-- an own class as its instances' fields are asked -/
structure TxC (K : PySem.W.Frag) (C : Addr) (fs : List Str) : Prop where
  cl : Cls K C
  no : ∀ f ∈ fs, NoAttr K C f
section
variable {X : Cx} {CX : CXT} {k : Nat} {f C : Addr} {fd : FuncData} {ps : List Str} {sp : Sp} {E : L2.St → XK} {x : Str} {p pos : Pos} {e : Expr} {es : List Expr} {ds : List Value} {dvs : List V} {t : TA}
/-- C(e, ..) whose __init__ may raise, at the slots σ -/
def tMakeS (C : Addr) (sp : Sp) (dvs : List V) (E : L2.St → XK) (t : TA) : TE := fun σ H Q => t σ H fun vs H1 => ∀ x dx, H1 x = none → H1 dx = none → dx ≠ x → sp (.ref x :: (vs ++ dvs)) (upd (upd H1 dx (.own x)) x (.ins C dx [])) (fun v H2 => v = .non ∧ Q (.ref x) H2) (E σ)
theorem pe_makeS (Z : Mk X.K C f) (F : FnOk X.prog X.w X.K X.mg X.base CX k f fd ps sp) (hr : Room (k + 1) X.A) (hg : Gl X x) (hm : X.mg x = some (.ref C)) (hb : Binds X.K fd ps ds) (hd : Vals dvs ds) (hx : ∀ σ, PassesAt CX X σ (E σ))
    (ha : PA X (e :: es) t) (hdb : (x == ("__debug__" : Str)) = false := by decide) (he : starEach (e :: es) X.env = (false, eval e X.env) :: starEach es X.env := by rfl) (hpl : (backTo pos (starEach es X.env)).any (·.1) = false := by rfl) :
    PE X (.Call (.Name x p) (e :: es) [] pos) (tMakeS C sp dvs E t) := by
  refine ⟨fun pins s σ H Q I h => ?_⟩
  refine wpAny_Call_Name_kw (ld_glob I hg hm ?_ hdb)
  refine PySem.W.callWith_K (h₀ := X.base) I.ok.mod.kin Z.kp (thn (ha.run pos pins s σ H _ I h) fun us s1 ⟨vs, H1, I1, r, q⟩ => ⟨I1.kIn, ?_⟩) he hpl
  have hq := q (s1.heap.objs.size + 1) s1.heap.objs.size (I1.hok.fresh (Nat.le_succ _)) (I1.hok.fresh (Nat.le_refl _)) (Nat.ne_of_lt (Nat.lt_succ_self _))
  have I2 := Inv.made (C := C) I1
  have r2 : Vals (V.ref (s1.heap.objs.size + 1) :: (vs ++ dvs)) (Value.ref (s1.heap.objs.size + 1) :: (us ++ ds)) := .cons rfl (r.append hd)
  have hl : (Value.ref (s1.heap.objs.size + 1) :: us ++ ds).length = ps.length := r2.length.symm.trans (F.len _ _ _ _ hq)
  refine wpAny_call (make_map (f := f) I1.kIn Z.makes Z.init (beq_iff_eq.mp Z.fn) (codeAny_mono (F.run _ X.stack _ _ ⟨Value.ref (s1.heap.objs.size + 1) :: us, []⟩ (Value.ref (s1.heap.objs.size + 1) :: (us ++ ds)) _ _ (E σ) (hr.make C us [])
    (I2.env0.make C us []) (hb _ (Value.ref (s1.heap.objs.size + 1) :: us) I2.kIn hl) r2 hq) fun r s' hq' => ?_))
  cases r with
  | error e => exact hx σ pins _ _ e s' I2 hq'
  | ok fl =>
    cases fl with
    | ret u =>
      obtain ⟨v, H', I3, rv, ev, q3⟩ := I2.after hq'
      subst ev
      exact ⟨rv, ⟨V.ref (s1.heap.objs.size + 1), H', I3, rfl, q3⟩⟩
    | next => exact False.elim hq'
    | brk => exact False.elim hq'
    | cont => exact False.elim hq'
end
theorem sim_makeS {c : Str} {C : Addr} {n : Nat} {mir : List T → AH → Res T} {fz : Bool} {tr : TA} {fr : FA} (hc : G.ca c = C) (hr : SimA G E tr fr) : SimE G E (tMakeS C (spM G n mir) [] E tr) (mMake c n mir fz fr) := fun S σ τ Q e k rs p => by
  subst hc
  refine hr S σ τ _ e k rs (PostG.imp (fun xs S1 q us rus => ?_) (PostG.bind p))
  obtain ⟨k1, s1, q⟩ := q
  split at q
  · rename_i hn
    rw [List.append_nil]
    exact make_core (s1.G.trans e) k1 rus hn (fun _ _ h => h) q
  · exact q.elim
theorem cl_at {G : Env} {c : Str} {C : Addr} {fs : List Str} (hc : G.ca c = C) (T : TxC G.K C fs) : Cls G.K (G.ca c) := by rw [hc]; exact T.cl
theorem no_at {G : Env} {c f : Str} {C : Addr} {fs : List Str} (hc : G.ca c = C) (T : TxC G.K C fs) (h : f ∈ fs) : NoAttr G.K (G.ca c) f := by rw [hc]; exact T.no f h
/-! how many unlike numbers -/
def cntD : List Int → Nat
  | [] => 0
  | x :: r => if x ∈ r then cntD r else cntD r + 1
theorem cntD_le : ∀ l : List Int, cntD l ≤ l.length
  | [] => Nat.le_refl _
  | x :: r => by
    have := cntD_le r
    unfold cntD
    rw [List.length_cons]
    split <;> omega
theorem cntD_nodup : ∀ {l : List Int}, cntD l = l.length ↔ l.Nodup
  | [] => by simp [cntD]
  | x :: r => by
    have h := cntD_le r
    have ih := cntD_nodup (l := r)
    unfold cntD
    rw [List.length_cons, List.nodup_cons]
    split
    · rename_i hx
      constructor
      · intro e; omega
      · intro e; exact absurd hx e.1
    · rename_i hx
      constructor
      · intro e; exact ⟨hx, ih.mp (by omega)⟩
      · intro e; rw [ih.mpr e.2]
theorem cntD_eq : ∀ {l keys : List Int}, keys.Nodup → (∀ k, k ∈ l ↔ k ∈ keys) → keys.length = cntD l
  | [], keys, _, hm => by
    cases keys with
    | nil => rfl
    | cons x r => exact absurd ((hm x).mpr List.mem_cons_self) (by simp)
  | x :: r, keys, hn, hm => by
    unfold cntD
    split
    · rename_i hx
      refine cntD_eq hn fun k => ?_
      rw [← hm k, List.mem_cons]
      constructor
      · exact .inr
      · rintro (rfl | h)
        · exact hx
        · exact h
    · rename_i hx
      have hk : x ∈ keys := (hm x).mp List.mem_cons_self
      have := cntD_eq (l := r) (keys := keys.erase x) (hn.erase x) fun k => by
        rw [hn.mem_erase_iff, ← hm k, List.mem_cons]
        constructor
        · intro h
          exact ⟨fun e => hx (e ▸ h), .inr h⟩
        · rintro ⟨h1, h2 | h2⟩
          · exact absurd h2 h1
          · exact h2
      rw [List.length_erase_of_mem hk] at this
      have : 0 < keys.length := List.length_pos_of_mem hk
      omega
/-- len(set(t)), t a tuple of numbers -/
def tLenSet (ta : TE) : TE := fun σ H Q => ta σ H fun x H1 => ∃ (l : Addr) (ns : List Int), x = .ref l ∧ H1 l = some (.tup (ns.map V.int)) ∧ ns.length ≤ 4000 ∧ Q (.int (cntD ns : Nat)) H1
theorem vals_ints : ∀ {ns : List Int} {us : List Value}, Vals (ns.map V.int) us → PyProof.Rows.IntsAre us ns
  | [], _, .nil => .nil
  | n :: ns, _, .cons r t => by
    obtain ⟨k, rfl⟩ := r
    exact .cons n k (vals_ints t)
theorem pe_lenSet {X : Cx} {a : Expr} {ta : TE} {p p2 q pos : Pos} (hg : Gl X "len") (hm : X.mg "len" = none) (hg2 : Gl X "set") (hm2 : X.mg "set" = none) (ha : PE X a ta) (hc : X.calm = true := by rfl)
    (na : starEach [a] X.env = (false, eval a X.env) :: starEach [] X.env := by rfl) : PE X (.Call (.Name "len" p) [.Call (.Name "set" p2) [a] [] q] [] pos) (tLenSet ta) := by
  refine ⟨fun pins s σ H Q I h => ?_⟩
  refine Call_ (ld_blt I hg hm boot_len ?_)
  refine PyProof.Rows.callWith_builtin1 (PyProof.Rows.args_cons ?_ rfl) rfl rfl
  refine Call_ (ld_blt I hg2 hm2 boot_set ?_)
  refine PyProof.Rows.callWith_type1 (PyProof.Rows.args_cons (thn (ha.run pins s σ H _ I h) fun v s1 ⟨x, H1, I1, r1, q1⟩ => PyProof.Rows.args_nil ?_) na) na rfl
  obtain ⟨l, ns, rfl, hq, hl, q1⟩ := q1
  cases r1
  obtain ⟨its, r, pl, hz⟩ := I1.tuple (.inl (.inl hq))
  have hT : s1.heap.IsTuple l its.toArray := pl
  refine call_set_tupI ns (I1.ok.hd hc) hT (by simpa using vals_ints r) (by unfold scanBound; omega) fun h' tk c hS hcl hk => ?_
  refine PyProof.Rows.args_nil ?_
  obtain ⟨o, es, ep, t, ho, hex, hd, _, hnd, hmem, _, hf, hn, _⟩ := hS
  have I2 : Inv X pins σ H1 { s1 with heap := h', toks := tk } := I1.kept hk
  have key : c = cntD ns := by
    have := cntD_eq (keys := es.toList.map L2.keyOf) (l := ns) hnd fun k => by
      have := hmem k
      rw [decide_eq_true_iff] at this
      exact this
    rw [List.length_map, Array.length_toList, hn] at this
    exact this
  exact call_len_set ho hex hd hf (by rw [hn] <;> omega) ⟨.int c, H1, I2.tok _, ⟨_, by rw [hn]⟩, key ▸ q1⟩
@[simp] def mLenSet (fo : FE) : FE := fun τ h => (fo τ h).bind fun x h1 => match x with
  | .tup l => match intsOf l with
    | some ns => if ns.length ≤ 4000 then .ok (.int (cntD ns : Nat)) h1 else .bad
    | none => .bad
  | _ => .bad
theorem sim_lenSet {to : TE} {fo : FE} (ho : SimE G E to fo) : SimE G E (tLenSet to) (mLenSet fo) := fun S σ τ Q e k rs p => by
  refine ho S σ τ _ e k rs (PostG.imp (fun x S1 q u ru => ?_) (PostG.bind p))
  obtain ⟨k1, s1, q⟩ := q
  split at q
  · rename_i l
    split at q
    · rename_i ns hns
      split at q
      · rename_i hz
        simp only [Rv] at ru
        obtain ⟨p, vs, rfl, ⟨hp, _⟩, rl⟩ := ru
        rw [intsOf_ok rl hns] at hp
        exact ⟨p, ns, rfl, hp, hz, q S1 rfl k1 (Step.refl S1) _ (by simp only [Rv])⟩
      · exact q.elim
    · exact q.elim
  · exact q.elim
end M
/-! list(range(..)), reversed(range(..)), sorted numbers -/
namespace M
open PySem PySem.Spec PyProof.Rows L2
variable {G : Env} {W : WX} {S : Sta} {E : L2.St → XK}
theorem nf_ref {p : Addr} : (V.ref p) ≠ .non := fun z => by cases z
theorem nf_ite {c : Prop} [Decidable c] {p : Addr} {v : V} (h : v ≠ .non) : (if c then V.ref p else v) ≠ .non := by
  split
  · exact nf_ref
  · exact h
/-- a range's bounds -/
def SimRg (G : Env) (E : L2.St → XK) (tr : L2.St → Hp → (Int → Int → Hp → Prop) → Prop) (f : LS → AH → Res (Int × Int)) : Prop := ∀ (S : Sta) (σ : L2.St) (τ : LS) (R : Int → Int → Hp → Prop), S.G = G → Ok S → RS S τ σ → PostG S (XP (E σ)) (fun ab S' => R ab.1 ab.2 S'.H) (f τ S.h) → tr σ S.H R
@[simp] def gRg1 (fe : FE) : LS → AH → Res (Int × Int) := fun τ h => (fe τ h).bind fun x h1 => match x with | .int n => .ok (0, n) h1 | _ => .bad
theorem sim_rg1 {te : TE} {fe : FE} (he : SimE G E te fe) : SimRg G E (tRg1 te) (gRg1 fe) := fun S σ τ R e k rs p => by
  refine he S σ τ _ e k rs (PostG.imp (fun x S1 q u ru => ?_) (PostG.bind p))
  obtain ⟨k1, s1, q⟩ := q
  split at q
  · simp only [Rv] at ru
    exact ⟨_, ru, q S1 rfl k1 (Step.refl S1)⟩
  · exact q.elim
@[simp] def gRg2 (fa fb : FE) : LS → AH → Res (Int × Int) := fun τ h => (fa τ h).bind fun x h1 => (fb τ h1).bind fun y h2 => match x, y with | .int i, .int j => .ok (i, j) h2 | _, _ => .bad
theorem sim_rg2 {ta tb : TE} {fa fb : FE} (ha : SimE G E ta fa) (hb : SimE G E tb fb) : SimRg G E (tRg2 ta tb) (gRg2 fa fb) := fun S σ τ R e k rs p => by
  refine ha S σ τ _ e k rs (PostG.imp (fun x S1 q u ru => ?_) (PostG.bind p))
  obtain ⟨k1, s1, q⟩ := q
  refine hb S1 σ τ _ (s1.G.trans e) k1 (rs.mono s1) (PostG.imp (fun y S2 q2 v rv => ?_) (PostG.bind q))
  obtain ⟨k2, s2, q2⟩ := q2
  split at q2
  · simp only [Rv] at ru rv
    exact ⟨_, _, ru, rv, q2 S2 rfl k2 (Step.refl S2)⟩
  · exact q2.elim
theorem rv_irange {a : Int} : ∀ {n : Nat}, RvL S (irange a n) ((List.range n).map fun i => V.int (a + (i : Nat))) := by
  intro n
  unfold irange
  generalize List.range n = l
  induction l with
  | nil => simp only [List.map_nil, RvL]
  | cons x r ih =>
    simp only [List.map_cons, RvL]
    exact ⟨_, _, rfl, by simp only [Rv], ih⟩
/-- the range as a list -/
def rgL (a b : Int) : Option (List T) := match r62 a && r62 b && Nat.ble (b - a).toNat 100000 with | true => some (irange a (b - a).toNat) | false => none
theorem rgL_ok {a b : Int} {l : List T} (h : rgL a b = some l) : RgOk a b ∧ l = irange a (b - a).toNat := by
  unfold rgL at h
  split at h
  · rename_i z
    simp only [Bool.and_eq_true, Nat.ble_eq] at z
    cases h
    have h1 := r62_iff z.1.1; have h2 := r62_iff z.1.2
    exact ⟨⟨h1.1, h1.2, h2.1, h2.2, by omega⟩, rfl⟩
  · cases h
@[simp] theorem rgL_eq {a b : Int} (ha : r62 a = true) (hb : r62 b = true) (h : (b - a).toNat ≤ 100000) : rgL a b = some (irange a (b - a).toNat) := by
  unfold rgL
  rw [ha, hb, show Nat.ble (b - a).toNat 100000 = true from Nat.ble_eq.mpr h]; rfl
@[simp] def mLstRg (fr : LS → AH → Res (Int × Int)) : FE := fun τ h => (fr τ h).bind fun ab h1 => match rgL ab.1 ab.2 with | some l => .ok (.lst l) h1 | none => .bad
@[simp] def mLstRgO (fr : LS → AH → Res (Int × Int)) : FE := fun τ h => (fr τ h).bind fun ab h1 => match rgL ab.1 ab.2 with | some l => .ok (.obj h1.length) (h1 ++ [some (.lst l)]) | none => .bad
theorem sim_lstRg {tr : L2.St → Hp → (Int → Int → Hp → Prop) → Prop} {fr : LS → AH → Res (Int × Int)} (hr : SimRg G E tr fr) : SimE G E (tLstRg tr) (mLstRg fr) := fun S σ τ Q e k rs p => by
  refine hr S σ τ _ e k rs (PostG.imp (fun ab S1 q => ?_) (PostG.bind p))
  obtain ⟨k1, s1, q⟩ := q
  split at q
  · rename_i l hl
    obtain ⟨ok, rfl⟩ := rgL_ok hl
    exact ⟨ok, new_fz k1 q fun p n f => rv_lst f rv_irange⟩
  · exact q.elim
theorem sim_lstRgO {tr : L2.St → Hp → (Int → Int → Hp → Prop) → Prop} {fr : LS → AH → Res (Int × Int)} (hr : SimRg G E tr fr) : SimE G E (tLstRg tr) (mLstRgO fr) := fun S σ τ Q e k rs p => by
  refine hr S σ τ _ e k rs (PostG.imp (fun ab S1 q => ?_) (PostG.bind p))
  obtain ⟨k1, s1, q⟩ := q
  split at q
  · rename_i l hl
    obtain ⟨ok, rfl⟩ := rgL_ok hl
    exact ⟨ok, new_obj k1 q fun S' st => ⟨_, rfl, rv_irange⟩⟩
  · exact q.elim
@[simp] def mTupRg (fr : LS → AH → Res (Int × Int)) : FE := fun τ h => (fr τ h).bind fun ab h1 => match rgL ab.1 ab.2 with | some l => .ok (.tup l) h1 | none => .bad
theorem sim_tupRg {tr : L2.St → Hp → (Int → Int → Hp → Prop) → Prop} {fr : LS → AH → Res (Int × Int)} (hr : SimRg G E tr fr) : SimE G E (tTupRg tr) (mTupRg fr) := fun S σ τ Q e k rs p => by
  refine hr S σ τ _ e k rs (PostG.imp (fun ab S1 q => ?_) (PostG.bind p))
  obtain ⟨k1, s1, q⟩ := q
  split at q
  · rename_i l hl
    obtain ⟨ok, rfl⟩ := rgL_ok hl
    exact ⟨ok, new_fz k1 q fun p n f => rv_tup f rv_irange⟩
  · exact q.elim
/-! reversed(range(..)) -/
@[simp] def iRevRM (fr : LS → AH → Res (Int × Int)) : FA := fun τ h => (fr τ h).bind fun ab h1 => match rgL ab.1 ab.2 with | some l => .ok l.reverse h1 | none => .bad
theorem sim_revR {tr : L2.St → Hp → (Int → Int → Hp → Prop) → Prop} {fr : LS → AH → Res (Int × Int)} (hr : SimRg G E tr fr) : SimI G E (iRevR tr) (iRevRM fr) := fun S σ τ R e k rs p => by
  refine hr S σ τ _ e k rs (PostG.imp (fun ab S1 q => ?_) (PostG.bind p))
  obtain ⟨k1, s1, q⟩ := q
  split at q
  · rename_i l hl
    obtain ⟨⟨h1, h2, h3, h4, _⟩, rfl⟩ := rgL_ok hl
    refine ⟨h1, h2, h3, h4, q S1 rfl k1 (Step.refl S1) _ fun S2 st k i => ?_⟩
    refine ⟨fun x hx => ?_, fun h => by rw [List.length_reverse, irange, List.length_map, List.length_range] at h; exact h⟩
    have hi := (List.getElem?_eq_some_iff.mp hx).1
    rw [List.length_reverse] at hi
    rw [List.getElem?_reverse hi] at hx
    have hn : (irange ab.1 (ab.2 - ab.1).toNat).length = (ab.2 - ab.1).toNat := by rw [irange, List.length_map, List.length_range]
    rw [hn] at hx hi
    unfold irange at hx
    rw [List.getElem?_map, List.getElem?_range (by omega)] at hx
    simp only [Option.map_some, Option.some.injEq] at hx
    refine ⟨hi, fun v H' hy => ?_⟩
    obtain ⟨rfl, rfl⟩ := hy
    refine ⟨S2, rfl, rfl, k, Step.refl S2, ?_⟩
    rw [← hx]
    simp only [Rv]
    congr 1
    omega
  · exact q.elim
/-! l[::-1] -/
@[simp] def mRevL (fo : FE) : FE := fun τ h => (fo τ h).bind fun x h1 => match lstOf x h1 with | some l => .ok (.lst l.reverse) h1 | none => .bad
@[simp] def mRevLO (fo : FE) : FE := fun τ h => (fo τ h).bind fun x h1 => match lstOf x h1 with | some l => .ok (.obj h1.length) (h1 ++ [some (.lst l.reverse)]) | none => .bad
theorem x_revL {X : Cx} {K : PySem.W.Frag} (h : X.K = K) {e : Expr} {te : TE} {k : Nat} {p1 p2 p3 pos : Pos} (he : PE X e te) : PE X (.Subscript e (.Slice none none (some (.UnaryOp .USub (.Constant (.int 1) k p1) p2)) p3) pos) (tRevL K te) := h ▸ pe_revL he
theorem sim_revL {to : TE} {fo : FE} (ho : SimE G E to fo) : SimE G E (tRevL G.K to) (mRevL fo) := fun S σ τ Q e k rs p => by
  refine ho S σ τ _ e k rs (PostG.imp (fun x S1 q u ru => ?_) (PostG.bind p))
  obtain ⟨k1, s1, q⟩ := q
  have e1 := s1.G.trans e
  split at q
  · rename_i l hl
    obtain ⟨a, vs, rfl, hs, rl⟩ := lstOf_ok k1 hl ru
    exact ⟨a, vs, rfl, by rw [← e1]; exact hs, new_fz k1 q fun p n f => rv_lst f ((RvL.rev rl).mono (step_at (by assumption) (Grow.upd n)))⟩
  · exact q.elim
theorem sim_revLO {to : TE} {fo : FE} (ho : SimE G E to fo) : SimE G E (tRevL G.K to) (mRevLO fo) := fun S σ τ Q e k rs p => by
  refine ho S σ τ _ e k rs (PostG.imp (fun x S1 q u ru => ?_) (PostG.bind p))
  obtain ⟨k1, s1, q⟩ := q
  have e1 := s1.G.trans e
  split at q
  · rename_i l hl
    obtain ⟨a, vs, rfl, hs, rl⟩ := lstOf_ok k1 hl ru
    exact ⟨a, vs, rfl, by rw [← e1]; exact hs, new_obj k1 q fun S' st => ⟨_, rfl, (RvL.rev rl).mono st⟩⟩
  · exact q.elim
/-! sorted -/
def insI (x : Int) : List Int → List Int
  | [] => [x]
  | y :: r => if x ≤ y then x :: y :: r else y :: insI x r
def sortI : List Int → List Int
  | [] => []
  | x :: r => insI x (sortI r)
theorem insI_perm {x : Int} : ∀ l : List Int, (insI x l).Perm (x :: l)
  | [] => .refl _
  | y :: r => by
    unfold insI
    split
    · exact .refl _
    · exact ((insI_perm r).cons y).trans (.swap x y r)
theorem sortI_perm : ∀ l : List Int, (sortI l).Perm l
  | [] => .refl _
  | x :: r => (insI_perm _).trans ((sortI_perm r).cons x)
theorem insI_sorted {x : Int} : ∀ {l : List Int}, l.Pairwise (· ≤ ·) → (insI x l).Pairwise (· ≤ ·)
  | [], _ => List.pairwise_singleton _ _
  | y :: r, h => by
    have h1 := List.pairwise_cons.mp h
    unfold insI
    split
    · rename_i z
      refine List.pairwise_cons.mpr ⟨fun a ha => ?_, h⟩
      rcases List.mem_cons.mp ha with rfl | ha
      · exact z
      · exact Int.le_trans z (h1.1 a ha)
    · rename_i z
      refine List.pairwise_cons.mpr ⟨fun a ha => ?_, insI_sorted h1.2⟩
      rcases List.mem_cons.mp ((insI_perm r).mem_iff.mp ha) with rfl | ha
      · omega
      · exact h1.1 a ha
theorem sortI_sorted : ∀ l : List Int, (sortI l).Pairwise (· ≤ ·)
  | [] => List.Pairwise.nil
  | _ :: r => insI_sorted (sortI_sorted r)
theorem sortI_uniq {l m : List Int} (hp : m.Perm l) (hs : m.Pairwise (· ≤ ·)) : m = sortI l :=
  List.Perm.eq_of_pairwise (fun a b _ _ h1 h2 => Int.le_antisymm h1 h2) hs (sortI_sorted l) (hp.trans (sortI_perm l).symm)
theorem rv_ints {ns : List Int} : RvL S (ns.map T.int) (ns.map V.int) := by
  induction ns with
  | nil => simp only [List.map_nil, RvL]
  | cons x r ih =>
    simp only [List.map_cons, RvL]
    exact ⟨_, _, rfl, by simp only [Rv], ih⟩
@[simp] abbrev bSorted : List T → AH → Res T := fun xs h => match xs with | [x] => (pur ((lstOf x h).bind intsOf) h).bind fun ns h1 => .ok (.lst ((sortI ns).map T.int)) h1 | _ => .bad
@[simp] abbrev bSortedO : List T → AH → Res T := fun xs h => match xs with | [x] => (pur ((lstOf x h).bind intsOf) h).bind fun ns h1 => .ok (.obj h1.length) (h1 ++ [some (.lst ((sortI ns).map T.int))]) | _ => .bad
theorem x_sorted {X : Cx} {K : PySem.W.Frag} (h : X.K = K) : CallR X (.builtin "sorted") (rSortedI K) := h ▸ cr_sortedI
theorem sb_sorted : SimRC G (rSortedI G.K) bSorted := fun S xs us X Q e k ru p => by
  rw [← e]
  unfold bSorted at p
  split at p
  · unfold pur at p
    split at p
    · rename_i ns hns
      obtain ⟨l, hl, hb⟩ := Option.bind_eq_some_iff.mp hns
      simp only [RvL] at ru
      obtain ⟨v, _, rfl, h1, rfl⟩ := ru
      obtain ⟨a, vs, rfl, hs, rl⟩ := lstOf_ok k hl h1
      rw [intsOf_ok rl hb] at hs
      refine ⟨a, ns, rfl, hs, fun ns' p' hp hs' n => ?_⟩
      rw [sortI_uniq hp hs']
      exact new_fz k p (fun p n f => rv_lst f rv_ints) p' n
    · exact p.elim
  · exact p.elim
theorem sb_sortedO : SimRC G (rSortedI G.K) bSortedO := fun S xs us X Q e k ru p => by
  rw [← e]
  unfold bSortedO at p
  split at p
  · unfold pur at p
    split at p
    · rename_i ns hns
      obtain ⟨l, hl, hb⟩ := Option.bind_eq_some_iff.mp hns
      simp only [RvL] at ru
      obtain ⟨v, _, rfl, h1, rfl⟩ := ru
      obtain ⟨a, vs, rfl, hs, rl⟩ := lstOf_ok k hl h1
      rw [intsOf_ok rl hb] at hs
      refine ⟨a, ns, rfl, hs, fun ns' p' hp hs' n => ?_⟩
      rw [sortI_uniq hp hs']
      exact new_obj k p (fun S' st => ⟨_, rfl, rv_ints⟩) p' n
    · exact p.elim
  · exact p.elim
end M
/-! f-texts -/
namespace M
open PySem PySem.Spec PyProof.Rows L2
variable {G : Env} {W : WX} {S : Sta} {E : L2.St → XK}
@[simp] def mFmt (fo : FE) : FE := fun τ h => (fo τ h).bind fun x h1 => match x with
  | .str y => if y.length ≤ sizeLine then .ok (.str y) h1 else .bad
  | .int i => if i.natAbs.log2 < 1920 then .ok (.str (toString i)) h1 else .bad
  | _ => .bad
theorem sim_fmt {to : TE} {fo : FE} (ho : SimE G E to fo) : SimE G E (tFmt to) (mFmt fo) := fun S σ τ Q e k rs p => by
  refine ho S σ τ _ e k rs (PostG.imp (fun x S1 q u ru => ?_) (PostG.bind p))
  obtain ⟨k1, s1, q⟩ := q
  split at q
  · split at q
    · rename_i hz
      simp only [Rv] at ru
      exact .inl ⟨_, ru, hz, q S1 rfl k1 (Step.refl S1) _ (by simp only [Rv])⟩
    · exact q.elim
  · split at q
    · rename_i hz
      simp only [Rv] at ru
      exact .inr ⟨_, ru, hz, q S1 rfl k1 (Step.refl S1) _ (by simp only [Rv])⟩
    · exact q.elim
  · exact q.elim
@[simp] def mJs : List FE → Str → FE
  | [], acc => fun _ h => .ok (.str acc) h
  | f :: fs, acc => fun τ h => (f τ h).bind fun x h1 => match x with
    | .str y => if (acc ++ y).length ≤ sizeLine then mJs fs (acc ++ y) τ h1 else .bad
    | _ => .bad
inductive SimJ (G : Env) (E : L2.St → XK) : List TE → List FE → Prop where
  | nil : SimJ G E [] []
  | cons {t : TE} {f : FE} {ts : List TE} {fs : List FE} (h : SimE G E t f) (r : SimJ G E ts fs) : SimJ G E (t :: ts) (f :: fs)
theorem js_run {ts : List TE} {fs : List FE} (h : SimJ G E ts fs) : ∀ (acc : Str) (S : Sta) (σ : L2.St) (τ : LS) (Q : VK), S.G = G → Ok S → RS S τ σ → PostG S (XP (E σ)) (fun t S' => ∀ v, Rv S' t v → Q v S'.H) (mJs fs acc τ S.h) → tJs ts acc σ S.H fun out H1 => Q (.str out) H1 := by
  induction h with
  | nil =>
    intro acc S σ τ Q e k rs p
    exact p S rfl k (Step.refl S) _ (by simp only [Rv])
  | @cons t f ts fs h1 r ih =>
    intro acc S σ τ Q e k rs p
    refine h1 S σ τ _ e k rs (PostG.imp (fun x S1 q u ru => ?_) (PostG.bind p))
    obtain ⟨k1, s1, q⟩ := q
    split at q
    · split at q
      · rename_i hz
        simp only [Rv] at ru
        exact ⟨_, ru, hz, ih _ S1 σ τ Q (s1.G.trans e) k1 (rs.mono s1) q⟩
      · exact q.elim
    · exact q.elim
def tJoin (ts : List TE) : TE := fun σ H Q => tJs ts Str.empty σ H fun out H1 => Q (.str out) H1
theorem x_joined {X : Cx} {v1 v2 : Expr} {rest : List Expr} {ts : List TE} {pos : Pos} (h : PJ X (v1 :: v2 :: rest) ts) : PE X (.JoinedStr (v1 :: v2 :: rest) pos) (tJoin ts) := pe_joined h
@[simp] abbrev mJoin (fs : List FE) : FE := mJs fs Str.empty
theorem sim_join {ts : List TE} {fs : List FE} (h : SimJ G E ts fs) : SimE G E (tJoin ts) (mJoin fs) := fun S σ τ Q e k rs p => js_run h _ S σ τ Q e k rs p
end M
/-! dict(d), d.pop(k), d.pop(k, x) -/
namespace M
open PySem PySem.Spec PyProof.Rows L2
variable {G : Env} {W : WX} {S : Sta} {E : L2.St → XK}
def rDCopy : List V → Hp → VK → Prop := fun xs H Q => ∃ (a : Addr) (kvs : List (Key × V)), xs = [.ref a] ∧ Rd H a (.dK kvs) ∧ ∀ p, H p = none → Q (.ref p) (upd H p (.dK kvs))
theorem call_dcopy {X : Cx} : CallR X (.type "dict") rDCopy := by
  intro pins s σ H xs us Q I r h
  obtain ⟨a, kvs, rfl, ha, q⟩ := h
  obtain ⟨u, rfl, r1⟩ := vals1 r
  cases r1
  exact d_copyOf I ha fun p s' n I' => ⟨.ref p, _, I', rfl, q p n⟩
@[simp] abbrev bDCopy : List T → AH → Res T := fun xs h => match xs with | [x] => (pur (dctK x h) h).bind fun m h1 => .ok (.obj h1.length) (h1 ++ [some (.dct m)]) | _ => .bad
theorem sb_dcopy : SimRC G rDCopy bDCopy := fun S xs us X Q e k ru p => by
  unfold bDCopy at p
  split at p
  · unfold pur at p
    split at p
    · rename_i m hm
      simp only [RvL] at ru
      obtain ⟨v, _, rfl, h1, rfl⟩ := ru
      obtain ⟨a, vs, rfl, ha, rk⟩ := dctK_ok k h1 hm
      exact ⟨a, vs, rfl, ha, new_obj k p fun S' st => ⟨_, rfl, rk.mono st⟩⟩
    · exact p.elim
  · exact p.elim
section
variable {td ty tx : TE} {fd fy fx : FE}
@[simp] def mDPop1 (fd fy : FE) : FE := fun τ h => (fd τ h).bind fun x h1 => if isD x h1 = true then (fy τ h1).bind fun y h2 => match x with
  | .obj i => match h2[i]? with
    | some (some (.dct m)) => match keyOf y with
      | some k => match getT m k with
        | some t => .ok t (h2.set i (some (.dct (dropT m k))))
        | none => .bad
      | none => .bad
    | _ => .bad
  | _ => .bad else .bad
theorem sim_dpop1 (ha : SimE G E td fd) (hb : SimE G E ty fy) : SimE G E (tDPop1 td ty) (mDPop1 fd fy) := fun S σ τ Q e k rs p => by
  refine ha S σ τ _ e k rs (PostG.imp (fun x S1 q u ru => ?_) (PostG.bind p))
  obtain ⟨k1, s1, q⟩ := q
  split at q
  · rename_i hd
    obtain ⟨a, rfl, hD⟩ := isD_ok k1 ru hd
    refine ⟨a, rfl, hD, ?_⟩
    refine hb S1 σ τ _ (s1.G.trans e) k1 (rs.mono s1) (PostG.imp (fun y S2 q v rv => ?_) (PostG.bind q))
    obtain ⟨k2, s2, q⟩ := q
    split at q
    · split at q
      · rename_i m hm
        split at q
        · rename_i ky hk
          split at q
          · rename_i t ht
            obtain ⟨b, ho, eb, hp, ha, vs, rfl, rk⟩ := obj_at k2 hm (ru.mono s2)
            cases eb
            have st := step_put (o' := .dct (dropT m ky)) (u := .dK (dropK vs ky)) k2 hm hp
            have g := rk.get ky
            rw [ht] at g
            cases hv : valV vs ky with
            | none => rw [hv] at g; exact g.elim
            | some w =>
              rw [hv] at g
              exact ⟨vs, ky, w, ha, keyOf_ok rv hk, hv, q (S2.put _ _ _) rfl (ok_put k2 hm hp ⟨_, rfl, rk.drop ky⟩) st w (Rv.mono st g)⟩
          · exact q.elim
        · exact q.elim
      · exact q.elim
    · exact q.elim
  · exact q.elim
@[simp] def mDPop2 (fd fy fx : FE) : FE := fun τ h => (fd τ h).bind fun x h1 => if isD x h1 = true then (fy τ h1).bind fun y h2 => (fx τ h2).bind fun z h3 => match x with
  | .obj i => match h3[i]? with
    | some (some (.dct m)) => match keyOf y with
      | some k => match getT m k with
        | some t => .ok t (h3.set i (some (.dct (dropT m k))))
        | none => .ok z h3
      | none => .bad
    | _ => .bad
  | _ => .bad else .bad
theorem sim_dpop2 (ha : SimE G E td fd) (hb : SimE G E ty fy) (hc : SimE G E tx fx) : SimE G E (tDPop2 td ty tx) (mDPop2 fd fy fx) := fun S σ τ Q e k rs p => by
  refine ha S σ τ _ e k rs (PostG.imp (fun x S1 q u ru => ?_) (PostG.bind p))
  obtain ⟨k1, s1, q⟩ := q
  split at q
  · rename_i hd
    obtain ⟨a, rfl, hD⟩ := isD_ok k1 ru hd
    refine ⟨a, rfl, hD, ?_⟩
    refine hb S1 σ τ _ (s1.G.trans e) k1 (rs.mono s1) (PostG.imp (fun y S2 q v rv => ?_) (PostG.bind q))
    obtain ⟨k2, s2, q⟩ := q
    refine hc S2 σ τ _ (s2.G.trans (s1.G.trans e)) k2 (rs.mono (s1.trans s2)) (PostG.imp (fun z S3 q w rw' => ?_) (PostG.bind q))
    obtain ⟨k3, s3, q⟩ := q
    split at q
    · split at q
      · rename_i m hm
        split at q
        · rename_i ky hk
          obtain ⟨b, ho, eb, hp, ha, vs, rfl, rk⟩ := obj_at k3 hm (ru.mono (s2.trans s3))
          cases eb
          have g := rk.get ky
          refine ⟨vs, ky, ha, keyOf_ok rv hk, fun v hv => ?_, fun hv => ?_⟩
          · rw [hv] at g
            split at q
            · rename_i t ht
              rw [ht] at g
              have st := step_put (o' := .dct (dropT m ky)) (u := .dK (dropK vs ky)) k3 hm hp
              exact q (S3.put _ _ _) rfl (ok_put k3 hm hp ⟨_, rfl, rk.drop ky⟩) st v (Rv.mono st g)
            · rename_i ht
              rw [ht] at g
              exact g.elim
          · rw [hv] at g
            split at q
            · rename_i t ht
              rw [ht] at g
              exact g.elim
            · exact q S3 rfl k3 (Step.refl S3) w rw'
        · exact q.elim
      · exact q.elim
    · exact q.elim
  · exact q.elim
end
end M
/-! isinstance of an own class -/
namespace M
open PySem PySem.Spec PyProof.Rows L2
variable {G : Env} {W : WX} {S : Sta} {E : L2.St → XK}
/-- an own class as isinstance asks its instances -/
structure InsC (K : PySem.W.Frag) (C : Addr) : Prop where
  cl : Cls K C
  ha : PySem.W.findIn K (.ref C) "__class__" = some (some (.builtin "object.__class__"))
  hn : PySem.W.specialIn K (.builtin "object.__class__") "__get__" = some (some (.builtin "getset_descriptor.__get__"))
  ht : PySem.W.takesIn K (.builtin "object.__class__") = some true
  hm : PySem.W.mroIn K C (.type "object") = some true
@[simp] def clsOf : T → AH → Option Str
  | .obj i, h => match h[i]? with | some (some (.ins c _)) => some c | _ => none
  | .inst c _ _, _ => some c
  | _, _ => none
theorem clsOf_ok {x : T} {u : V} {c : Str} {C : Addr} (k : Ok S) (r : Rv S x u) (h : clsOf x S.h = some c) (hc : S.G.ca c = C) (I : InsC S.G.K C) : TyX S.G.K S.H u (.ref C) := by
  subst hc
  unfold clsOf at h
  split at h
  · split at h
    · rename_i m hm
      cases h
      obtain ⟨p, ho, rfl, _, hp, dx, vs, rfl, _⟩ := obj_at k hm r
      exact .base (.ins hp I.cl I.ha I.hn I.ht I.hm)
    · cases h
  · cases h
    simp only [Rv] at r
    obtain ⟨p, dx, vs, rfl, f, _⟩ := r
    exact .base (.ins f.1 I.cl I.ha I.hn I.ht I.hm)
  · cases h
/-- isinstance(e, D), e an instance of the own class c -/
@[simp] def mIsO (c : Str) (b : Bool) (fa : FE) : FE := fun τ h => (fa τ h).bind fun x h1 => match clsOf x h1 with | some a => if a = c then .ok (.bl b) h1 else .bad | none => .bad
theorem sim_isO {c : Str} {C D : Addr} {b : Bool} {ta : TE} {fa : FE} (hc : G.ca c = C) (I : InsC G.K C) (hk : PySem.W.kitOne G.K (.ref C) (.ref D) = some b) (ha : SimE G E ta fa) : SimE G E (tCB (rIsi G.K) (tCons ta (tCons (tC (.ref D)) tNil))) (mIsO c b fa) := fun S σ τ Q e k rs p => by
  refine ha S σ τ _ e k rs (PostG.imp (fun x S1 q u ru => ?_) (PostG.bind p))
  obtain ⟨k1, s1, q⟩ := q
  have e1 := s1.G.trans e
  split at q
  · rename_i a hi
    split at q
    · rename_i h
      subst h
      have ty := clsOf_ok (C := C) k1 ru hi (by rw [e1]; exact hc) (by rw [e1]; exact I)
      rw [e1] at ty
      exact ⟨u, .ref D, _, _, b, rfl, .own D, ty, hk, q S1 rfl k1 (Step.refl S1) _ (by simp only [Rv])⟩
    · exact q.elim
  · exact q.elim
theorem kit_bown {K : PySem.W.Frag} {T : String} {B : Addr} {b : Bool} (i : PySem.W.isClsIn K B = true) (t : PySem.W.typeIn K (.ref B) = some (.type "type")) (s : PySem.W.subIn K (.type T) (.ref B) = some b) : PySem.W.kitOne K (.type T) (.ref B) = some b := by
  have i : (PySem.W.clsIn K B).isSome = true := i
  unfold PySem.W.kitOne PySem.W.kitCls
  dsimp only
  rw [i, t]
  simp [s]
/-- isinstance(e, D), e of the built-in type n -/
@[simp] def mIsB (n : String) (b : Bool) (fa : FE) : FE := fun τ h => (fa τ h).bind fun x h1 => match tyOf x h1 with | some a => if a = n then .ok (.bl b) h1 else .bad | none => .bad
theorem sim_isB {n : String} {D : Addr} {b : Bool} {ta : TE} {fa : FE} (hk : PySem.W.kitOne G.K (.type n) (.ref D) = some b) (ha : SimE G E ta fa) : SimE G E (tCB (rIsi G.K) (tCons ta (tCons (tC (.ref D)) tNil))) (mIsB n b fa) := fun S σ τ Q e k rs p => by
  refine ha S σ τ _ e k rs (PostG.imp (fun x S1 q u ru => ?_) (PostG.bind p))
  obtain ⟨k1, s1, q⟩ := q
  split at q
  · rename_i a hi
    split at q
    · rename_i h
      subst h
      have ty := tyOf_ok k1 ru hi
      rw [s1.G.trans e] at ty
      exact ⟨u, .ref D, _, _, b, rfl, .own D, ty, hk, q S1 rfl k1 (Step.refl S1) _ (by simp only [Rv])⟩
    · exact q.elim
  · exact q.elim
end M
/-! methods that raise -/
namespace M
open PySem PySem.Spec PyProof.Rows L2
variable {G : Env} {W : WX} {S : Sta} {E : L2.St → XK}
def tMethS (C : Addr) (m : Str) (sp : Sp) (E : L2.St → XK) (ta : TE) (t : TA) : TE := fun σ H Q => ta σ H fun x H1 => ∃ a dx fs, x = .ref a ∧ H1 a = some (.ins C dx fs) ∧ fs.lookup m = none ∧ t σ H1 fun vs H2 => sp (x :: vs) H2 Q (E σ)
section
variable {X : Cx} {CX : CXT} {k : Nat} {f C : Addr} {fd : FuncData} {ps : List Str} {sp : Sp} {E : L2.St → XK} {m : Str} {p pos apos : Pos} {o e : Expr} {es : List Expr} {ta : TE} {t : TA}
theorem pe_methS {pl : Sem Bool} (he : PE X o ta) (c : Cls X.K C) (hm : Meth X.K C m f) (F : FnOk X.prog X.w X.K X.mg X.base CX k f fd ps sp) (hr : Room k X.A) (hb : Binds X.K fd ps []) (hx : ∀ σ, PassesAt CX X σ (E σ)) (ha : PA X (e :: es) t)
    (hst : starEach (e :: es) X.env = (false, eval e X.env) :: starEach es X.env := by rfl) (hpl : (backTo pos (starEach es X.env)).any (·.1) = false := by rfl)
    (ht : eval (.Call (.Attribute o m apos) (e :: es) [] pos) X.env = (do
      let ov ← eval o X.env
      standAt apos.atName
      let (f, first) ← holding [ov] (getMethod ov m pl)
      callWith pos f first (backTo pos (starEach (e :: es) X.env)) (backToKw pos (keywordEach [] X.env))) := by rfl) :
    PE X (.Call (.Attribute o m apos) (e :: es) [] pos) (tMethS C m sp E ta t) := by
  refine ⟨fun pins s σ H Q I h => ?_⟩
  refine PySem.W.methodCall_KW (pl := pl) (thn (he.run pins s σ H _ I h) fun u s1 ⟨x, H1, I1, rx, a, dx, fs, ex, ea, l, q⟩ => ?_) ht
  subst ex
  obtain rfl : u = Value.ref a := rx
  refine getmeth_ok I1 ea c hm l ?_
  refine PySem.W.callWith_K (first := [.ref a]) (h₀ := X.base) I.ok.mod.kin hm.kp (thn (ha.run pos pins s1 σ H1 _ I1 q) fun us s2 ⟨vs, H2, I2, r, q2⟩ => ⟨I2.kIn, ?_⟩) hst hpl
  exact run_fnS (us := .ref a :: us) (vs := .ref a :: vs) F hr hb (hx σ) I2 (.cons rfl r) q2
theorem pe_methS0 {pl : Sem Bool} (he : PE X o ta) (c : Cls X.K C) (hm : Meth X.K C m f) (F : FnOk X.prog X.w X.K X.mg X.base CX k f fd ps sp) (hr : Room k X.A) (hb : Binds X.K fd ps []) (hx : ∀ σ, PassesAt CX X σ (E σ))
    (ht : eval (.Call (.Attribute o m apos) [] [] pos) X.env = (do
      let ov ← eval o X.env
      standAt apos.atName
      let (f, first) ← holding [ov] (getMethod ov m pl)
      callWith pos f first (backTo pos (starEach [] X.env)) (backToKw pos (keywordEach [] X.env))) := by rfl) :
    PE X (.Call (.Attribute o m apos) [] [] pos) (tMethS C m sp E ta tNil) := by
  refine ⟨fun pins s σ H Q I h => ?_⟩
  refine PySem.W.methodCall_KW (pl := pl) (thn (he.run pins s σ H _ I h) fun u s1 ⟨x, H1, I1, rx, a, dx, fs, ex, ea, l, q⟩ => ?_) ht
  subst ex
  obtain rfl : u = Value.ref a := rx
  refine getmeth_ok I1 ea c hm l ?_
  exact PySem.W.callWith_K0 (first := [.ref a]) I1.kIn hm.kp (run_fnS (us := [.ref a]) (vs := [.ref a]) F hr hb (hx σ) I1 (.cons rfl .nil) q)
end
theorem sim_methS {ta : TE} {fa : FE} {C : Addr} {m : Str} {n : Nat} {mir : List T → AH → Res T} {tr : TA} {fr : FA} (hc : G.ca c = C) (ha : SimE G E ta fa) (hr : SimA G E tr fr) : SimE G E (tMethS C m (spM G n mir) E ta tr) (mMeth c m n mir fa fr) := fun S σ τ Q e k rs p => by
  subst hc
  refine ha S σ τ _ e k rs (PostG.imp (fun x S1 q u ru => ?_) (PostG.bind p))
  obtain ⟨k1, s1, q⟩ := q
  split at q
  · rename_i ht
    obtain ⟨mm, hm, hl⟩ := Option.map_eq_some_iff.mp ht
    obtain ⟨a, dx, vs, rfl, hH, rk⟩ := insOf_ok k1 ru hm
    have := rk.look (f := m)
    rw [hl] at this
    have e1 := s1.G.trans e
    rw [e1] at hH
    refine ⟨a, dx, vs, rfl, hH, ?_, ?_⟩
    · cases hv : vs.lookup m with
      | none => rfl
      | some w => rw [hv] at this; exact this.elim
    · refine hr S1 σ τ _ e1 k1 (rs.mono s1) (PostG.imp (fun xs S2 q us rus => ?_) (PostG.bind q))
      obtain ⟨k2, s2, q⟩ := q
      split at q
      · rename_i hn
        exact ⟨S2, x :: xs, s2.G.trans e1, k2, rfl, RvL.cons (ru.mono s2) rus, by simpa using hn, q⟩
      · exact q.elim
  · exact q.elim
end M
/-! ### what a mirror comes to: a reading from the end, for simp and for hand -/
namespace M
open PySem PySem.Spec PyProof.Rows L2
section
variable {h : AH}
/-- what slot i holds -/
def slot (τ : LS) (i : Nat) : Option T := match τ[i]? with | some (some t) => some t | _ => none
/-- the first that is found, from k on -/
def firstR {R : Type} (res : Nat → Option R) : Nat → Nat → Option R
  | _, 0 => none
  | k, n + 1 => match res k with | some r => some r | none => firstR res (k + 1) n
/-- a comprehension that changes nothing -/
theorem lc_map {a : FG} {fe : FE} {f : T → T} : ∀ {l : List T} {n : Nat}, n + l.length ≤ sizeLine → (∀ x ∈ l, ∃ τ', a x τ = some τ' ∧ fe τ' h = .ok (f x) h) → mLcL a mYes fe τ n l h = .ok (l.map f) h
  | [], _, _, _ => rfl
  | x :: xs, n, hn, hf => by
    obtain ⟨τ', ha, hb⟩ := hf x List.mem_cons_self
    rw [List.length_cons] at hn
    unfold mLcL
    simp only [ha, mYes, bind_ok, if_true, hb]
    rw [if_pos (by omega), lc_map (by omega) (fun y hy => hf y (List.mem_cons_of_mem _ hy))]
    rfl
end
namespace W0
/-- o is there, and p of it -/
def Op {α : Type} (o : Option α) (p : α → Prop) : Prop := match o with | some a => p a | none => False
@[simp] theorem op_some {α : Type} {a : α} {p : α → Prop} : Op (some a) p = p a := rfl
@[simp] theorem op_none {α : Type} {p : α → Prop} : Op none p = False := rfl
/-- either way -/
def Cd (b : Bool) (p q : Prop) : Prop := if b = true then p else q
@[simp] theorem cd_true {p q : Prop} : Cd true p q = p := rfl
@[simp] theorem cd_false {p q : Prop} : Cd false p q = q := rfl
theorem Cd.of {b : Bool} {p q : Prop} (h1 : b = true → p) (h2 : b = false → q) : Cd b p q := by cases b; exact h2 rfl; exact h1 rfl
def Bo (t : T) (p : Bool → Prop) : Prop := match t with | .bl b => p b | _ => False
@[simp] theorem bo_bl {b : Bool} {p : Bool → Prop} : Bo (.bl b) p = p b := rfl
/-- p, as it stands (simp leaves it) -/
def Kp (p : Prop) (_ : Unit) : Prop := p
theorem Kp.mk {p : Prop} (h : p) : Kp p () := h
@[simp] theorem slot_zero {x : Option T} {τ : LS} : slot (x :: τ) 0 = x := by cases x <;> rfl
@[simp] theorem slot_succ {x : Option T} {τ : LS} {i : Nat} : slot (x :: τ) (i + 1) = slot τ i := by unfold slot; rw [List.getElem?_cons_succ]
def Fr (o : Option T) (p : Nat → Prop) (q : Prop) : Prop := match o with | some (.obj j) => p j | _ => q
section
variable {p : Nat → Prop} {q : Prop}
@[simp] theorem fr_obj {j : Nat} : Fr (some (.obj j)) p q = p j := rfl
@[simp] theorem fr_none : Fr none p q = q := rfl
@[simp] theorem fr_non : Fr (some .non) p q = q := rfl
@[simp] theorem fr_bl {b : Bool} : Fr (some (.bl b)) p q = q := rfl
@[simp] theorem fr_int {b : Int} : Fr (some (.int b)) p q = q := rfl
@[simp] theorem fr_str {b : Str} : Fr (some (.str b)) p q = q := rfl
@[simp] theorem fr_ref {b : Str} : Fr (some (.ref b)) p q = q := rfl
@[simp] theorem fr_tup {l : List T} : Fr (some (.tup l)) p q = q := rfl
@[simp] theorem fr_ktp {l : List T} : Fr (some (.ktp l)) p q = q := rfl
@[simp] theorem fr_lst {l : List T} : Fr (some (.lst l)) p q = q := rfl
@[simp] theorem fr_rdl {l : List T} : Fr (some (.rdl l)) p q = q := rfl
@[simp] theorem fr_inst {c : Str} {ns : List Str} {l : List T} : Fr (some (.inst c ns l)) p q = q := rfl
@[simp] theorem fr_dct {ns : List Key} {l : List T} : Fr (some (.dct ns l)) p q = q := rfl
@[simp] theorem fr_dctT {ns : List (List Key)} {l : List T} : Fr (some (.dctT ns l)) p q = q := rfl
theorem Fr.no {t : T} (h : isObj t = false) : Fr (some t) p q = q := by cases t <;> first | rfl | cases h
end
section
variable {α β : Type}
/-- r comes to a value of which P holds, or raises what X allows -/
def Wp (r : Res α) (P : α → AH → Prop) (X : Exc → AH → Prop) : Prop := match r with | .bad => False | .ok a h => P a h | .exc e h => X e h
variable {P : α → AH → Prop} {X : Exc → AH → Prop} {h : AH}
@[simp] theorem wp_ok {a : α} : Wp (.ok a h) P X = P a h := rfl
@[simp] theorem wp_bad : Wp (.bad : Res α) P X = False := rfl
@[simp] theorem wp_exc {e : Exc} : Wp (.exc e h : Res α) P X = X e h := rfl
@[simp ↓] theorem wp_bind {x : Res β} {f : β → AH → Res α} : Wp (x.bind f) P X = Wp x (fun a h => Wp (f a h) P X) X := by cases x <;> rfl
@[simp ↓] theorem wp_ite {c : Prop} [Decidable c] {x y : Res α} : Wp (if c then x else y) P X = if c then Wp x P X else Wp y P X := by split <;> rfl
@[simp] theorem wp_pur {o : Option α} : Wp (pur o h) P X = Op o (fun a => P a h) := by cases o <;> rfl
@[simp ↓] theorem wp_lift {P : Fl → AH → Prop} {x : Res β} {τ : LS} {k : β → AH → Res Fl} : Wp (liftE x τ k) P X = Wp x (fun a h => Wp (k a h) P X) (fun e h => P (.xc e τ) h) := by cases x <;> rfl
@[simp ↓] theorem wp_out {P : T → AH → Prop} {r : Res Fl} : Wp (outD r) P X = Wp r (fun fl h => match fl with | .nx _ => P .non h | .rt t => P t h | .xc e _ => X e h | .bk _ => False | .ct _ => False) (fun _ _ => False) := by
  cases r with
  | bad => rfl
  | exc e h => rfl
  | ok fl h => cases fl <;> rfl
theorem Wp.mono {r : Res α} {P Q : α → AH → Prop} {X Y : Exc → AH → Prop} (w : Wp r P X) (hp : ∀ a h, P a h → Q a h) (hx : ∀ e h, X e h → Y e h) : Wp r Q Y := by
  cases r with
  | bad => exact w
  | ok a h => exact hp a h w
  | exc e h => exact hx e h w
theorem Wp.imp {r : Res α} {P Q : α → AH → Prop} (w : Wp r P X) (hp : ∀ a h, P a h → Q a h) : Wp r Q X := w.mono hp (fun _ _ h => h)
theorem Wp.ok {r : Res α} (w : Wp r P (fun _ _ => False)) : ∃ a h, r = .ok a h ∧ P a h := by
  cases r with
  | bad => exact w.elim
  | ok a h => exact ⟨a, h, rfl, w⟩
  | exc e h => exact w.elim
theorem Wp.eq {r : Res α} {v : α} (w : Wp r (fun a h' => a = v ∧ h' = h) (fun _ _ => False)) : r = .ok v h := by
  obtain ⟨a, h', e, rfl, rfl⟩ := w.ok; exact e
theorem Wp.of_exc {r : Res α} {e : Exc} (q : r = .exc e h) (p : X e h) : Wp r P X := by rw [q]; exact p
theorem Wp.of {r : Res α} {a : α} (e : r = .ok a h) (p : P a h) : Wp r P X := by rw [e]; exact p
end
section
variable {P : T → AH → Prop} {PL : List T → AH → Prop} {PB : Bool → AH → Prop} {PF : Fl → AH → Prop} {X : Exc → AH → Prop} {h : AH} {τ : LS}
@[simp ↓] theorem w_var {i : Nat} : Wp (mVar i τ h) P X = Op (slot τ i) (fun t => P t h) := by
  unfold mVar slot; split <;> simp_all
@[simp ↓] theorem w_c {t : T} : Wp (mC t τ h) P X = P t h := rfl
@[simp ↓] theorem w_op {g : T → T → AH → Res T} {fa fb : FE} : Wp (mOp g fa fb τ h) P X = Wp (fa τ h) (fun x h1 => Wp (fb τ h1) (fun y h2 => Wp (g x y h2) P X) X) X := by simp only [mOp, wp_bind]
@[simp ↓] theorem w_un {g : T → AH → Res T} {fa : FE} : Wp (mUn g fa τ h) P X = Wp (fa τ h) (fun x h1 => Wp (g x h1) P X) X := by simp only [mUn, wp_bind]
@[simp ↓] theorem w_nil : Wp (mNil τ h) PL X = PL [] h := rfl
@[simp ↓] theorem w_cons {fa : FE} {fr : FA} : Wp (mCons fa fr τ h) PL X = Wp (fa τ h) (fun x h1 => Wp (fr τ h1) (fun xs h2 => PL (x :: xs) h2) X) X := by simp only [mCons, wp_bind, wp_ok]
@[simp ↓] theorem w_star {fe : FE} {fr : FA} : Wp (mStar fe fr τ h) PL X = Wp (fe τ h) (fun x h1 => Op (seqOf x h1) (fun l => Wp (fr τ h1) (fun ys h2 => PL (l ++ ys) h2) X)) X := by
  simp only [mStar, wp_bind, wp_ok]; congr; funext x h1; cases seqOf x h1 <;> rfl
@[simp ↓] theorem w_CB {g : List T → AH → Res T} {fr : FA} : Wp (mCB g fr τ h) P X = Wp (fr τ h) (fun xs h1 => Wp (g xs h1) P X) X := by simp only [mCB, wp_bind]
@[simp ↓] theorem w_B {fa : FE} : Wp (mB fa τ h) PB X = Wp (fa τ h) (fun x h1 => Bo x (fun b => PB b h1)) X := by simp only [mB, wp_bind]; congr; funext x h1; cases x <;> rfl
@[simp ↓] theorem w_and {f g : FT} : Wp (mAnd f g τ h) PB X = Wp (f τ h) (fun c h1 => Cd c (Wp (g τ h1) PB X) (PB false h1)) X := by simp only [mAnd, wp_bind, wp_ite, wp_ok] <;> rfl
@[simp ↓] theorem w_or {f g : FT} : Wp (mOr f g τ h) PB X = Wp (f τ h) (fun c h1 => Cd c (PB true h1) (Wp (g τ h1) PB X)) X := by simp only [mOr, wp_bind, wp_ite, wp_ok] <;> rfl
@[simp ↓] theorem w_not {f : FT} : Wp (mNot f τ h) PB X = Wp (f τ h) (fun c h1 => PB (!c) h1) X := by simp only [mNot, wp_bind, wp_ok]
@[simp ↓] theorem w_andV {fa fb : FE} : Wp (mAndV fa fb τ h) P X = Wp (fa τ h) (fun x h1 => Bo x (fun c => Cd c (Wp (fb τ h1) P X) (P (.bl false) h1))) X := by
  simp only [mAndV, wp_bind]; congr; funext x h1; cases x <;> simp only [wp_ite, wp_ok, wp_bad] <;> rfl
@[simp ↓] theorem w_orV {fa fb : FE} : Wp (mOrV fa fb τ h) P X = Wp (fa τ h) (fun x h1 => Bo x (fun c => Cd c (P (.bl true) h1) (Wp (fb τ h1) P X))) X := by
  simp only [mOrV, wp_bind]; congr; funext x h1; cases x <;> simp only [wp_ite, wp_ok, wp_bad] <;> rfl
@[simp ↓] theorem w_notV {fa : FE} : Wp (mNotV fa τ h) P X = Wp (fa τ h) (fun x h1 => Bo x (fun c => P (.bl (!c)) h1)) X := by
  simp only [mNotV, wp_bind]; congr; funext x h1; cases x <;> rfl
@[simp ↓] theorem w_ifE {f : FT} {fa fb : FE} : Wp (mIfE f fa fb τ h) P X = Wp (f τ h) (fun c h1 => Cd c (Wp (fa τ h1) P X) (Wp (fb τ h1) P X)) X := by simp only [mIfE, wp_bind, wp_ite] <;> rfl
@[simp ↓] theorem w_chain {g g' : T → T → AH → Res T} {fa fb fc : FE} : Wp (mChain g g' fa fb fc τ h) P X = Wp (fa τ h) (fun x h1 => Wp (fb τ h1) (fun y h2 => Wp (g x y h2) (fun z h3 => Bo z (fun c => Cd c (Wp (fc τ h3) (fun w h4 => Wp (g' y w h4) P X) X) (P (.bl false) h3))) X) X) X := by
  simp only [mChain, wp_bind]; congr; funext x h1; congr; funext y h2; congr; funext z h3; cases z with
  | bl c => cases c <;> simp [Bo, Cd]
  | _ => rfl
@[simp ↓] theorem w_tup {fr : FA} : Wp (mTup fr τ h) P X = Wp (fr τ h) (fun xs h1 => if xs.length ≤ sizeLine then P (.tup xs) h1 else False) X := by simp only [mTup, wp_bind, wp_ite, wp_ok, wp_bad]
@[simp ↓] theorem w_lst {fr : FA} : Wp (mLst fr τ h) P X = Wp (fr τ h) (fun xs h1 => if xs.length ≤ sizeLine then P (.lst xs) h1 else False) X := by simp only [mLst, wp_bind, wp_ite, wp_ok, wp_bad]
@[simp ↓] theorem w_lstO {fr : FA} : Wp (mLstO fr τ h) P X = Wp (fr τ h) (fun xs h1 => if xs.length ≤ sizeLine then P (.obj h1.length) (h1 ++ [some (.lst xs)]) else False) X := by simp only [mLstO, wp_bind, wp_ite, wp_ok, wp_bad]
@[simp ↓] theorem w_noPart {PO : Option Int → AH → Prop} : Wp (mNoPart τ h) PO X = PO none h := rfl
@[simp ↓] theorem w_part {PO : Option Int → AH → Prop} {fa : FE} : Wp (mPart fa τ h) PO X = Wp (fa τ h) (fun x h1 => Wp (match x with | .int i => (.ok (some i) h1 : Res (Option Int)) | _ => .bad) PO X) X := by
  simp only [mPart, wp_bind] <;> rfl
@[simp ↓] theorem w_sl {g : T → Option Int → Option Int → AH → Res T} {fa : FE} {fl fh : FO} : Wp (mSl g fa fl fh τ h) P X = Wp (fa τ h) (fun x h1 => Wp (fl τ h1) (fun lo h2 => Wp (fh τ h2) (fun hi h3 => Wp (g x lo hi h3) P X) X) X) X := by simp only [mSl, wp_bind]
@[simp ↓] theorem w_call {n : Nat} {m : List T → AH → Res T} {fr : FA} : Wp (mCall n m fr τ h) P X = Wp (fr τ h) (fun xs h1 => if xs.length = n then Wp (m xs h1) P X else False) X := by simp only [mCall, wp_bind, wp_ite, wp_bad]
@[simp ↓] theorem w_callL {i n : Nat} {nm : Str} {m : List T → AH → Res T} {fr : FA} {els : FE} : Wp (mCallL i nm n m fr els τ h) P X = Op (slot τ i) (fun t => Wp (match t with | .ref a => if a = nm then mCall n m fr τ h else els τ h | _ => .bad) P X) := by
  unfold mCallL slot
  rcases e : τ[i]? with _ | _ | t
  · rfl
  · rfl
  · cases t <;> rfl
@[simp ↓] theorem w_lenSet {fo : FE} : Wp (mLenSet fo τ h) P X = Wp (fo τ h) (fun x h1 => Wp (match x with
  | .tup l => match intsOf l with
    | some ns => if ns.length ≤ 4000 then .ok (.int (cntD ns : Nat)) h1 else .bad
    | none => .bad
  | _ => (.bad : Res T)) P X) X := by simp only [mLenSet, wp_bind] <;> rfl
@[simp ↓] theorem w_zip {fa : FA} : Wp (iZipM fa τ h) PL X = Wp (fa τ h) (fun xs h1 => Wp (match xs with
  | [.lst l, .lst m] => .ok (pairs l m) h1
  | [x, y] => match tupOf x, tupOf y with
    | some l, some m => .ok (pairs l m) h1
    | _, _ => .bad
  | _ => (.bad : Res (List T))) PL X) X := by simp only [iZipM, wp_bind] <;> rfl
@[simp ↓] theorem w_def {N : Nat} {b : FS} {ts : List T} : Wp (mDef N b ts h) P X = Wp (b (ts.map some ++ List.replicate (N - ts.length) none) h) (fun fl h => match fl with | .nx _ => P .non h | .rt t => P t h | .xc e _ => X e h | .bk _ => False | .ct _ => False) (fun _ _ => False) := wp_out
@[simp ↓] theorem w_LM {g : T → List T → AH → Res T} {fo : FE} {fr : FA} : Wp (mLM g fo fr τ h) P X = Wp (fo τ h) (fun x h1 => if isLst x h1 = true then Wp (fr τ h1) (fun xs h2 => Wp (g x xs h2) P X) X else False) X := by simp only [mLM, wp_bind, wp_ite, wp_bad]
@[simp ↓] theorem w_LM0 {g : T → List T → AH → Res T} {fo : FE} : Wp (mLM0 g fo τ h) P X = Wp (fo τ h) (fun x h1 => if isLst x h1 = true then Wp (g x [] h1) P X else False) X := by simp only [mLM0, wp_bind, wp_ite, wp_bad]
@[simp ↓] theorem w_tru {fa : FE} : Wp (mTru fa τ h) PB X = Wp (fa τ h) (fun x h1 => Op (truT x h1) (fun b => PB b h1)) X := by simp only [mTru, wp_bind]; congr; funext x h1; cases truT x h1 <;> rfl
@[simp ↓] theorem w_dget {fd fy : FE} : Wp (mDGet fd fy τ h) P X = Wp (fd τ h) (fun x h1 => Wp (fy τ h1) (fun y h2 => Op (lookD x y h2).join (fun t => P t h2)) X) X := by
  simp only [mDGet, wp_bind]; congr; funext x h1; congr; funext y h2; cases lookD x y h2 with
  | none => rfl
  | some o => cases o <;> rfl
@[simp ↓] theorem w_dget2 {fd fy fx : FE} : Wp (mDGet2 fd fy fx τ h) P X = Wp (fd τ h) (fun x h1 => if isD x h1 = true then Wp (fy τ h1) (fun y h2 => Wp (fx τ h2) (fun z h3 => Op (lookD x y h3) (fun o => P (o.getD z) h3)) X) X else False) X := by
  simp only [mDGet2, wp_bind, wp_ite, wp_bad]; congr; funext x h1; congr; funext y h2; congr; funext z h3; cases lookD x y h3 <;> rfl
@[simp ↓] theorem w_dget1 {fd fy : FE} : Wp (mDGet1 fd fy τ h) P X = Wp (fd τ h) (fun x h1 => if isD x h1 = true then Wp (fy τ h1) (fun y h3 => Op (lookD x y h3) (fun o => P (o.getD .non) h3)) X else False) X := by
  simp only [mDGet1, wp_bind, wp_ite, wp_bad]; congr; funext x h1; congr; funext y h2; cases lookD x y h2 <;> rfl
@[simp ↓] theorem w_din {neg : Bool} {fy fd : FE} : Wp (mDIn neg fy fd τ h) P X = Wp (fy τ h) (fun y h1 => Wp (fd τ h1) (fun x h2 => Op (lookD x y h2) (fun o => P (.bl (if neg then !o.isSome else o.isSome)) h2)) X) X := by
  simp only [mDIn, wp_bind]; congr; funext x h1; congr; funext y h2; cases lookD y x h2 <;> rfl
@[simp ↓] theorem w_dnew : Wp (mDNew τ h) P X = P (.obj h.length) (h ++ [some (.dct [])]) := rfl
@[simp ↓] theorem w_dnewT : Wp (mDNewT τ h) P X = P (.obj h.length) (h ++ [some (.dctT [])]) := rfl
@[simp ↓] theorem w_isi {n : String} {fa : FE} : Wp (mIsi n fa τ h) P X = Wp (fa τ h) (fun x h1 => Op ((tyOf x h1).bind fun a => kitB a n) (fun b => P (.bl b) h1)) X := by
  simp only [mIsi, wp_bind]; congr; funext x h1; cases ((tyOf x h1).bind fun a => kitB a n) <;> rfl
@[simp ↓] theorem w_fld {c f : Str} {fa : FE} : Wp (mFld c f fa τ h) P X = Wp (fa τ h) (fun x h1 => Op ((insOf c x h1).bind fun m => m.lookup f) (fun t => P t h1)) X := by
  simp only [mFld, wp_bind]; congr; funext x h1; cases ((insOf c x h1).bind fun m => m.lookup f) <;> rfl
@[simp ↓] theorem w_meth {c m : Str} {n : Nat} {mir : List T → AH → Res T} {fo : FE} {fr : FA} : Wp (mMeth c m n mir fo fr τ h) P X = Wp (fo τ h) (fun x h1 => Op ((insOf c x h1).map fun mm => mm.lookup m) (fun o => match o with | none => Wp (fr τ h1) (fun xs h2 => if xs.length + 1 = n then Wp (mir (x :: xs) h2) P X else False) X | some _ => False)) X := by
  simp only [mMeth, wp_bind]; congr; funext x h1; cases ((insOf c x h1).map fun mm => mm.lookup m) with
  | none => rfl
  | some o => cases o with
    | none => simp only [wp_bind, wp_ite, wp_bad, op_some]
    | some o => rfl
@[simp ↓] theorem w_make {c : Str} {n : Nat} {mir : List T → AH → Res T} {fz : Bool} {fr : FA} : Wp (mMake c n mir fz fr τ h) P X = Wp (fr τ h) (fun xs h1 => if xs.length + 1 = n then Wp (mir (.obj h1.length :: xs) (h1 ++ [some (.ins c [])])) (fun r h2 => match r with | .non => if fz = true then P (frz 8 h2 (.obj h1.length)).1 (frz 8 h2 (.obj h1.length)).2 else P (.obj h1.length) h2 | _ => False) X else False) X := by
  simp only [mMake, wp_bind, wp_ite, wp_bad]; congr; funext x h1; congr; funext r h2; cases r <;> simp only [wp_ite, wp_ok, wp_bad]
@[simp ↓] theorem w_lc {vs : List Nat} {fi : FA} {a : FG} {tt : FT} {fe : FE} : Wp (mLc vs fi a tt fe τ h) P X = Wp (fi τ h) (fun l h1 => Wp (mLcL a tt fe (wipeT τ vs) 0 l h1) (fun ys h2 => P (.lst ys) h2) X) X := by simp only [mLc, wp_bind, wp_ok]
@[simp ↓] theorem w_lcO {vs : List Nat} {fi : FA} {a : FG} {tt : FT} {fe : FE} : Wp (mLcO vs fi a tt fe τ h) P X = Wp (fi τ h) (fun l h1 => Wp (mLcL a tt fe (wipeT τ vs) 0 l h1) (fun ys h2 => P (.obj h2.length) (h2 ++ [some (.lst ys)])) X) X := by simp only [mLcO, wp_bind, wp_ok]
@[simp ↓] theorem w_yes : Wp (mYes τ h) PB X = PB true h := rfl
@[simp ↓] theorem w_pairs_nil {PP : List (Key × T) → AH → Prop} : Wp (mPairs [] τ h) PP X = PP [] h := rfl
@[simp ↓] theorem w_pairs_cons {PP : List (Key × T) → AH → Prop} {fk fv : FE} {r : List (FE × FE)} : Wp (mPairs ((fk, fv) :: r) τ h) PP X = Wp (fk τ h) (fun x h1 => Wp (fv τ h1) (fun y h2 => Op (keyOf x) (fun k => Wp (mPairs r τ h2) (fun ps h3 => PP ((k, y) :: ps) h3) X)) X) X := by
  simp only [mPairs, wp_bind]; congr; funext x h1; congr; funext y h2
  cases keyOf x with
  | none => rfl
  | some k => simp only [op_some, wp_bind, wp_ok]
@[simp ↓] theorem w_disp {fr : List (FE × FE)} : Wp (mDisp fr τ h) P X = Wp (mPairs fr τ h) (fun ps h1 => if ps.length ≤ 15 then P (.dct ((mergeT [] ps).map (·.1)) ((mergeT [] ps).map (·.2))) h1 else False) X := by simp only [mDisp, wp_bind, wp_ite, wp_ok, wp_bad]
@[simp ↓] theorem w_dispO {fr : List (FE × FE)} : Wp (mDispO fr τ h) P X = Wp (mPairs fr τ h) (fun ps h1 => if ps.length ≤ 15 then P (.obj h1.length) (h1 ++ [some (.dct (mergeT [] ps))]) else False) X := by simp only [mDispO, wp_bind, wp_ite, wp_ok, wp_bad]
/-! statements -/
@[simp ↓] theorem w_skip : Wp (sSkip τ h) PF X = PF (.nx τ) h := rfl
@[simp ↓] theorem w_brk : Wp (sBreak τ h) PF X = PF (.bk τ) h := rfl
@[simp ↓] theorem w_cnt : Wp (sCont τ h) PF X = PF (.ct τ) h := rfl
@[simp ↓] theorem w_seq {f g : FS} : Wp (sSeq f g τ h) PF X = Wp (f τ h) (fun fl h1 => match fl with | .nx τ' => Wp (g τ' h1) PF X | .rt t => PF (.rt t) h1 | .bk τ' => PF (.bk τ') h1 | .ct τ' => PF (.ct τ') h1 | .xc e τ' => PF (.xc e τ') h1) X := by
  simp only [sSeq, wp_bind]; congr; funext fl h1; cases fl <;> rfl
@[simp ↓] theorem w_drop {fe : FE} : Wp (sDrop fe τ h) PF X = Wp (fe τ h) (fun _ h1 => PF (.nx τ) h1) (fun e h => PF (.xc e τ) h) := by simp only [sDrop, wp_lift, wp_ok]
@[simp ↓] theorem w_ret {fe : FE} : Wp (sRet fe τ h) PF X = Wp (fe τ h) (fun t h1 => PF (.rt t) h1) (fun e h => PF (.xc e τ) h) := by simp only [sRet, wp_lift, wp_ok]
@[simp ↓] theorem w_retN : Wp (sRetN τ h) PF X = PF (.rt .non) h := rfl
@[simp ↓] theorem w_if {f : FT} {a b : FS} : Wp (sIf f a b τ h) PF X = Wp (f τ h) (fun c h1 => Cd c (Wp (a τ h1) PF X) (Wp (b τ h1) PF X)) (fun e h => PF (.xc e τ) h) := by simp only [sIf, wp_lift, wp_ite] <;> rfl
@[simp ↓] theorem w_set {i : Nat} {fe : FE} : Wp (sSet i fe τ h) PF X = Wp (fe τ h) (fun t h1 => PF (.nx (τ.set i (some t))) h1) (fun e h => PF (.xc e τ) h) := by simp only [sSet, wp_lift, wp_ok]
@[simp ↓] theorem w_asg {a : FG} {fe : FE} : Wp (sAsg fe a τ h) PF X = Wp (fe τ h) (fun t h1 => Op (a t τ) (fun τ' => PF (.nx τ') h1)) (fun e h => PF (.xc e τ) h) := by
  simp only [sAsg, wp_lift]; congr; funext t h1; cases a t τ <;> rfl
@[simp ↓] theorem w_par {i j : Nat} {fa : FA} : Wp (sPar i j fa τ h) PF X = Wp (fa τ h) (fun xs h1 => match xs with | [x, y] => PF (.nx ((τ.set i (some x)).set j (some y))) h1 | _ => False) (fun e h => PF (.xc e τ) h) := by
  simp only [sPar, wp_lift]; congr; funext xs h1; split <;> simp_all
@[simp ↓] theorem w_frz {i : Nat} {g : FS} : Wp (sFrz i g τ h) PF X = Fr (slot τ i) (fun j => Wp (g (τ.set i (some (frz 8 h (.obj j)).1)) (frz 8 h (.obj j)).2) PF X) (Wp (g τ h) PF X) := by
  unfold sFrz slot
  rcases e : τ[i]? with _ | _ | t
  · rfl
  · rfl
  · cases t <;> rfl
@[simp ↓] theorem w_setIx {fe fo fi : FE} : Wp (sSetIx fe fo fi τ h) PF X = Wp (fe τ h) (fun t h1 => Wp (fo τ h1) (fun x h2 => Wp (fi τ h2) (fun y h3 => Wp (match x, y with
  | .obj i, .int j => match h3[i]? with
    | some (some (.lst l)) => match ixN l.length j with
      | some n => .ok (.nx τ) (h3.set i (some (.lst (l.set n t))))
      | none => .bad
    | _ => .bad
  | _, _ => (.bad : Res Fl)) PF X) (fun e h => PF (.xc e τ) h)) (fun e h => PF (.xc e τ) h)) (fun e h => PF (.xc e τ) h) := by
  simp only [sSetIx, wp_lift] <;> rfl
@[simp ↓] theorem w_dput {fd fy fv : FE} : Wp (sDPutM fd fy fv τ h) PF X = Wp (fv τ h) (fun t h1 => Wp (fd τ h1) (fun x h2 => Wp (fy τ h2) (fun y h3 => Wp (match x with
  | .obj i => match h3[i]? with
    | some (some (.dct m)) => match keyOf y with
      | some k => if m.length < sizeLine then .ok (.nx τ) (h3.set i (some (.dct (putT m k t)))) else .bad
      | none => .bad
    | some (some (.dctT m)) => match keysOf y with
      | some k => if m.length < sizeLine then .ok (.nx τ) (h3.set i (some (.dctT (putT m k t)))) else .bad
      | none => .bad
    | _ => .bad
  | _ => (.bad : Res Fl)) PF X) (fun e h => PF (.xc e τ) h)) (fun e h => PF (.xc e τ) h)) (fun e h => PF (.xc e τ) h) := by
  simp only [sDPutM, wp_lift] <;> rfl
@[simp ↓] theorem w_sfld {c f : Str} {fo fv : FE} : Wp (sFldM c f fo fv τ h) PF X = Wp (fv τ h) (fun t h1 => Wp (fo τ h1) (fun x h2 => Wp (match x with
  | .obj i => match h2[i]? with
    | some (some (.ins c' m)) => if c' = c ∧ m.length < 1000 then .ok (.nx τ) (h2.set i (some (.ins c' (putFT f t m)))) else .bad
    | _ => .bad
  | _ => (.bad : Res Fl)) PF X) (fun e h => PF (.xc e τ) h)) (fun e h => PF (.xc e τ) h) := by
  simp only [sFldM, wp_lift] <;> rfl
@[simp ↓] theorem w_for {fi : FA} {a : FG} {b : FS} : Wp (sFor fi a b τ h) PF X = Wp (fi τ h) (fun l h1 => Wp (sForL a b l τ h1) PF X) (fun e h => PF (.xc e τ) h) := by simp only [sFor, wp_lift]
@[simp ↓] theorem w_raise {c : Str} {ns : List Str} {fa : FA} : Wp (sRaise c ns fa τ h) PF X = Wp (fa τ h) (fun xs h1 => if xs.length = ns.length then PF (.xc ⟨c, ns.reverse, xs.reverse⟩ τ) h1 else False) (fun e h => PF (.xc e τ) h) := by simp only [sRaise, wp_lift, wp_ite, wp_ok, wp_bad]
@[simp ↓] theorem w_try0 {xm : List (Str × Bool)} {i : Nat} {b : FS} {su : Exc → FS} : Wp (sTry0 xm i b su τ h) PF X = Wp (b τ h) (fun fl h1 => match fl with
  | .xc e τ1 => Op (xm.lookup e.c) (fun b => Cd b (if i < τ1.length then Wp (su e (τ1.set i none) h1) (fun fl2 h2 => if noXc fl2 = true then PF (unname i fl2) h2 else False) X else False) False)
  | .nx τ' => PF (.nx τ') h1 | .rt t => PF (.rt t) h1 | .bk τ' => PF (.bk τ') h1 | .ct τ' => PF (.ct τ') h1) X := by
  simp only [sTry0, wp_bind]; congr; funext fl h1
  cases fl with
  | xc e τ1 =>
    dsimp only
    cases xm.lookup e.c with
    | none => rfl
    | some o => cases o with
      | false => rfl
      | true => simp only [wp_ite, wp_bind, wp_ok, wp_bad, op_some, cd_true]
  | _ => rfl
/-- a statement by what it leaves -/
theorem wp_cut {f g : FS} (R : LS → AH → Prop) (h1 : Wp (f τ h) (fun fl h' => match fl with | .nx τ' => Kp (R τ' h') () | _ => False) X) (h2 : ∀ τ' h', R τ' h' → Wp (g τ' h') PF X) : Wp (sSeq f g τ h) PF X := by
  rw [w_seq]
  refine h1.imp (fun fl h' p => ?_)
  cases fl with
  | nx τ' => exact h2 τ' h' p
  | _ => exact p.elim
/-! iteration -/
@[simp ↓] theorem w_iLst {fe : FE} : Wp (iLst fe τ h) PL X = Wp (fe τ h) (fun x h1 => Wp (match x with | .lst l => (.ok l h1 : Res (List T)) | _ => .bad) PL X) X := by simp only [iLst, wp_bind] <;> rfl
@[simp ↓] theorem w_iTup {fe : FE} : Wp (iTupM fe τ h) PL X = Wp (fe τ h) (fun x h1 => Op (tupOf x) (fun l => PL l h1)) X := by
  simp only [iTupM, wp_bind]; congr; funext x h1; cases tupOf x <;> rfl
@[simp ↓] theorem w_iRngA {fa : FA} : Wp (iRngA fa τ h) PL X = Wp (fa τ h) (fun xs h1 => Wp (match xs with | [.int j] => rngI 0 j h1 | _ => .bad) PL X) X := by simp only [iRngA, wp_bind] <;> rfl
@[simp ↓] theorem w_iRngB {fa : FA} : Wp (iRngB fa τ h) PL X = Wp (fa τ h) (fun xs h1 => Wp (match xs with | [.int i, .int j] => rngI i j h1 | _ => .bad) PL X) X := by simp only [iRngB, wp_bind] <;> rfl
@[simp ↓] theorem w_iStr {fe : FE} : Wp (iStrM fe τ h) PL X = Wp (fe τ h) (fun x h1 => Wp (match x with | .str z => (.ok (chars z) h1 : Res (List T)) | _ => .bad) PL X) X := by simp only [iStrM, wp_bind] <;> rfl
@[simp ↓] theorem w_iEnumT {fa : FA} : Wp (iEnumTM fa τ h) PL X = Wp (fa τ h) (fun xs h1 => Wp (match xs with | [x] => (match tupOf x with | some l => (.ok (numbered l) h1 : Res (List T)) | none => .bad) | _ => .bad) PL X) X := by simp only [iEnumTM, wp_bind] <;> rfl
@[simp ↓] theorem w_iEnumL {fa : FA} : Wp (iEnumL fa τ h) PL X = Wp (fa τ h) (fun xs h1 => Wp (match xs with | [.lst l] => (.ok (numbered l) h1 : Res (List T)) | _ => .bad) PL X) X := by simp only [iEnumL, wp_bind] <;> rfl
/-! loops -/
theorem wp_for {a : FG} {b : FS} {l : List T} (I : List T → LS → AH → Prop) (h0 : I l τ h)
    (hs : ∀ x xs τ h, I (x :: xs) τ h → ∃ τ1, a x τ = some τ1 ∧ Wp (b τ1 h) (fun fl h' => match fl with | .nx τ' => Kp (I xs τ' h') () | .ct τ' => Kp (I xs τ' h') () | .bk τ' => PF (.nx τ') h' | .rt t => PF (.rt t) h' | .xc e τ' => PF (.xc e τ') h') X)
    (he : ∀ τ h, I [] τ h → PF (.nx τ) h) : Wp (sForL a b l τ h) PF X := by
  induction l generalizing τ h with
  | nil => exact he τ h h0
  | cons x xs ih =>
    obtain ⟨τ1, ha, hb⟩ := hs x xs τ h h0
    rw [for_cons ha, wp_bind]
    refine hb.imp (fun fl h' p => ?_)
    cases fl with
    | nx τ' => exact ih p
    | ct τ' => exact ih p
    | bk τ' => exact p
    | rt t => exact p
    | xc e τ' => exact p
theorem wp_lcl {a : FG} {tt : FT} {fe : FE} {l : List T} {n : Nat} {acc : List T} (I : List T → List T → AH → Prop) (h0 : I l acc h) (hn : n + l.length ≤ sizeLine)
    (hs : ∀ x xs acc h, I (x :: xs) acc h → ∃ τ', a x τ = some τ' ∧ Wp (tt τ' h) (fun b h1 => Cd b (Wp (fe τ' h1) (fun y h2 => Kp (I xs (acc ++ [y]) h2) ()) X) (Kp (I xs acc h1) ())) X)
    (he : ∀ ys h, I [] (acc ++ ys) h → PL ys h) : Wp (mLcL a tt fe τ n l h) PL X := by
  induction l generalizing acc n h PL with
  | nil => exact he [] h (by rw [List.append_nil]; exact h0)
  | cons x xs ih =>
    obtain ⟨τ', ha, hb⟩ := hs x xs acc h h0
    rw [List.length_cons] at hn
    unfold mLcL
    simp only [ha, wp_bind]
    refine hb.imp (fun b h1 p => ?_)
    cases b with
    | false =>
      exact ih p (by omega) he
    | true =>
      simp only [if_true, wp_bind, cd_true] at p ⊢
      refine p.imp (fun y h2 q => ?_)
      rw [if_pos (by omega), wp_bind]
      refine ih q (by omega) (fun ys h3 r => he _ _ ?_)
      rw [List.append_assoc] at r
      exact r
/-- a for that ends at the first find -/
theorem for_first {R : Type} {a : FG} {b : FS} (Inv : LS → Prop) (out : R → LS → Fl) (res : Nat → Option R) (hout : ∀ r τ, (∃ t, out r τ = .rt t) ∨ ∃ e τ', out r τ = .xc e τ') : ∀ (l : List T) (k0 : Nat), (∀ (i : Nat) x τ, l[i]? = some x → Inv τ → ∃ τ1 τ', a x τ = some τ1 ∧ Inv τ' ∧ b τ1 h = .ok (match res (k0 + i) with | none => .nx τ' | some r => out r τ') h) → ∀ τ, Inv τ →
    ∃ τ', Inv τ' ∧ sForL a b l τ h = .ok (match firstR res k0 l.length with | none => .nx τ' | some r => out r τ') h := by
  intro l
  induction l with
  | nil => intro k0 _ τ i; exact ⟨τ, i, rfl⟩
  | cons x l ih =>
    intro k0 hs τ hi
    obtain ⟨τ1, τ', ha, hi', hb⟩ := hs 0 x τ rfl hi
    rw [Nat.add_zero] at hb
    cases e : res k0 with
    | some r =>
      rw [e] at hb
      refine ⟨τ', hi', ?_⟩
      have fr : firstR res k0 (x :: l).length = some r := by show (match res k0 with | some r => some r | none => _) = _; rw [e]
      rw [fr]
      dsimp only at hb ⊢
      rcases hout r τ' with ⟨t, ht⟩ | ⟨ex, τ2, ht⟩
      · rw [ht] at hb ⊢; exact for_rt ha hb
      · rw [ht] at hb ⊢
        rw [for_cons ha, hb]; rfl
    | none =>
      rw [e] at hb
      obtain ⟨τ2, hi2, e2⟩ := ih (k0 + 1) (fun i y τ hy hτ => by
        have := hs (i + 1) y τ hy hτ
        rw [show k0 + (i + 1) = k0 + 1 + i by omega] at this
        exact this) τ' hi'
      refine ⟨τ2, hi2, ?_⟩
      have fr : firstR res k0 (x :: l).length = firstR res (k0 + 1) l.length := by show (match res k0 with | some r => some r | none => _) = _; rw [e]
      rw [fr, for_nx ha hb, e2]
theorem lc_mapw {a : FG} {fe : FE} {l : List T} {n : Nat} (f : T → T) (hn : n + l.length ≤ sizeLine) (hf : ∀ x ∈ l, ∃ τ', a x τ = some τ' ∧ Wp (fe τ' h) (fun y h' => y = f x ∧ h' = h) (fun _ _ => False)) : mLcL a mYes fe τ n l h = .ok (l.map f) h :=
  lc_map hn fun x hx => by
    obtain ⟨τ', e, w⟩ := hf x hx
    obtain ⟨y, h', e', rfl, rfl⟩ := w.ok
    exact ⟨τ', e, e'⟩
end
/-- an ite of props: its branches are left alone -/
theorem ite_f {c : Prop} [Decidable c] {p : Prop} (hc : c) (hp : p) : if c then p else False := by rw [if_pos hc]; exact hp

end W0
inductive Un0 (p q : Prop) : Type | mk
inductive Un1 {α : Type} (p : α → Prop) : Type | mk
inductive Un2 {α : Type} (P : α → AH → Prop) (X : Exc → AH → Prop) : Type | mk
def Op {α : Type} (o : Option α) (p : α → Prop) (_ : Un1 p := .mk) : Prop := W0.Op o p
@[simp] theorem op_some {α : Type} {a : α} {p : α → Prop} : Op (some a) p = p a := W0.op_some
@[simp] theorem op_none {α : Type} {p : α → Prop} : Op none p = False := W0.op_none
def Cd (b : Bool) (p q : Prop) (_ : Un0 p q := .mk) : Prop := W0.Cd b p q
@[simp] theorem cd_true {p q : Prop} : Cd true p q = p := W0.cd_true
@[simp] theorem cd_false {p q : Prop} : Cd false p q = q := W0.cd_false
theorem Cd.of {b : Bool} {p q : Prop} (h1 : b = true → p) (h2 : b = false → q) : Cd b p q := W0.Cd.of h1 h2
def Bo (t : T) (p : Bool → Prop) (_ : Un1 p := .mk) : Prop := W0.Bo t p
@[simp] theorem bo_bl {b : Bool} {p : Bool → Prop} : Bo (.bl b) p = p b := W0.bo_bl
def Kp (p : Prop) (u : Unit) (_ : Un0 p p := .mk) : Prop := W0.Kp p u
theorem Kp.mk {p : Prop} (h : p) : Kp p () := W0.Kp.mk h
@[simp] theorem slot_zero {x : Option T} {τ : LS} : slot (x :: τ) 0 = x := W0.slot_zero
@[simp] theorem slot_succ {x : Option T} {τ : LS} {i : Nat} : slot (x :: τ) (i + 1) = slot τ i := W0.slot_succ
def Fr (o : Option T) (p : Nat → Prop) (q : Prop) (_ : Un1 p := .mk) (_ : Un0 q q := .mk) : Prop := W0.Fr o p q
section
variable {p : Nat → Prop} {q : Prop}
@[simp] theorem fr_obj {j : Nat} : Fr (some (.obj j)) p q = p j := W0.fr_obj
@[simp] theorem fr_none : Fr none p q = q := W0.fr_none
@[simp] theorem fr_non : Fr (some .non) p q = q := W0.fr_non
@[simp] theorem fr_bl {b : Bool} : Fr (some (.bl b)) p q = q := W0.fr_bl
@[simp] theorem fr_int {b : Int} : Fr (some (.int b)) p q = q := W0.fr_int
@[simp] theorem fr_str {b : Str} : Fr (some (.str b)) p q = q := W0.fr_str
@[simp] theorem fr_ref {b : Str} : Fr (some (.ref b)) p q = q := W0.fr_ref
@[simp] theorem fr_tup {l : List T} : Fr (some (.tup l)) p q = q := W0.fr_tup
@[simp] theorem fr_ktp {l : List T} : Fr (some (.ktp l)) p q = q := W0.fr_ktp
@[simp] theorem fr_lst {l : List T} : Fr (some (.lst l)) p q = q := W0.fr_lst
@[simp] theorem fr_rdl {l : List T} : Fr (some (.rdl l)) p q = q := W0.fr_rdl
@[simp] theorem fr_inst {c : Str} {ns : List Str} {l : List T} : Fr (some (.inst c ns l)) p q = q := W0.fr_inst
@[simp] theorem fr_dct {ns : List Key} {l : List T} : Fr (some (.dct ns l)) p q = q := W0.fr_dct
@[simp] theorem fr_dctT {ns : List (List Key)} {l : List T} : Fr (some (.dctT ns l)) p q = q := W0.fr_dctT
theorem Fr.no {t : T} (h : isObj t = false) : Fr (some t) p q = q := W0.Fr.no h
end
section
variable {α β : Type}
def Wp {α : Type} (r : Res α) (P : α → AH → Prop) (X : Exc → AH → Prop) (_ : Un2 P X := .mk) : Prop := W0.Wp r P X
variable {P : α → AH → Prop} {X : Exc → AH → Prop} {h : AH}
@[simp] theorem wp_ok {a : α} : Wp (.ok a h) P X = P a h := W0.wp_ok
@[simp] theorem wp_bad : Wp (.bad : Res α) P X = False := W0.wp_bad
@[simp] theorem wp_exc {e : Exc} : Wp (.exc e h : Res α) P X = X e h := W0.wp_exc
@[simp ↓] theorem wp_bind {x : Res β} {f : β → AH → Res α} : Wp (x.bind f) P X = Wp x (fun a h => Wp (f a h) P X) X := W0.wp_bind
@[simp ↓] theorem wp_ite {c : Prop} [Decidable c] {x y : Res α} : Wp (if c then x else y) P X = if c then Wp x P X else Wp y P X := W0.wp_ite
@[simp] theorem wp_pur {o : Option α} : Wp (pur o h) P X = Op o (fun a => P a h) := W0.wp_pur
@[simp ↓] theorem wp_lift {P : Fl → AH → Prop} {x : Res β} {τ : LS} {k : β → AH → Res Fl} : Wp (liftE x τ k) P X = Wp x (fun a h => Wp (k a h) P X) (fun e h => P (.xc e τ) h) := W0.wp_lift
@[simp ↓] theorem wp_out {P : T → AH → Prop} {r : Res Fl} : Wp (outD r) P X = Wp r (fun fl h => match fl with | .nx _ => P .non h | .rt t => P t h | .xc e _ => X e h | .bk _ => False | .ct _ => False) (fun _ _ => False) := W0.wp_out
theorem Wp.mono {r : Res α} {P Q : α → AH → Prop} {X Y : Exc → AH → Prop} (w : Wp r P X) (hp : ∀ a h, P a h → Q a h) (hx : ∀ e h, X e h → Y e h) : Wp r Q Y := W0.Wp.mono w hp hx
theorem Wp.imp {r : Res α} {P Q : α → AH → Prop} (w : Wp r P X) (hp : ∀ a h, P a h → Q a h) : Wp r Q X := W0.Wp.imp w hp
theorem Wp.ok {r : Res α} (w : Wp r P (fun _ _ => False)) : ∃ a h, r = .ok a h ∧ P a h := W0.Wp.ok w
theorem Wp.eq {r : Res α} {v : α} (w : Wp r (fun a h' => a = v ∧ h' = h) (fun _ _ => False)) : r = .ok v h := W0.Wp.eq w
theorem Wp.of_exc {r : Res α} {e : Exc} (q : r = .exc e h) (p : X e h) : Wp r P X := W0.Wp.of_exc q p
theorem Wp.of {r : Res α} {a : α} (e : r = .ok a h) (p : P a h) : Wp r P X := W0.Wp.of e p
end
section
variable {P : T → AH → Prop} {PL : List T → AH → Prop} {PB : Bool → AH → Prop} {PF : Fl → AH → Prop} {X : Exc → AH → Prop} {h : AH} {τ : LS}
@[simp ↓] theorem w_var {i : Nat} : Wp (mVar i τ h) P X = Op (slot τ i) (fun t => P t h) := W0.w_var
@[simp ↓] theorem w_c {t : T} : Wp (mC t τ h) P X = P t h := W0.w_c
@[simp ↓] theorem w_op {g : T → T → AH → Res T} {fa fb : FE} : Wp (mOp g fa fb τ h) P X = Wp (fa τ h) (fun x h1 => Wp (fb τ h1) (fun y h2 => Wp (g x y h2) P X) X) X := W0.w_op
@[simp ↓] theorem w_un {g : T → AH → Res T} {fa : FE} : Wp (mUn g fa τ h) P X = Wp (fa τ h) (fun x h1 => Wp (g x h1) P X) X := W0.w_un
@[simp ↓] theorem w_nil : Wp (mNil τ h) PL X = PL [] h := W0.w_nil
@[simp ↓] theorem w_cons {fa : FE} {fr : FA} : Wp (mCons fa fr τ h) PL X = Wp (fa τ h) (fun x h1 => Wp (fr τ h1) (fun xs h2 => PL (x :: xs) h2) X) X := W0.w_cons
@[simp ↓] theorem w_star {fe : FE} {fr : FA} : Wp (mStar fe fr τ h) PL X = Wp (fe τ h) (fun x h1 => Op (seqOf x h1) (fun l => Wp (fr τ h1) (fun ys h2 => PL (l ++ ys) h2) X)) X := W0.w_star
@[simp ↓] theorem w_CB {g : List T → AH → Res T} {fr : FA} : Wp (mCB g fr τ h) P X = Wp (fr τ h) (fun xs h1 => Wp (g xs h1) P X) X := W0.w_CB
@[simp ↓] theorem w_B {fa : FE} : Wp (mB fa τ h) PB X = Wp (fa τ h) (fun x h1 => Bo x (fun b => PB b h1)) X := W0.w_B
@[simp ↓] theorem w_and {f g : FT} : Wp (mAnd f g τ h) PB X = Wp (f τ h) (fun c h1 => Cd c (Wp (g τ h1) PB X) (PB false h1)) X := W0.w_and
@[simp ↓] theorem w_or {f g : FT} : Wp (mOr f g τ h) PB X = Wp (f τ h) (fun c h1 => Cd c (PB true h1) (Wp (g τ h1) PB X)) X := W0.w_or
@[simp ↓] theorem w_not {f : FT} : Wp (mNot f τ h) PB X = Wp (f τ h) (fun c h1 => PB (!c) h1) X := W0.w_not
@[simp ↓] theorem w_andV {fa fb : FE} : Wp (mAndV fa fb τ h) P X = Wp (fa τ h) (fun x h1 => Bo x (fun c => Cd c (Wp (fb τ h1) P X) (P (.bl false) h1))) X := W0.w_andV
@[simp ↓] theorem w_orV {fa fb : FE} : Wp (mOrV fa fb τ h) P X = Wp (fa τ h) (fun x h1 => Bo x (fun c => Cd c (P (.bl true) h1) (Wp (fb τ h1) P X))) X := W0.w_orV
@[simp ↓] theorem w_notV {fa : FE} : Wp (mNotV fa τ h) P X = Wp (fa τ h) (fun x h1 => Bo x (fun c => P (.bl (!c)) h1)) X := W0.w_notV
@[simp ↓] theorem w_ifE {f : FT} {fa fb : FE} : Wp (mIfE f fa fb τ h) P X = Wp (f τ h) (fun c h1 => Cd c (Wp (fa τ h1) P X) (Wp (fb τ h1) P X)) X := W0.w_ifE
@[simp ↓] theorem w_chain {g g' : T → T → AH → Res T} {fa fb fc : FE} : Wp (mChain g g' fa fb fc τ h) P X = Wp (fa τ h) (fun x h1 => Wp (fb τ h1) (fun y h2 => Wp (g x y h2) (fun z h3 => Bo z (fun c => Cd c (Wp (fc τ h3) (fun w h4 => Wp (g' y w h4) P X) X) (P (.bl false) h3))) X) X) X := W0.w_chain
@[simp ↓] theorem w_tup {fr : FA} : Wp (mTup fr τ h) P X = Wp (fr τ h) (fun xs h1 => if xs.length ≤ sizeLine then P (.tup xs) h1 else False) X := W0.w_tup
@[simp ↓] theorem w_lst {fr : FA} : Wp (mLst fr τ h) P X = Wp (fr τ h) (fun xs h1 => if xs.length ≤ sizeLine then P (.lst xs) h1 else False) X := W0.w_lst
@[simp ↓] theorem w_lstO {fr : FA} : Wp (mLstO fr τ h) P X = Wp (fr τ h) (fun xs h1 => if xs.length ≤ sizeLine then P (.obj h1.length) (h1 ++ [some (.lst xs)]) else False) X := W0.w_lstO
@[simp ↓] theorem w_noPart {PO : Option Int → AH → Prop} : Wp (mNoPart τ h) PO X = PO none h := W0.w_noPart
@[simp ↓] theorem w_part {PO : Option Int → AH → Prop} {fa : FE} : Wp (mPart fa τ h) PO X = Wp (fa τ h) (fun x h1 => Wp (match x with | .int i => (.ok (some i) h1 : Res (Option Int)) | _ => .bad) PO X) X := W0.w_part
@[simp ↓] theorem w_sl {g : T → Option Int → Option Int → AH → Res T} {fa : FE} {fl fh : FO} : Wp (mSl g fa fl fh τ h) P X = Wp (fa τ h) (fun x h1 => Wp (fl τ h1) (fun lo h2 => Wp (fh τ h2) (fun hi h3 => Wp (g x lo hi h3) P X) X) X) X := W0.w_sl
@[simp ↓] theorem w_call {n : Nat} {m : List T → AH → Res T} {fr : FA} : Wp (mCall n m fr τ h) P X = Wp (fr τ h) (fun xs h1 => if xs.length = n then Wp (m xs h1) P X else False) X := W0.w_call
@[simp ↓] theorem w_callL {i n : Nat} {nm : Str} {m : List T → AH → Res T} {fr : FA} {els : FE} : Wp (mCallL i nm n m fr els τ h) P X = Op (slot τ i) (fun t => Wp (match t with | .ref a => if a = nm then mCall n m fr τ h else els τ h | _ => .bad) P X) := W0.w_callL
@[simp ↓] theorem w_lenSet {fo : FE} : Wp (mLenSet fo τ h) P X = Wp (fo τ h) (fun x h1 => Wp (match x with
  | .tup l => match intsOf l with
    | some ns => if ns.length ≤ 4000 then .ok (.int (cntD ns : Nat)) h1 else .bad
    | none => .bad
  | _ => (.bad : Res T)) P X) X := W0.w_lenSet
@[simp ↓] theorem w_zip {fa : FA} : Wp (iZipM fa τ h) PL X = Wp (fa τ h) (fun xs h1 => Wp (match xs with
  | [.lst l, .lst m] => .ok (pairs l m) h1
  | [x, y] => match tupOf x, tupOf y with
    | some l, some m => .ok (pairs l m) h1
    | _, _ => .bad
  | _ => (.bad : Res (List T))) PL X) X := W0.w_zip
@[simp ↓] theorem w_def {N : Nat} {b : FS} {ts : List T} : Wp (mDef N b ts h) P X = Wp (b (ts.map some ++ List.replicate (N - ts.length) none) h) (fun fl h => match fl with | .nx _ => P .non h | .rt t => P t h | .xc e _ => X e h | .bk _ => False | .ct _ => False) (fun _ _ => False) := W0.w_def
@[simp ↓] theorem w_LM {g : T → List T → AH → Res T} {fo : FE} {fr : FA} : Wp (mLM g fo fr τ h) P X = Wp (fo τ h) (fun x h1 => if isLst x h1 = true then Wp (fr τ h1) (fun xs h2 => Wp (g x xs h2) P X) X else False) X := W0.w_LM
@[simp ↓] theorem w_LM0 {g : T → List T → AH → Res T} {fo : FE} : Wp (mLM0 g fo τ h) P X = Wp (fo τ h) (fun x h1 => if isLst x h1 = true then Wp (g x [] h1) P X else False) X := W0.w_LM0
@[simp ↓] theorem w_tru {fa : FE} : Wp (mTru fa τ h) PB X = Wp (fa τ h) (fun x h1 => Op (truT x h1) (fun b => PB b h1)) X := W0.w_tru
@[simp ↓] theorem w_dget {fd fy : FE} : Wp (mDGet fd fy τ h) P X = Wp (fd τ h) (fun x h1 => Wp (fy τ h1) (fun y h2 => Op (lookD x y h2).join (fun t => P t h2)) X) X := W0.w_dget
@[simp ↓] theorem w_dget2 {fd fy fx : FE} : Wp (mDGet2 fd fy fx τ h) P X = Wp (fd τ h) (fun x h1 => if isD x h1 = true then Wp (fy τ h1) (fun y h2 => Wp (fx τ h2) (fun z h3 => Op (lookD x y h3) (fun o => P (o.getD z) h3)) X) X else False) X := W0.w_dget2
@[simp ↓] theorem w_dget1 {fd fy : FE} : Wp (mDGet1 fd fy τ h) P X = Wp (fd τ h) (fun x h1 => if isD x h1 = true then Wp (fy τ h1) (fun y h3 => Op (lookD x y h3) (fun o => P (o.getD .non) h3)) X else False) X := W0.w_dget1
@[simp ↓] theorem w_din {neg : Bool} {fy fd : FE} : Wp (mDIn neg fy fd τ h) P X = Wp (fy τ h) (fun y h1 => Wp (fd τ h1) (fun x h2 => Op (lookD x y h2) (fun o => P (.bl (if neg then !o.isSome else o.isSome)) h2)) X) X := W0.w_din
@[simp ↓] theorem w_dnew : Wp (mDNew τ h) P X = P (.obj h.length) (h ++ [some (.dct [])]) := W0.w_dnew
@[simp ↓] theorem w_dnewT : Wp (mDNewT τ h) P X = P (.obj h.length) (h ++ [some (.dctT [])]) := W0.w_dnewT
@[simp ↓] theorem w_isi {n : String} {fa : FE} : Wp (mIsi n fa τ h) P X = Wp (fa τ h) (fun x h1 => Op ((tyOf x h1).bind fun a => kitB a n) (fun b => P (.bl b) h1)) X := W0.w_isi
@[simp ↓] theorem w_fld {c f : Str} {fa : FE} : Wp (mFld c f fa τ h) P X = Wp (fa τ h) (fun x h1 => Op ((insOf c x h1).bind fun m => m.lookup f) (fun t => P t h1)) X := W0.w_fld
@[simp ↓] theorem w_meth {c m : Str} {n : Nat} {mir : List T → AH → Res T} {fo : FE} {fr : FA} : Wp (mMeth c m n mir fo fr τ h) P X = Wp (fo τ h) (fun x h1 => Op ((insOf c x h1).map fun mm => mm.lookup m) (fun o => match o with | none => Wp (fr τ h1) (fun xs h2 => if xs.length + 1 = n then Wp (mir (x :: xs) h2) P X else False) X | some _ => False)) X := W0.w_meth
@[simp ↓] theorem w_make {c : Str} {n : Nat} {mir : List T → AH → Res T} {fz : Bool} {fr : FA} : Wp (mMake c n mir fz fr τ h) P X = Wp (fr τ h) (fun xs h1 => if xs.length + 1 = n then Wp (mir (.obj h1.length :: xs) (h1 ++ [some (.ins c [])])) (fun r h2 => match r with | .non => if fz = true then P (frz 8 h2 (.obj h1.length)).1 (frz 8 h2 (.obj h1.length)).2 else P (.obj h1.length) h2 | _ => False) X else False) X := W0.w_make
@[simp ↓] theorem w_lc {vs : List Nat} {fi : FA} {a : FG} {tt : FT} {fe : FE} : Wp (mLc vs fi a tt fe τ h) P X = Wp (fi τ h) (fun l h1 => Wp (mLcL a tt fe (wipeT τ vs) 0 l h1) (fun ys h2 => P (.lst ys) h2) X) X := W0.w_lc
@[simp ↓] theorem w_lcO {vs : List Nat} {fi : FA} {a : FG} {tt : FT} {fe : FE} : Wp (mLcO vs fi a tt fe τ h) P X = Wp (fi τ h) (fun l h1 => Wp (mLcL a tt fe (wipeT τ vs) 0 l h1) (fun ys h2 => P (.obj h2.length) (h2 ++ [some (.lst ys)])) X) X := W0.w_lcO
@[simp ↓] theorem w_yes : Wp (mYes τ h) PB X = PB true h := W0.w_yes
@[simp ↓] theorem w_pairs_nil {PP : List (Key × T) → AH → Prop} : Wp (mPairs [] τ h) PP X = PP [] h := W0.w_pairs_nil
@[simp ↓] theorem w_pairs_cons {PP : List (Key × T) → AH → Prop} {fk fv : FE} {r : List (FE × FE)} : Wp (mPairs ((fk, fv) :: r) τ h) PP X = Wp (fk τ h) (fun x h1 => Wp (fv τ h1) (fun y h2 => Op (keyOf x) (fun k => Wp (mPairs r τ h2) (fun ps h3 => PP ((k, y) :: ps) h3) X)) X) X := W0.w_pairs_cons
@[simp ↓] theorem w_disp {fr : List (FE × FE)} : Wp (mDisp fr τ h) P X = Wp (mPairs fr τ h) (fun ps h1 => if ps.length ≤ 15 then P (.dct ((mergeT [] ps).map (·.1)) ((mergeT [] ps).map (·.2))) h1 else False) X := W0.w_disp
@[simp ↓] theorem w_dispO {fr : List (FE × FE)} : Wp (mDispO fr τ h) P X = Wp (mPairs fr τ h) (fun ps h1 => if ps.length ≤ 15 then P (.obj h1.length) (h1 ++ [some (.dct (mergeT [] ps))]) else False) X := W0.w_dispO
/-! statements -/
@[simp ↓] theorem w_skip : Wp (sSkip τ h) PF X = PF (.nx τ) h := W0.w_skip
@[simp ↓] theorem w_brk : Wp (sBreak τ h) PF X = PF (.bk τ) h := W0.w_brk
@[simp ↓] theorem w_cnt : Wp (sCont τ h) PF X = PF (.ct τ) h := W0.w_cnt
@[simp ↓] theorem w_seq {f g : FS} : Wp (sSeq f g τ h) PF X = Wp (f τ h) (fun fl h1 => match fl with | .nx τ' => Wp (g τ' h1) PF X | .rt t => PF (.rt t) h1 | .bk τ' => PF (.bk τ') h1 | .ct τ' => PF (.ct τ') h1 | .xc e τ' => PF (.xc e τ') h1) X := W0.w_seq
@[simp ↓] theorem w_drop {fe : FE} : Wp (sDrop fe τ h) PF X = Wp (fe τ h) (fun _ h1 => PF (.nx τ) h1) (fun e h => PF (.xc e τ) h) := W0.w_drop
@[simp ↓] theorem w_ret {fe : FE} : Wp (sRet fe τ h) PF X = Wp (fe τ h) (fun t h1 => PF (.rt t) h1) (fun e h => PF (.xc e τ) h) := W0.w_ret
@[simp ↓] theorem w_retN : Wp (sRetN τ h) PF X = PF (.rt .non) h := W0.w_retN
@[simp ↓] theorem w_if {f : FT} {a b : FS} : Wp (sIf f a b τ h) PF X = Wp (f τ h) (fun c h1 => Cd c (Wp (a τ h1) PF X) (Wp (b τ h1) PF X)) (fun e h => PF (.xc e τ) h) := W0.w_if
@[simp ↓] theorem w_set {i : Nat} {fe : FE} : Wp (sSet i fe τ h) PF X = Wp (fe τ h) (fun t h1 => PF (.nx (τ.set i (some t))) h1) (fun e h => PF (.xc e τ) h) := W0.w_set
@[simp ↓] theorem w_asg {a : FG} {fe : FE} : Wp (sAsg fe a τ h) PF X = Wp (fe τ h) (fun t h1 => Op (a t τ) (fun τ' => PF (.nx τ') h1)) (fun e h => PF (.xc e τ) h) := W0.w_asg
@[simp ↓] theorem w_par {i j : Nat} {fa : FA} : Wp (sPar i j fa τ h) PF X = Wp (fa τ h) (fun xs h1 => match xs with | [x, y] => PF (.nx ((τ.set i (some x)).set j (some y))) h1 | _ => False) (fun e h => PF (.xc e τ) h) := W0.w_par
@[simp ↓] theorem w_frz {i : Nat} {g : FS} : Wp (sFrz i g τ h) PF X = Fr (slot τ i) (fun j => Wp (g (τ.set i (some (frz 8 h (.obj j)).1)) (frz 8 h (.obj j)).2) PF X) (Wp (g τ h) PF X) := W0.w_frz
@[simp ↓] theorem w_setIx {fe fo fi : FE} : Wp (sSetIx fe fo fi τ h) PF X = Wp (fe τ h) (fun t h1 => Wp (fo τ h1) (fun x h2 => Wp (fi τ h2) (fun y h3 => Wp (match x, y with
  | .obj i, .int j => match h3[i]? with
    | some (some (.lst l)) => match ixN l.length j with
      | some n => .ok (.nx τ) (h3.set i (some (.lst (l.set n t))))
      | none => .bad
    | _ => .bad
  | _, _ => (.bad : Res Fl)) PF X) (fun e h => PF (.xc e τ) h)) (fun e h => PF (.xc e τ) h)) (fun e h => PF (.xc e τ) h) := W0.w_setIx
@[simp ↓] theorem w_dput {fd fy fv : FE} : Wp (sDPutM fd fy fv τ h) PF X = Wp (fv τ h) (fun t h1 => Wp (fd τ h1) (fun x h2 => Wp (fy τ h2) (fun y h3 => Wp (match x with
  | .obj i => match h3[i]? with
    | some (some (.dct m)) => match keyOf y with
      | some k => if m.length < sizeLine then .ok (.nx τ) (h3.set i (some (.dct (putT m k t)))) else .bad
      | none => .bad
    | some (some (.dctT m)) => match keysOf y with
      | some k => if m.length < sizeLine then .ok (.nx τ) (h3.set i (some (.dctT (putT m k t)))) else .bad
      | none => .bad
    | _ => .bad
  | _ => (.bad : Res Fl)) PF X) (fun e h => PF (.xc e τ) h)) (fun e h => PF (.xc e τ) h)) (fun e h => PF (.xc e τ) h) := W0.w_dput
@[simp ↓] theorem w_sfld {c f : Str} {fo fv : FE} : Wp (sFldM c f fo fv τ h) PF X = Wp (fv τ h) (fun t h1 => Wp (fo τ h1) (fun x h2 => Wp (match x with
  | .obj i => match h2[i]? with
    | some (some (.ins c' m)) => if c' = c ∧ m.length < 1000 then .ok (.nx τ) (h2.set i (some (.ins c' (putFT f t m)))) else .bad
    | _ => .bad
  | _ => (.bad : Res Fl)) PF X) (fun e h => PF (.xc e τ) h)) (fun e h => PF (.xc e τ) h) := W0.w_sfld
@[simp ↓] theorem w_for {fi : FA} {a : FG} {b : FS} : Wp (sFor fi a b τ h) PF X = Wp (fi τ h) (fun l h1 => Wp (sForL a b l τ h1) PF X) (fun e h => PF (.xc e τ) h) := W0.w_for
@[simp ↓] theorem w_raise {c : Str} {ns : List Str} {fa : FA} : Wp (sRaise c ns fa τ h) PF X = Wp (fa τ h) (fun xs h1 => if xs.length = ns.length then PF (.xc ⟨c, ns.reverse, xs.reverse⟩ τ) h1 else False) (fun e h => PF (.xc e τ) h) := W0.w_raise
@[simp ↓] theorem w_try0 {xm : List (Str × Bool)} {i : Nat} {b : FS} {su : Exc → FS} : Wp (sTry0 xm i b su τ h) PF X = Wp (b τ h) (fun fl h1 => match fl with
  | .xc e τ1 => Op (xm.lookup e.c) (fun b => Cd b (if i < τ1.length then Wp (su e (τ1.set i none) h1) (fun fl2 h2 => if noXc fl2 = true then PF (unname i fl2) h2 else False) X else False) False)
  | .nx τ' => PF (.nx τ') h1 | .rt t => PF (.rt t) h1 | .bk τ' => PF (.bk τ') h1 | .ct τ' => PF (.ct τ') h1) X := W0.w_try0
/-- a statement by what it leaves -/
theorem wp_cut {f g : FS} (R : LS → AH → Prop) (h1 : Wp (f τ h) (fun fl h' => match fl with | .nx τ' => Kp (R τ' h') () | _ => False) X) (h2 : ∀ τ' h', R τ' h' → Wp (g τ' h') PF X) : Wp (sSeq f g τ h) PF X := W0.wp_cut R h1 h2
/-! iteration -/
@[simp ↓] theorem w_iLst {fe : FE} : Wp (iLst fe τ h) PL X = Wp (fe τ h) (fun x h1 => Wp (match x with | .lst l => (.ok l h1 : Res (List T)) | _ => .bad) PL X) X := W0.w_iLst
@[simp ↓] theorem w_iTup {fe : FE} : Wp (iTupM fe τ h) PL X = Wp (fe τ h) (fun x h1 => Op (tupOf x) (fun l => PL l h1)) X := W0.w_iTup
@[simp ↓] theorem w_iRngA {fa : FA} : Wp (iRngA fa τ h) PL X = Wp (fa τ h) (fun xs h1 => Wp (match xs with | [.int j] => rngI 0 j h1 | _ => .bad) PL X) X := W0.w_iRngA
@[simp ↓] theorem w_iRngB {fa : FA} : Wp (iRngB fa τ h) PL X = Wp (fa τ h) (fun xs h1 => Wp (match xs with | [.int i, .int j] => rngI i j h1 | _ => .bad) PL X) X := W0.w_iRngB
@[simp ↓] theorem w_iStr {fe : FE} : Wp (iStrM fe τ h) PL X = Wp (fe τ h) (fun x h1 => Wp (match x with | .str z => (.ok (chars z) h1 : Res (List T)) | _ => .bad) PL X) X := W0.w_iStr
@[simp ↓] theorem w_iEnumT {fa : FA} : Wp (iEnumTM fa τ h) PL X = Wp (fa τ h) (fun xs h1 => Wp (match xs with | [x] => (match tupOf x with | some l => (.ok (numbered l) h1 : Res (List T)) | none => .bad) | _ => .bad) PL X) X := W0.w_iEnumT
@[simp ↓] theorem w_iEnumL {fa : FA} : Wp (iEnumL fa τ h) PL X = Wp (fa τ h) (fun xs h1 => Wp (match xs with | [.lst l] => (.ok (numbered l) h1 : Res (List T)) | _ => .bad) PL X) X := W0.w_iEnumL
/-! loops -/
theorem wp_for {a : FG} {b : FS} {l : List T} (I : List T → LS → AH → Prop) (h0 : I l τ h)
    (hs : ∀ x xs τ h, I (x :: xs) τ h → ∃ τ1, a x τ = some τ1 ∧ Wp (b τ1 h) (fun fl h' => match fl with | .nx τ' => Kp (I xs τ' h') () | .ct τ' => Kp (I xs τ' h') () | .bk τ' => PF (.nx τ') h' | .rt t => PF (.rt t) h' | .xc e τ' => PF (.xc e τ') h') X)
    (he : ∀ τ h, I [] τ h → PF (.nx τ) h) : Wp (sForL a b l τ h) PF X := W0.wp_for I h0 hs he
theorem wp_lcl {a : FG} {tt : FT} {fe : FE} {l : List T} {n : Nat} {acc : List T} (I : List T → List T → AH → Prop) (h0 : I l acc h) (hn : n + l.length ≤ sizeLine)
    (hs : ∀ x xs acc h, I (x :: xs) acc h → ∃ τ', a x τ = some τ' ∧ Wp (tt τ' h) (fun b h1 => Cd b (Wp (fe τ' h1) (fun y h2 => Kp (I xs (acc ++ [y]) h2) ()) X) (Kp (I xs acc h1) ())) X)
    (he : ∀ ys h, I [] (acc ++ ys) h → PL ys h) : Wp (mLcL a tt fe τ n l h) PL X := W0.wp_lcl I h0 hn hs he
/-- a for that ends at the first find -/
theorem for_first {R : Type} {a : FG} {b : FS} (Inv : LS → Prop) (out : R → LS → Fl) (res : Nat → Option R) (hout : ∀ r τ, (∃ t, out r τ = .rt t) ∨ ∃ e τ', out r τ = .xc e τ') : ∀ (l : List T) (k0 : Nat), (∀ (i : Nat) x τ, l[i]? = some x → Inv τ → ∃ τ1 τ', a x τ = some τ1 ∧ Inv τ' ∧ b τ1 h = .ok (match res (k0 + i) with | none => .nx τ' | some r => out r τ') h) → ∀ τ, Inv τ →
    ∃ τ', Inv τ' ∧ sForL a b l τ h = .ok (match firstR res k0 l.length with | none => .nx τ' | some r => out r τ') h := W0.for_first Inv out res hout
theorem lc_mapw {a : FG} {fe : FE} {l : List T} {n : Nat} (f : T → T) (hn : n + l.length ≤ sizeLine) (hf : ∀ x ∈ l, ∃ τ', a x τ = some τ' ∧ Wp (fe τ' h) (fun y h' => y = f x ∧ h' = h) (fun _ _ => False)) : mLcL a mYes fe τ n l h = .ok (l.map f) h := W0.lc_mapw f hn hf
end
/-- an ite of props: its branches are left alone -/
theorem ite_f {c : Prop} [Decidable c] {p : Prop} (hc : c) (hp : p) : if c then p else False := by rw [if_pos hc]; exact hp

end M
/-! ### tuple * int -/
namespace M
open PySem PySem.Spec PyProof.Rows L2
variable {G : Env} {W : WX} {S : Sta}
@[simp] def gRepT (x y : T) : Option T := match y with
  | .int k => (tupOf x).bind fun l => if l ≠ [] ∧ 2 ≤ k ∧ k ≤ 1000 ∧ l.length ≤ 1000 then some (.tup (List.replicate k.toNat l).flatten) else none
  | _ => none
@[simp] abbrev oRepT : T → T → AH → Res T := P2 gRepT
theorem x_repT {X : Cx} {K : PySem.W.Frag} (h : X.K = K) : OpR X (binaryOp .Mult) (rRepT K) := h ▸ op_repT
theorem so_repT : SimR2 G (rRepT G.K) oRepT := fun S x y u v X Q e k ru rv p => by
  unfold oRepT P2 pur at p
  split at p
  · rename_i t ht
    unfold gRepT at ht
    split at ht
    · rename_i i
      obtain ⟨l, hl, ht⟩ := Option.bind_eq_some_iff.mp ht
      split at ht
      · rename_i hc
        cases ht
        obtain ⟨a, vs, rfl, hs, r⟩ := tup_stay e hl ru
        simp only [Rv] at rv
        have hne : vs ≠ [] := fun z => hc.1 (by subst z; exact List.length_eq_zero_iff.mp (by rw [← r.len]; rfl))
        refine ⟨a, i, vs, rfl, rv, hs S (Tr.refl S), hne, hc.2.1, hc.2.2.1, by rw [r.len]; exact hc.2.2.2, ?_⟩
        exact new_fz k p fun b hb f => rv_tup f ((r.rep _).mono (step_at k (Grow.upd hb)))
      · cases ht
    · cases ht
  · exact p.elim
end M
namespace Lk84
open PySem PySem.Spec PyProof.Rows L2 M
def rows_SHAPES : List (Str × Option T) := [(("word" : Str), some (T.ktp [(T.str ("to" : Str)), (T.str ("word" : Str))])), (("copy" : Str), some (T.ktp [(T.str ("to" : Str)), (T.str ("from" : Str))])), (("op" : Str), some (T.ktp [(T.str ("to" : Str)), (T.str ("name" : Str)), (T.str ("from" : Str)), (T.str ("from" : Str))])), (("with" : Str), some (T.ktp [(T.str ("to" : Str)), (T.str ("name" : Str)), (T.str ("from" : Str)), (T.str ("word" : Str))])), (("read" : Str), some (T.ktp [(T.str ("to" : Str)), (T.str ("global" : Str))])), (("load" : Str), some (T.ktp [(T.str ("to" : Str)), (T.str ("row" : Str)), (T.str ("from" : Str))])), (("moves" : Str), some (T.ktp [(T.str ("tos" : Str)), (T.str ("froms" : Str))])), (("skip" : Str), some (T.ktp [])), (("write" : Str), some (T.ktp [(T.str ("global" : Str)), (T.str ("from" : Str))])), (("store" : Str), some (T.ktp [(T.str ("row" : Str)), (T.str ("from" : Str)), (T.str ("from" : Str))])), (("nonzero" : Str), some (T.ktp [(T.str ("from" : Str)), (T.str ("at" : Str))])), (("inside" : Str), some (T.ktp [(T.str ("from" : Str)), (T.str ("many" : Str)), (T.str ("at" : Str))])), (("depth" : Str), some (T.ktp [(T.str ("many" : Str)), (T.str ("at" : Str))])), (("call" : Str), some (T.ktp [(T.str ("to" : Str)), (T.str ("function" : Str)), (T.str ("froms" : Str)), (T.str ("at" : Str))])), (("tell" : Str), some (T.ktp [(T.str ("from" : Str)), (T.str ("at" : Str))])), (("jump" : Str), some (T.ktp [(T.str ("block" : Str))])), (("fork" : Str), some (T.ktp [(T.str ("from" : Str)), (T.str ("later" : Str)), (T.str ("later" : Str))])), (("back" : Str), some (T.ktp [(T.str ("from" : Str))])), (("" : Str), none), (("Word" : Str), none), (("nop" : Str), none), (("jumps" : Str), none), (("add" : Str), none), (("skip " : Str), none), (("check" : Str), none)]
def rows_TESTS : List (Str × Option T) := [(("to" : Str), some (T.ref "fits_variable")), (("from" : Str), some (T.ref "fits_variable")), (("tos" : Str), some (T.ref "fits_variables")), (("froms" : Str), some (T.ref "fits_variables")), (("word" : Str), some (T.ref "fits_word")), (("many" : Str), some (T.ref "fits_many")), (("name" : Str), some (T.ref "fits_operation")), (("global" : Str), some (T.ref "fits_name")), (("function" : Str), some (T.ref "fits_name")), (("row" : Str), some (T.ref "fits_row")), (("at" : Str), some (T.ref "fits_chain")), (("block" : Str), some (T.ref "fits_block")), (("later" : Str), some (T.ref "fits_later"))]
def c_OPERATIONS : List T := [(T.str ("add" : Str)), (T.str ("sub" : Str)), (T.str ("mul" : Str)), (T.str ("and" : Str)), (T.str ("or" : Str)), (T.str ("xor" : Str)), (T.str ("shl" : Str)), (T.str ("sar" : Str)), (T.str ("lt" : Str)), (T.str ("le" : Str)), (T.str ("eq" : Str)), (T.str ("ne" : Str)), (T.str ("quo" : Str)), (T.str ("mod" : Str))]
def c_ENDS : List T := [(T.str ("jump" : Str)), (T.str ("fork" : Str)), (T.str ("back" : Str))]

def b__law_pool : FS := (sRet (mLstO (mCons (mCB bList (mCons (mSl oSlL (mVar 0) mNoPart (mPart (mC (.int 63)))) mNil)) (mCons (mC (.int 0)) (mCons (mC (.int 0)) (mCons (mC (.int 11)) mNil))))))
def m__law_pool : List T → AH → Res T := mDef 1 b__law_pool
def c1__law_draw : FT := (mAnd (mB (mOp oEq (mOp oIx (mVar 0) (mC (.int 2))) (mC (.int 0)))) (mB (mOp oLt (mOp oIx (mVar 0) (mC (.int 1))) (mCB bLen (mCons (mOp oIx (mVar 0) (mC (.int 0))) mNil)))))
def l1__law_draw : FS := (sSeq (sSetIx (mCB bAbs (mCons (mOp oIx (mOp oIx (mVar 0) (mC (.int 0))) (mOp oIx (mVar 0) (mC (.int 1)))) mNil)) (mVar 0) (mC (.int 2)))
    (sSetIx (mOp oAdd (mOp oIx (mVar 0) (mC (.int 1))) (mC (.int 1))) (mVar 0) (mC (.int 1))))
def b__law_draw : FS := (sSeq (sWhile c1__law_draw l1__law_draw FUEL)
    (sSeq (sIf (mB (mOp oEq (mOp oIx (mVar 0) (mC (.int 2))) (mC (.int 0)))) (sSeq (sSetIx (mOp oAdd (mOp oIx (mVar 0) (mC (.int 3))) (mC (.int 7))) (mVar 0) (mC (.int 3)))
    (sRet (mOp oMod (mCB bInt (mCons (mOp oDiv (mOp oIx (mVar 0) (mC (.int 3))) (mC (.int 3))) mNil)) (mVar 1)))) sSkip)
    (sSeq (sSet 2 (mOp oMod (mCB bInt (mCons (mOp oIx (mVar 0) (mC (.int 2))) mNil)) (mVar 1)))
    (sSeq (sSetIx (mOp oDiv (mCB bInt (mCons (mOp oIx (mVar 0) (mC (.int 2))) mNil)) (mVar 1)) (mVar 0) (mC (.int 2)))
    (sRet (mVar 2))))))
def m__law_draw : List T → AH → Res T := mDef 3 b__law_draw
def b__law_pick : FS := (sFrz 1 (sRet (mOp oIx (mVar 1) (mCall 2 m__law_draw (mCons (mVar 0) (mCons (mCB bLen (mCons (mVar 1) mNil)) mNil))))))
def m__law_pick : List T → AH → Res T := mDef 2 b__law_pick
def b__law_table : FS := (sSeq (sSet 0 (mDispO (((mC (.str "word")), (mC (.str "vn"))) :: (((mC (.str "copy")), (mC (.str "vv"))) :: (((mC (.str "op")), (mC (.str "vovv"))) :: (((mC (.str "with")), (mC (.str "vovn"))) :: (((mC (.str "read")), (mC (.str "vg"))) :: (((mC (.str "load")), (mC (.str "vrv"))) :: []))))))))
    (sSeq (sDPutM (mVar 0) (mC (.str "moves")) (mC (.str "mm")))
    (sSeq (sDPutM (mVar 0) (mC (.str "skip")) (mC (.str "")))
    (sSeq (sDPutM (mVar 0) (mC (.str "write")) (mC (.str "gv")))
    (sSeq (sDPutM (mVar 0) (mC (.str "store")) (mC (.str "rvv")))
    (sSeq (sDPutM (mVar 0) (mC (.str "nonzero")) (mC (.str "va")))
    (sSeq (sDPutM (mVar 0) (mC (.str "inside")) (mC (.str "vpa")))
    (sSeq (sDPutM (mVar 0) (mC (.str "depth")) (mC (.str "pa")))
    (sSeq (sDPutM (mVar 0) (mC (.str "call")) (mC (.str "vgsa")))
    (sSeq (sDPutM (mVar 0) (mC (.str "tell")) (mC (.str "va")))
    (sSeq (sDPutM (mVar 0) (mC (.str "jump")) (mC (.str "j")))
    (sSeq (sDPutM (mVar 0) (mC (.str "fork")) (mC (.str "vkk")))
    (sSeq (sDPutM (mVar 0) (mC (.str "back")) (mC (.str "v")))
    (sFrz 0 (sRet (mVar 0))))))))))))))))
def m__law_table : List T → AH → Res T := mDef 1 b__law_table
def l1__law_heads : FS := (sSeq (sSet 4 (mCall 2 m__law_draw (mCons (mVar 0) (mCons (mVar 1) mNil))))
    (sIf (mB (mOp oNin (mVar 4) (mVar 2))) (sDrop (mLM gApp (mVar 2) (mCons (mVar 4) mNil))) sSkip))
def b__law_heads : FS := (sSeq (sSet 2 (mLstO mNil))
    (sSeq (sFor (iRngA (mCons (mCall 2 m__law_draw (mCons (mVar 0) (mCons (mOp oAdd (mCB bMin (mCons (mVar 1) (mCons (mC (.int 6)) mNil))) (mC (.int 1))) mNil))) mNil)) (aName 3) l1__law_heads)
    (sFrz 2 (sRet (mCB bTuple (mCons (mVar 2) mNil))))))
def m__law_heads : List T → AH → Res T := mDef 5 b__law_heads
def b__law_last_kind : FS := (sSeq (sFrz 1 (sIf (mB (mOp oEq (mDGet (mVar 1) (mC (.str "wide"))) (mC (.int 0)))) (sRet (mC (.str "jump"))) sSkip))
    (sSeq (sIf (mB (mOp oLt (mVar 2) (mOp oSub (mDGet (mVar 1) (mC (.str "many"))) (mC (.int 1))))) (sRet (mCall 2 m__law_pick (mCons (mVar 0) (mCons (mLst (mCons (mC (.str "back")) (mCons (mC (.str "jump")) (mCons (mC (.str "fork")) mNil)))) mNil)))) sSkip)
    (sRet (mCall 2 m__law_pick (mCons (mVar 0) (mCons (mLst (mCons (mC (.str "back")) (mCons (mC (.str "jump")) mNil))) mNil))))))
def m__law_last_kind : List T → AH → Res T := mDef 3 b__law_last_kind
def b__law_kind : FS := (sSeq (sFrz 1 (sIf (mB (mOp oEq (mDGet (mVar 1) (mC (.str "wide"))) (mC (.int 0)))) (sRet (mCall 2 m__law_pick (mCons (mVar 0) (mCons (mLst (mCons (mC (.str "skip")) (mCons (mC (.str "depth")) mNil))) mNil)))) sSkip))
    (sSeq (sSet 2 (mLst (mCons (mC (.str "word")) (mCons (mC (.str "copy")) (mCons (mC (.str "op")) (mCons (mC (.str "with")) (mCons (mC (.str "read")) (mCons (mC (.str "load")) (mCons (mC (.str "moves")) (mCons (mC (.str "skip")) mNil))))))))))
    (sSeq (sFrz 2 (sSet 2 (mOp oCat (mVar 2) (mLst (mCons (mC (.str "write")) (mCons (mC (.str "store")) (mCons (mC (.str "nonzero")) (mCons (mC (.str "inside")) mNil))))))))
    (sFrz 2 (sRet (mCall 2 m__law_pick (mCons (mVar 0) (mCons (mOp oCat (mVar 2) (mLst (mCons (mC (.str "depth")) (mCons (mC (.str "call")) (mCons (mC (.str "tell")) mNil))))) mNil))))))))
def m__law_kind : List T → AH → Res T := mDef 3 b__law_kind
def e1__law_some : FE := (mCall 2 m__law_draw (mCons (mVar 0) (mCons (mDGet (mVar 1) (mC (.str "wide"))) mNil)))
def b__law_some : FS := (sFrz 1 (sRet (mCB bTuple (mCons (mLc [3] (iRngA (mCons (mVar 2) mNil)) (aName 3) mYes e1__law_some) mNil))))
def m__law_some : List T → AH → Res T := mDef 4 b__law_some
def e1__law_moves : FE := (mOp oMod (mCB bInt (mCons (mOp oAdd (mVar 4) (mVar 6)) mNil)) (mDGet (mVar 1) (mC (.str "wide"))))
def b__law_moves : FS := (sSeq (sFrz 1 (sSet 2 (mCB bMin (mCons (mDGet (mVar 1) (mC (.str "wide"))) (mCons (mIfE (mB (mOp oEq (mCall 2 m__law_draw (mCons (mVar 0) (mCons (mC (.int 4)) mNil))) (mC (.int 0)))) (mC (.int 20)) (mC (.int 3))) mNil)))))
    (sSeq (sSet 3 (mCall 2 m__law_draw (mCons (mVar 0) (mCons (mOp oAdd (mVar 2) (mC (.int 1))) mNil))))
    (sSeq (sSet 4 (mCall 2 m__law_draw (mCons (mVar 0) (mCons (mDGet (mVar 1) (mC (.str "wide"))) mNil))))
    (sSeq (sSet 5 (mLc [6] (iRngA (mCons (mVar 3) mNil)) (aName 6) mYes e1__law_moves))
    (sFrz 5 (sRet (mTup (mCons (mC (.str "moves")) (mCons (mCB bTuple (mCons (mVar 5) mNil)) (mCons (mCall 3 m__law_some (mCons (mVar 0) (mCons (mVar 1) (mCons (mVar 3) mNil)))) mNil))))))))))
def m__law_moves : List T → AH → Res T := mDef 7 b__law_moves
def b__law_word : FS := (sSeq (sSet 1 (mCall 2 m__law_draw (mCons (mVar 0) (mCons (mC (.int 4)) mNil))))
    (sSeq (sIf (mB (mOp oLt (mVar 1) (mC (.int 2)))) (sRet (mOp oSub (mCall 2 m__law_draw (mCons (mVar 0) (mCons (mC (.int 12)) mNil))) (mC (.int 4)))) sSkip)
    (sSeq (sSet 2 (mLst (mCons (mUn oNeg (mC (.int 2147483648))) (mCons (mUn oNeg (mC (.int 2147483647))) (mCons (mUn oNeg (mC (.int 2049))) (mCons (mUn oNeg (mC (.int 2048))) (mCons (mUn oNeg (mC (.int 1))) (mCons (mC (.int 0)) (mCons (mC (.int 1)) (mCons (mC (.int 31)) (mCons (mC (.int 32)) (mCons (mC (.int 33)) (mCons (mC (.int 2047)) (mCons (mC (.int 2048)) (mCons (mC (.int 4095)) (mCons (mC (.int 2147483647)) mNil))))))))))))))))
    (sSeq (sIf (mB (mOp oEq (mVar 1) (mC (.int 2)))) (sFrz 2 (sRet (mOp oIx (mVar 2) (mCall 2 m__law_draw (mCons (mVar 0) (mCons (mC (.int 14)) mNil)))))) sSkip)
    (sRet (mOp oSub (mCall 2 m__law_draw (mCons (mVar 0) (mCons (mC (.int 4294967296)) mNil))) (mC (.int 2147483648))))))))
def m__law_word : List T → AH → Res T := mDef 3 b__law_word
def l1__law_spots : FS := (sSeq (sSet 3 (mCall 2 m__law_pick (mCons (mVar 0) (mCons (mLst (mCons (mC (.str "f")) (mCons (mC (.str "main")) mNil))) mNil))))
    (sDrop (mLM gApp (mVar 1) (mCons (mTup (mCons (mVar 3) (mCons (mCall 2 m__law_draw (mCons (mVar 0) (mCons (mC (.int 200)) mNil))) mNil))) mNil))))
def b__law_spots : FS := (sSeq (sSet 1 (mLstO mNil))
    (sSeq (sFor (iRngA (mCons (mOp oAdd (mC (.int 1)) (mCall 2 m__law_draw (mCons (mVar 0) (mCons (mC (.int 8)) mNil)))) mNil)) (aName 2) l1__law_spots)
    (sFrz 1 (sRet (mCB bTuple (mCons (mVar 1) mNil))))))
def m__law_spots : List T → AH → Res T := mDef 4 b__law_spots
def b__law_good : FS := (sSeq (sIf (mB (mOp oEq (mVar 1) (mC (.str "v")))) (sFrz 2 (sRet (mCall 2 m__law_draw (mCons (mVar 0) (mCons (mDGet (mVar 2) (mC (.str "wide"))) mNil))))) sSkip)
    (sSeq (sIf (mB (mOp oEq (mVar 1) (mC (.str "n")))) (sRet (mCall 1 m__law_word (mCons (mVar 0) mNil))) sSkip)
    (sSeq (sIf (mB (mOp oEq (mVar 1) (mC (.str "p")))) (sRet (mCall 2 m__law_pick (mCons (mVar 0) (mCons (mLst (mCons (mC (.int 1)) (mCons (mC (.int 4)) (mCons (mC (.int 1000)) (mCons (mOp oAdd (mC (.int 1)) (mCall 2 m__law_draw (mCons (mVar 0) (mCons (mC (.int 20)) mNil)))) mNil))))) mNil)))) sSkip)
    (sSeq (sIf (mB (mOp oEq (mVar 1) (mC (.str "j")))) (sFrz 2 (sRet (mCall 2 m__law_draw (mCons (mVar 0) (mCons (mDGet (mVar 2) (mC (.str "many"))) mNil))))) sSkip)
    (sSeq (sIf (mB (mOp oEq (mVar 1) (mC (.str "k")))) (sFrz 2 (sRet (mOp oAdd (mOp oAdd (mVar 3) (mC (.int 1))) (mCall 2 m__law_draw (mCons (mVar 0) (mCons (mOp oSub (mOp oSub (mDGet (mVar 2) (mC (.str "many"))) (mVar 3)) (mC (.int 1))) mNil)))))) sSkip)
    (sSeq (sIf (mB (mOp oEq (mVar 1) (mC (.str "o")))) (sSeq (sSet 4 (mLst (mCons (mC (.str "add")) (mCons (mC (.str "sub")) (mCons (mC (.str "mul")) (mCons (mC (.str "and")) (mCons (mC (.str "or")) (mCons (mC (.str "xor")) (mCons (mC (.str "shl")) mNil)))))))))
    (sFrz 4 (sRet (mCall 2 m__law_pick (mCons (mVar 0) (mCons (mOp oCat (mVar 4) (mLst (mCons (mC (.str "sar")) (mCons (mC (.str "lt")) (mCons (mC (.str "le")) (mCons (mC (.str "eq")) (mCons (mC (.str "ne")) (mCons (mC (.str "quo")) (mCons (mC (.str "mod")) mNil))))))))) mNil)))))) sSkip)
    (sSeq (sFrz 2 (sIf (mAnd (mB (mOp oEq (mVar 1) (mC (.str "r")))) (mAnd (mB (mOp oGt (mDGet (mVar 2) (mC (.str "rows"))) (mC (.int 0)))) (mB (mOp oEq (mCall 2 m__law_draw (mCons (mVar 0) (mCons (mC (.int 2)) mNil))) (mC (.int 0)))))) (sRet (mCall 2 m__law_draw (mCons (mVar 0) (mCons (mDGet (mVar 2) (mC (.str "rows"))) mNil)))) sSkip))
    (sSeq (sIf (mB (mOp oEq (mVar 1) (mC (.str "s")))) (sRet (mCall 3 m__law_some (mCons (mVar 0) (mCons (mVar 2) (mCons (mCall 2 m__law_draw (mCons (mVar 0) (mCons (mC (.int 7)) mNil))) mNil))))) sSkip)
    (sSeq (sIf (mB (mOp oEq (mVar 1) (mC (.str "a")))) (sRet (mCall 1 m__law_spots (mCons (mVar 0) mNil))) sSkip)
    (sRet (mCall 2 m__law_pick (mCons (mVar 0) (mCons (mLst (mCons (mC (.str "g")) (mCons (mC (.str "t")) (mCons (mC (.str "f")) (mCons (mC (.str "h1")) mNil))))) mNil)))))))))))))
def m__law_good : List T → AH → Res T := mDef 5 b__law_good
def l1__law_deed : FS := (sDrop (mLM gApp (mVar 5) (mCons (mCall 4 m__law_good (mCons (mVar 0) (mCons (mVar 6) (mCons (mVar 1) (mCons (mVar 2) mNil))))) mNil)))
def b__law_deed : FS := (sSeq (sFrz 1 (sSet 4 (mIfE (mTru (mVar 3)) (mCall 3 m__law_last_kind (mCons (mVar 0) (mCons (mVar 1) (mCons (mVar 2) mNil)))) (mC (.str "")))))
    (sSeq (sIf (mNot (mTru (mVar 3))) (sSet 4 (mCall 2 m__law_kind (mCons (mVar 0) (mCons (mVar 1) mNil)))) sSkip)
    (sSeq (sIf (mB (mOp oEq (mVar 4) (mC (.str "moves")))) (sRet (mCall 2 m__law_moves (mCons (mVar 0) (mCons (mVar 1) mNil)))) sSkip)
    (sSeq (sSet 5 (mLstO (mCons (mVar 4) mNil)))
    (sSeq (sFor (iStrM (mDGet (mDGet (mVar 1) (mC (.str "table"))) (mVar 4))) (aName 6) l1__law_deed)
    (sFrz 5 (sRet (mCB bTuple (mCons (mVar 5) mNil)))))))))
def m__law_deed : List T → AH → Res T := mDef 7 b__law_deed
def l1__law_grid : FS := (sDrop (mLM gApp (mVar 4) (mCons (mCall 4 m__law_deed (mCons (mVar 0) (mCons (mVar 1) (mCons (mVar 3) (mCons (mC (.bl false)) mNil))))) mNil)))
def l2__law_grid : FS := (sSeq (sSet 4 (mLstO mNil))
    (sSeq (sFor (iRngA (mCons (mCall 2 m__law_draw (mCons (mVar 0) (mCons (mIfE (mB (mOp oLt (mDGet (mVar 1) (mC (.str "many"))) (mC (.int 9)))) (mC (.int 4)) (mC (.int 2))) mNil))) mNil)) (aName 5) l1__law_grid)
    (sSeq (sDrop (mLM gApp (mVar 4) (mCons (mCall 4 m__law_deed (mCons (mVar 0) (mCons (mVar 1) (mCons (mVar 3) (mCons (mC (.bl true)) mNil))))) mNil)))
    (sFrz 4 (sDrop (mLM gApp (mVar 2) (mCons (mCB bTuple (mCons (mVar 4) mNil)) mNil)))))))
def b__law_grid : FS := (sSeq (sSet 2 (mLstO mNil))
    (sSeq (sFrz 1 (sFor (iRngA (mCons (mDGet (mVar 1) (mC (.str "many"))) mNil)) (aName 3) l2__law_grid))
    (sRet (mVar 2))))
def m__law_grid : List T → AH → Res T := mDef 6 b__law_grid
def b__law_whole : FS := (sRet (mAndV (mIsi "int" (mVar 0)) (mNotV (mIsi "bool" (mVar 0)))))
def m__law_whole : List T → AH → Res T := mDef 1 b__law_whole
def l1__law_chain : FS := (sSeq (sIf (mOr (mNot (mTru (mIsi "tuple" (mVar 1)))) (mB (mOp oNe (mCB bLen (mCons (mVar 1) mNil)) (mC (.int 2))))) (sRet (mC (.bl false))) sSkip)
    (sIf (mOr (mNot (mTru (mIsi "str" (mOp oIx (mVar 1) (mC (.int 0)))))) (mNot (mTru (mCall 1 m__law_whole (mCons (mOp oIx (mVar 1) (mC (.int 1))) mNil))))) (sRet (mC (.bl false))) sSkip))
def b__law_chain : FS := (sSeq (sIf (mOr (mNot (mTru (mIsi "tuple" (mVar 0)))) (mNot (mB (mChain oLe oLe (mC (.int 1)) (mCB bLen (mCons (mVar 0) mNil)) (mC (.int 8)))))) (sRet (mC (.bl false))) sSkip)
    (sSeq (sFor (iTupM (mVar 0)) (aName 1) l1__law_chain)
    (sRet (mC (.bl true)))))
def m__law_chain : List T → AH → Res T := mDef 2 b__law_chain
def e1__law_entry (m__law_entry : List T → AH → Res T) : FE := (mCall 4 m__law_entry (mCons (mC (.str "v")) (mCons (mVar 5) (mCons (mVar 2) (mCons (mVar 3) mNil)))))
def b__law_entry (m__law_entry : List T → AH → Res T) : FS := (sSeq (sIf (mB (mOp oIn (mVar 0) (mTup (mCons (mC (.str "m")) (mCons (mC (.str "s")) mNil))))) (sFrz 2 (sRet (mAndV (mIsi "tuple" (mVar 1)) (mCB bAll (mCons (mLc [5] (iTupM (mVar 1)) (aName 5) mYes (e1__law_entry m__law_entry)) mNil))))) sSkip)
    (sSeq (sIf (mB (mOp oEq (mVar 0) (mC (.str "a")))) (sRet (mCall 1 m__law_chain (mCons (mVar 1) mNil))) sSkip)
    (sSeq (sIf (mAnd (mB (mOp oEq (mVar 0) (mC (.str "r")))) (mTru (mCall 1 m__law_whole (mCons (mVar 1) mNil)))) (sFrz 2 (sRet (mChain oLe oLt (mC (.int 0)) (mVar 1) (mDGet (mVar 2) (mC (.str "rows")))))) sSkip)
    (sSeq (sIf (mB (mOp oIn (mVar 0) (mTup (mCons (mC (.str "r")) (mCons (mC (.str "g")) mNil))))) (sRet (mIsi "str" (mVar 1))) sSkip)
    (sSeq (sIf (mB (mOp oEq (mVar 0) (mC (.str "o")))) (sSeq (sSet 4 (mLst (mCons (mC (.str "add")) (mCons (mC (.str "sub")) (mCons (mC (.str "mul")) (mCons (mC (.str "and")) (mCons (mC (.str "or")) (mCons (mC (.str "xor")) (mCons (mC (.str "shl")) mNil)))))))))
    (sFrz 4 (sRet (mAndV (mIsi "str" (mVar 1)) (mOp oIn (mVar 1) (mOp oCat (mVar 4) (mLst (mCons (mC (.str "sar")) (mCons (mC (.str "lt")) (mCons (mC (.str "le")) (mCons (mC (.str "eq")) (mCons (mC (.str "ne")) (mCons (mC (.str "quo")) (mCons (mC (.str "mod")) mNil)))))))))))))) sSkip)
    (sSeq (sIf (mNot (mTru (mCall 1 m__law_whole (mCons (mVar 1) mNil)))) (sRet (mC (.bl false))) sSkip)
    (sSeq (sIf (mB (mOp oEq (mVar 0) (mC (.str "v")))) (sFrz 2 (sRet (mChain oLe oLt (mC (.int 0)) (mVar 1) (mDGet (mVar 2) (mC (.str "wide")))))) sSkip)
    (sSeq (sIf (mB (mOp oEq (mVar 0) (mC (.str "n")))) (sRet (mChain oLe oLe (mUn oNeg (mC (.int 2147483648))) (mVar 1) (mC (.int 2147483647)))) sSkip)
    (sSeq (sIf (mB (mOp oEq (mVar 0) (mC (.str "p")))) (sRet (mChain oLe oLe (mC (.int 1)) (mVar 1) (mC (.int 2147483647)))) sSkip)
    (sSeq (sIf (mB (mOp oEq (mVar 0) (mC (.str "k")))) (sFrz 2 (sRet (mChain oLt oLt (mVar 3) (mVar 1) (mDGet (mVar 2) (mC (.str "many")))))) sSkip)
    (sFrz 2 (sRet (mChain oLe oLt (mC (.int 0)) (mVar 1) (mDGet (mVar 2) (mC (.str "many"))))))))))))))))
def r__law_entry : Nat → List T → AH → Res T
  | 0 => fun _ _ => .bad
  | n + 1 => mDef 6 (b__law_entry (r__law_entry n))
def m__law_entry : List T → AH → Res T := r__law_entry 40
def l1__law_fits : FS := (sIf (mNot (mTru (mCall 4 m__law_entry (mCons (mOp oIxS (mVar 3) (mVar 4)) (mCons (mOp oIx (mVar 0) (mOp oAdd (mVar 4) (mC (.int 1)))) (mCons (mVar 1) (mCons (mVar 2) mNil))))))) (sRet (mC (.bl false))) sSkip)
def e2__law_fits : FE := (mVar 4)
def b__law_fits : FS := (sSeq (sIf (mOr (mNot (mTru (mIsi "tuple" (mVar 0)))) (mOr (mB (mOp oEq (mCB bLen (mCons (mVar 0) mNil)) (mC (.int 0)))) (mNot (mTru (mIsi "str" (mOp oIx (mVar 0) (mC (.int 0)))))))) (sRet (mC (.bl false))) sSkip)
    (sSeq (sFrz 1 (sSet 3 (mDGet2 (mDGet (mVar 1) (mC (.str "table"))) (mOp oIx (mVar 0) (mC (.int 0))) (mC .non))))
    (sSeq (sIf (mOr (mB (mIsN (mVar 3))) (mB (mOp oNe (mCB bLen (mCons (mVar 0) mNil)) (mOp oAdd (mCB bLenS (mCons (mVar 3) mNil)) (mC (.int 1)))))) (sRet (mC (.bl false))) sSkip)
    (sSeq (sFor (iRngA (mCons (mCB bLenS (mCons (mVar 3) mNil)) mNil)) (aName 4) l1__law_fits)
    (sSeq (sIf (mB (mOp oEq (mOp oIx (mVar 0) (mC (.int 0))) (mC (.str "moves")))) (sSeq (sSet 5 (mOp oIx (mVar 0) (mC (.int 1))))
    (sSeq (sSet 6 (mLc [4] (iRngA (mCons (mCB bLen (mCons (mVar 5) mNil)) mNil)) (aName 4) (mB (mOp oIn (mOp oIx (mVar 5) (mVar 4)) (mSl oSlT (mVar 5) mNoPart (mPart (mVar 4))))) e2__law_fits))
    (sFrz 6 (sRet (mAndV (mOp oEq (mCB bLen (mCons (mVar 5) mNil)) (mCB bLen (mCons (mOp oIx (mVar 0) (mC (.int 2))) mNil))) (mOp oEq (mCB bLen (mCons (mVar 6) mNil)) (mC (.int 0)))))))) sSkip)
    (sRet (mC (.bl true))))))))
def m__law_fits : List T → AH → Res T := mDef 7 b__law_fits
def l1__law_fault : FS := (sSeq (sSet 6 (mOp oIx (mVar 0) (mVar 5)))
    (sFrz 4 (sIf (mOr (mNot (mTru (mCall 4 m__law_entry (mCons (mC (.str "v")) (mCons (mVar 6) (mCons (mVar 4) (mCons (mC (.int 0)) mNil))))))) (mB (mOp oIn (mVar 6) (mSl oSlT (mVar 0) mNoPart (mPart (mVar 5)))))) (sRet (mTup (mCons (mUn oNeg (mC (.int 1))) (mCons (mVar 5) mNil)))) sSkip)))
def l2__law_fault : FS := (sSeq (sSet 8 (mOp oIx (mOp oIx (mVar 3) (mVar 7)) (mVar 5)))
    (sSeq (sFrz 4 (sIf (mNot (mTru (mCall 3 m__law_fits (mCons (mVar 8) (mCons (mVar 4) (mCons (mVar 7) mNil)))))) (sRet (mTup (mCons (mVar 7) (mCons (mVar 5) mNil)))) sSkip))
    (sIf (mB (mOp oNe (mOp oIn (mOp oIx (mVar 8) (mC (.int 0))) (mTup (mCons (mC (.str "jump")) (mCons (mC (.str "fork")) (mCons (mC (.str "back")) mNil))))) (mOp oEq (mVar 5) (mOp oSub (mCB bLen (mCons (mOp oIx (mVar 3) (mVar 7)) mNil)) (mC (.int 1)))))) (sRet (mTup (mCons (mVar 7) (mCons (mVar 5) mNil)))) sSkip)))
def l3__law_fault : FS := (sSeq (sIf (mB (mOp oEq (mCB bLen (mCons (mOp oIx (mVar 3) (mVar 7)) mNil)) (mC (.int 0)))) (sRet (mTup (mCons (mVar 7) (mCons (mC (.int 0)) mNil)))) sSkip)
    (sFor (iRngA (mCons (mCB bLen (mCons (mOp oIx (mVar 3) (mVar 7)) mNil)) mNil)) (aName 5) l2__law_fault))
def b__law_fault : FS := (sSeq (sSet 4 (mDisp (((mC (.str "wide")), (mVar 1)) :: (((mC (.str "rows")), (mCB bLen (mCons (mVar 2) mNil))) :: (((mC (.str "many")), (mCB bLen (mCons (mVar 3) mNil))) :: (((mC (.str "table")), (mCall 0 m__law_table mNil)) :: []))))))
    (sSeq (sFor (iRngA (mCons (mCB bLen (mCons (mVar 0) mNil)) mNil)) (aName 5) l1__law_fault)
    (sSeq (sIf (mB (mOp oEq (mCB bLen (mCons (mVar 3) mNil)) (mC (.int 0)))) (sRet (mTup (mCons (mC (.int 0)) (mCons (mC (.int 0)) mNil)))) sSkip)
    (sSeq (sFor (iRngA (mCons (mCB bLen (mCons (mVar 3) mNil)) mNil)) (aName 7) l3__law_fault)
    (sRet (mC .non))))))
def m__law_fault : List T → AH → Res T := mDef 9 b__law_fault
def b_is_within : FS := (sRet (mAndV (mIsi "int" (mVar 0)) (mChain oLe oLe (mVar 1) (mVar 0) (mVar 2))))
def m_is_within : List T → AH → Res T := mDef 3 b_is_within
def l1_check_params : FS := (sIf (mOr (mNot (mTru (mCall 3 m_is_within (mCons (mVar 3) (mCons (mC (.int 0)) (mCons (mOp oSub (mVar 1) (mC (.int 1))) mNil)))))) (mB (mOp oIn (mVar 3) (mSl oSlT (mVar 0) mNoPart (mPart (mVar 2)))))) (sRaise "BadFlow" ["block", "position"] (mCons (mUn oNeg (mC (.int 1))) (mCons (mVar 2) mNil))) sSkip)
def b_check_params : FS := (sFor (iEnumTM (mCons (mVar 0) mNil)) (aTup 2 (aCons (aName 2) (aCons (aName 3) aNil))) l1_check_params)
def m_check_params : List T → AH → Res T := mDef 4 b_check_params
def b_fits_word : FS := (sRet (mCall 3 m_is_within (mCons (mVar 2) (mCons (mC (.int (-2147483648))) (mCons (mC (.int (2147483647))) mNil)))))
def m_fits_word : List T → AH → Res T := mDef 3 b_fits_word
def e1_fits_variables : FE := (mCall 3 m_is_within (mCons (mVar 3) (mCons (mC (.int 0)) (mCons (mOp oSub (mFld "Flow" "count" (mVar 0)) (mC (.int 1))) mNil))))
def b_fits_variables : FS := (sRet (mAndV (mIsi "tuple" (mVar 2)) (mCB bAll (mCons (mLc [3] (iTupM (mVar 2)) (aName 3) mYes e1_fits_variables) mNil))))
def m_fits_variables : List T → AH → Res T := mDef 4 b_fits_variables
def b_fits_variable : FS := (sRet (mCall 3 m_is_within (mCons (mVar 2) (mCons (mC (.int 0)) (mCons (mOp oSub (mFld "Flow" "count" (mVar 0)) (mC (.int 1))) mNil)))))
def m_fits_variable : List T → AH → Res T := mDef 3 b_fits_variable
def b_fits_row : FS := (sRet (mOrV (mIsi "str" (mVar 2)) (mCall 3 m_is_within (mCons (mVar 2) (mCons (mC (.int 0)) (mCons (mOp oSub (mCB bLen (mCons (mFld "Flow" "arrays" (mVar 0)) mNil)) (mC (.int 1))) mNil))))))
def m_fits_row : List T → AH → Res T := mDef 3 b_fits_row
def b_fits_operation : FS := (sRet (mOp oIn (mVar 2) (mC (.ktp c_OPERATIONS))))
def m_fits_operation : List T → AH → Res T := mDef 3 b_fits_operation
def b_fits_name : FS := (sRet (mIsi "str" (mVar 2)))
def m_fits_name : List T → AH → Res T := mDef 3 b_fits_name
def b_fits_many : FS := (sRet (mAndV (mIsi "int" (mVar 2)) (mOp oGe (mVar 2) (mC (.int 1)))))
def m_fits_many : List T → AH → Res T := mDef 3 b_fits_many
def b_fits_later : FS := (sRet (mCall 3 m_is_within (mCons (mVar 2) (mCons (mOp oAdd (mVar 1) (mC (.int 1))) (mCons (mOp oSub (mCB bLen (mCons (mFld "Flow" "blocks" (mVar 0)) mNil)) (mC (.int 1))) mNil)))))
def m_fits_later : List T → AH → Res T := mDef 3 b_fits_later
def b_fits_chain : FS := (sRet (mAndV (mIsi "tuple" (mVar 2)) (mChain oLe oLe (mC (.int 1)) (mCB bLen (mCons (mVar 2) mNil)) (mC (.int (8))))))
def m_fits_chain : List T → AH → Res T := mDef 3 b_fits_chain
def b_fits_block : FS := (sRet (mCall 3 m_is_within (mCons (mVar 2) (mCons (mC (.int 0)) (mCons (mOp oSub (mCB bLen (mCons (mFld "Flow" "blocks" (mVar 0)) mNil)) (mC (.int 1))) mNil)))))
def m_fits_block : List T → AH → Res T := mDef 3 b_fits_block
def l1_keeps_rules : FS := (sSeq (sSet 5 (mOp (oKd "TESTS" rows_TESTS) (mC (.ref "TESTS")) (mVar 3)))
    (sIf (mNot (mTru (mCallL 5 "fits_block" 3 m_fits_block (mCons (mVar 0) (mCons (mVar 1) (mCons (mVar 4) mNil))) (mCallL 5 "fits_chain" 3 m_fits_chain (mCons (mVar 0) (mCons (mVar 1) (mCons (mVar 4) mNil))) (mCallL 5 "fits_later" 3 m_fits_later (mCons (mVar 0) (mCons (mVar 1) (mCons (mVar 4) mNil))) (mCallL 5 "fits_many" 3 m_fits_many (mCons (mVar 0) (mCons (mVar 1) (mCons (mVar 4) mNil))) (mCallL 5 "fits_name" 3 m_fits_name (mCons (mVar 0) (mCons (mVar 1) (mCons (mVar 4) mNil))) (mCallL 5 "fits_operation" 3 m_fits_operation (mCons (mVar 0) (mCons (mVar 1) (mCons (mVar 4) mNil))) (mCallL 5 "fits_row" 3 m_fits_row (mCons (mVar 0) (mCons (mVar 1) (mCons (mVar 4) mNil))) (mCallL 5 "fits_variable" 3 m_fits_variable (mCons (mVar 0) (mCons (mVar 1) (mCons (mVar 4) mNil))) (mCallL 5 "fits_variables" 3 m_fits_variables (mCons (mVar 0) (mCons (mVar 1) (mCons (mVar 4) mNil))) (mCallL 5 "fits_word" 3 m_fits_word (mCons (mVar 0) (mCons (mVar 1) (mCons (mVar 4) mNil))) mBad)))))))))))) (sRet (mC (.bl false))) sSkip))
def b_keeps_rules : FS := (sSeq (sIf (mOr (mNot (mTru (mVar 2))) (mOr (mB (mOp (oKin true "SHAPES" rows_SHAPES) (mOp oIx (mVar 2) (mC (.int 0))) (mC (.ref "SHAPES")))) (mB (mOp oNe (mCB bLen (mCons (mVar 2) mNil)) (mOp oAdd (mCB bLen (mCons (mOp (oKd "SHAPES" rows_SHAPES) (mC (.ref "SHAPES")) (mOp oIx (mVar 2) (mC (.int 0)))) mNil)) (mC (.int 1))))))) (sRet (mC (.bl false))) sSkip)
    (sSeq (sFor (iZipM (mCons (mOp (oKd "SHAPES" rows_SHAPES) (mC (.ref "SHAPES")) (mOp oIx (mVar 2) (mC (.int 0)))) (mCons (mSl oSlT (mVar 2) (mPart (mC (.int 1))) mNoPart) mNil))) (aTup 2 (aCons (aName 3) (aCons (aName 4) aNil))) l1_keeps_rules)
    (sRet (mOrV (mOp oNe (mOp oIx (mVar 2) (mC (.int 0))) (mC (.str "moves"))) (mAndV (mOp oEq (mCB bLen (mCons (mOp oIx (mVar 2) (mC (.int 1))) mNil)) (mCB bLen (mCons (mOp oIx (mVar 2) (mC (.int 2))) mNil))) (mOp oEq (mLenSet (mOp oIx (mVar 2) (mC (.int 1)))) (mCB bLen (mCons (mOp oIx (mVar 2) (mC (.int 1))) mNil))))))))
def m_keeps_rules : List T → AH → Res T := mDef 6 b_keeps_rules
def b_is_end : FS := (sRet (mOp oIn (mOp oIx (mVar 0) (mC (.int 0))) (mC (.ktp c_ENDS))))
def m_is_end : List T → AH → Res T := mDef 1 b_is_end
def l1_check_blocks : FS := (sIf (mOr (mNot (mTru (mCall 3 m_keeps_rules (mCons (mVar 0) (mCons (mVar 1) (mCons (mVar 4) mNil)))))) (mB (mOp oNe (mCall 1 m_is_end (mCons (mVar 4) mNil)) (mOp oEq (mVar 3) (mOp oSub (mCB bLen (mCons (mVar 2) mNil)) (mC (.int 1))))))) (sRaise "BadFlow" ["block", "position"] (mCons (mVar 1) (mCons (mVar 3) mNil))) sSkip)
def l2_check_blocks : FS := (sSeq (sIf (mNot (mTru (mVar 2))) (sRaise "BadFlow" ["block", "position"] (mCons (mVar 1) (mCons (mC (.int 0)) mNil))) sSkip)
    (sFor (iEnumTM (mCons (mVar 2) mNil)) (aTup 2 (aCons (aName 3) (aCons (aName 4) aNil))) l1_check_blocks))
def b_check_blocks : FS := (sSeq (sIf (mNot (mTru (mFld "Flow" "blocks" (mVar 0)))) (sRaise "BadFlow" ["block", "position"] (mCons (mC (.int 0)) (mCons (mC (.int 0)) mNil))) sSkip)
    (sFor (iEnumTM (mCons (mFld "Flow" "blocks" (mVar 0)) mNil)) (aTup 2 (aCons (aName 1) (aCons (aName 2) aNil))) l2_check_blocks))
def m_check_blocks : List T → AH → Res T := mDef 5 b_check_blocks
def e1_Flow___init__ : FE := (mCB bTuple (mCons (mVar 6) mNil))
def b_Flow___init__ : FS := (sSeq (sFldM "Flow" "name" (mVar 0) (mVar 1))
    (sSeq (sFldM "Flow" "params" (mVar 0) (mCB bTuple (mCons (mVar 2) mNil)))
    (sSeq (sFldM "Flow" "count" (mVar 0) (mVar 3))
    (sSeq (sFldM "Flow" "arrays" (mVar 0) (mCB bTuple (mCons (mVar 4) mNil)))
    (sSeq (sFldM "Flow" "blocks" (mVar 0) (mCB bTuple (mCons (mLc [6] (iTupM (mVar 5)) (aName 6) mYes e1_Flow___init__) mNil)))
    (sSeq (sDrop (mCall 2 m_check_params (mCons (mFld "Flow" "params" (mVar 0)) (mCons (mVar 3) mNil))))
    (sDrop (mCall 1 m_check_blocks (mCons (mVar 0) mNil)))))))))
def m_Flow___init__ : List T → AH → Res T := mDef 7 b_Flow___init__
def e1__law_same (m__law_same : List T → AH → Res T) : FE := (mCall 2 m__law_same (mCons (mOp oIx (mVar 0) (mVar 2)) (mCons (mOp oIx (mVar 1) (mVar 2)) mNil)))
def b__law_same (m__law_same : List T → AH → Res T) : FS := (sSeq (sIf (mB (mIsN (mVar 1))) (sRet (mIsN (mVar 0))) sSkip)
    (sSeq (sIf (mTru (mIsi "tuple" (mVar 1))) (sSeq (sIf (mOr (mNot (mTru (mIsi "tuple" (mVar 0)))) (mB (mOp oNe (mCB bLen (mCons (mVar 0) mNil)) (mCB bLen (mCons (mVar 1) mNil))))) (sRet (mC (.bl false))) sSkip)
    (sRet (mCB bAll (mCons (mLc [2] (iRngA (mCons (mCB bLen (mCons (mVar 1) mNil)) mNil)) (aName 2) mYes (e1__law_same m__law_same)) mNil)))) sSkip)
    (sSeq (sIf (mTru (mIsi "str" (mVar 1))) (sRet (mAndV (mIsi "str" (mVar 0)) (mOp oEq (mVar 0) (mVar 1)))) sSkip)
    (sRet (mAndV (mIsi "int" (mVar 0)) (mAndV (mNotV (mIsi "bool" (mVar 0))) (mOp oEq (mVar 0) (mVar 1))))))))
def r__law_same : Nat → List T → AH → Res T
  | 0 => fun _ _ => .bad
  | n + 1 => mDef 3 (b__law_same (r__law_same n))
def m__law_same : List T → AH → Res T := r__law_same 40
def b_Flow_parts : FS := (sFrz 0 (sRet (mTup (mCons (mFld "Flow" "name" (mVar 0)) (mCons (mFld "Flow" "params" (mVar 0)) (mCons (mFld "Flow" "count" (mVar 0)) (mCons (mFld "Flow" "arrays" (mVar 0)) (mCons (mFld "Flow" "blocks" (mVar 0)) mNil))))))))
def m_Flow_parts : List T → AH → Res T := mDef 1 b_Flow_parts
def x1__law_tried : Exc → FS := fun e => (sSeq (sIf (mOr (mNot (mTru (mIsX e "BadFlow" true))) (mNot (mTru (mIsX e "BadFlow" true)))) (sRet (mTup (mCons (mC (.str "kin")) mNil))) sSkip)
    (sSeq (sIf (mTru (mIsX e "BadFlow" false)) (sRet (mTup (mCons (mC (.str "kin")) mNil))) sSkip)
    (sRet (mTup (mCons (mXf e "BadFlow" "block") (mCons (mXf e "BadFlow" "position") mNil))))))
def b__law_tried : FS := (sSeq (sSet 4 (mTup (mCons (mC (.str "f1")) (mCons (mVar 0) (mCons (mVar 1) (mCons (mVar 2) (mCons (mCB bTuple (mCons (mVar 3) mNil)) mNil)))))))
    (sSeq (sTry0 [("BadFlow", true)] 6 (sSet 5 (mMake "Flow" 6 m_Flow___init__ true (mCons (mC (.str "f1")) (mCons (mVar 0) (mCons (mVar 1) (mCons (mVar 2) (mCons (mCB bTuple (mCons (mVar 3) mNil)) mNil))))))) x1__law_tried)
    (sSeq (sFrz 5 (sIf (mNot (mTru (mCall 2 m__law_same (mCons (mTup (mCons (mFld "Flow" "name" (mVar 5)) (mCons (mFld "Flow" "params" (mVar 5)) (mCons (mFld "Flow" "count" (mVar 5)) mNil)))) (mCons (mSl oSlT (mVar 4) mNoPart (mPart (mC (.int 3)))) mNil))))) (sRet (mTup (mCons (mC (.str "fields")) mNil))) sSkip))
    (sSeq (sIf (mNot (mTru (mCall 2 m__law_same (mCons (mTup (mCons (mFld "Flow" "arrays" (mVar 5)) (mCons (mFld "Flow" "blocks" (mVar 5)) mNil))) (mCons (mSl oSlT (mVar 4) (mPart (mC (.int 3))) mNoPart) mNil))))) (sRet (mTup (mCons (mC (.str "fields")) mNil))) sSkip)
    (sRet (mIfE (mTru (mCall 2 m__law_same (mCons (mMeth "Flow" "parts" 1 m_Flow_parts (mVar 5) mNil) (mCons (mVar 4) mNil)))) (mC .non) (mTup (mCons (mC (.str "parts")) mNil))))))))
def m__law_tried : List T → AH → Res T := mDef 7 b__law_tried
def b__law_odd_row : FS := (sSeq (sSet 3 (mCall 2 m__law_pick (mCons (mVar 0) (mCons (mLst (mCons (mVar 2) (mCons (mUn oNeg (mC (.int 1))) (mCons (mOp oAdd (mVar 2) (mC (.int 9))) (mCons (mOp oSub (mVar 2) (mC (.int 1))) mNil))))) mNil))))
    (sSeq (sIf (mAnd (mB (mOp oLt (mCB bLen (mCons (mVar 1) mNil)) (mC (.int 6)))) (mB (mOp oEq (mCall 2 m__law_draw (mCons (mVar 0) (mCons (mC (.int 2)) mNil))) (mC (.int 0))))) (sSeq (sSet 4 (mCall 2 m__law_draw (mCons (mVar 0) (mCons (mOp oAdd (mCB bLen (mCons (mVar 1) mNil)) (mC (.int 1))) mNil))))
    (sRet (mOp oCatA (mOp oCatA (mSl oSlT (mVar 1) mNoPart (mPart (mVar 4))) (mTup (mCons (mVar 3) mNil))) (mSl oSlT (mVar 1) (mPart (mVar 4)) mNoPart)))) sSkip)
    (sSeq (sSet 4 (mCall 2 m__law_draw (mCons (mVar 0) (mCons (mCB bMax (mCons (mC (.int 1)) (mCons (mCB bLen (mCons (mVar 1) mNil)) mNil))) mNil))))
    (sRet (mOp oCatA (mOp oCatA (mSl oSlT (mVar 1) mNoPart (mPart (mVar 4))) (mTup (mCons (mVar 3) mNil))) (mSl oSlT (mVar 1) (mPart (mOp oAdd (mVar 4) (mC (.int 1)))) mNoPart))))))
def m__law_odd_row : List T → AH → Res T := mDef 5 b__law_odd_row
def b__law_odd : FS := (sSeq (sSet 5 (mLst (mCons (mVar 2) mNil)))
    (sSeq (sIf (mB (mOp oEq (mVar 1) (mC (.str "v")))) (sFrz 3 (sSet 5 (mLst (mCons (mDGet (mVar 3) (mC (.str "wide"))) (mCons (mUn oNeg (mC (.int 1))) (mCons (mOp oAdd (mDGet (mVar 3) (mC (.str "wide"))) (mC (.int 9))) (mCons (mC (.int 1099511627775)) (mCons (mUn oNeg (mC (.int 1099511627775))) mNil)))))))) sSkip)
    (sSeq (sIf (mB (mOp oEq (mVar 1) (mC (.str "n")))) (sSet 5 (mLst (mCons (mC (.int 2147483648)) (mCons (mUn oNeg (mC (.int 2147483649))) (mCons (mC (.int 4294967295)) (mCons (mUn oNeg (mC (.int 1099511627775))) mNil)))))) sSkip)
    (sSeq (sIf (mB (mOp oEq (mVar 1) (mC (.str "p")))) (sSet 5 (mLst (mCons (mC (.int 0)) (mCons (mUn oNeg (mC (.int 1))) (mCons (mUn oNeg (mC (.int 1000))) mNil))))) sSkip)
    (sSeq (sIf (mB (mOp oEq (mVar 1) (mC (.str "j")))) (sFrz 3 (sSet 5 (mLst (mCons (mDGet (mVar 3) (mC (.str "many"))) (mCons (mUn oNeg (mC (.int 1))) (mCons (mOp oAdd (mDGet (mVar 3) (mC (.str "many"))) (mC (.int 7))) mNil)))))) sSkip)
    (sSeq (sIf (mB (mOp oEq (mVar 1) (mC (.str "k")))) (sFrz 3 (sSet 5 (mLst (mCons (mVar 4) (mCons (mDGet (mVar 3) (mC (.str "many"))) (mCons (mUn oNeg (mC (.int 1))) (mCons (mC (.int 0)) (mCons (mOp oAdd (mDGet (mVar 3) (mC (.str "many"))) (mC (.int 2))) mNil)))))))) sSkip)
    (sSeq (sIf (mB (mOp oEq (mVar 1) (mC (.str "o")))) (sSet 5 (mLst (mCons (mC (.str "")) (mCons (mC (.str "plus")) (mCons (mC (.str "ADD")) (mCons (mC (.str "addi")) (mCons (mC (.str "neg")) (mCons (mC (.str "add ")) mNil)))))))) sSkip)
    (sSeq (sIf (mB (mOp oEq (mVar 1) (mC (.str "r")))) (sFrz 3 (sSet 5 (mLst (mCons (mDGet (mVar 3) (mC (.str "rows"))) (mCons (mUn oNeg (mC (.int 1))) (mCons (mOp oAdd (mDGet (mVar 3) (mC (.str "rows"))) (mC (.int 2))) mNil)))))) sSkip)
    (sSeq (sIf (mB (mOp oEq (mVar 1) (mC (.str "a")))) (sSet 5 (mLst (mCons (mTup mNil) (mCons (mOp oRepT (mTup (mCons (mTup (mCons (mC (.str "f")) (mCons (mC (.int 0)) mNil))) mNil)) (mC (.int 9))) mNil)))) sSkip)
    (sFrz 5 (sRet (mCall 2 m__law_pick (mCons (mVar 0) (mCons (mVar 5) mNil))))))))))))))
def m__law_odd : List T → AH → Res T := mDef 6 b__law_odd
def b__law_entry_bent : FS := (sSeq (sFrz 2 (sSet 4 (mDGet (mDGet (mVar 2) (mC (.str "table"))) (mOp oIx (mVar 1) (mC (.int 0))))))
    (sSeq (sIf (mB (mOp oEq (mCB bLenS (mCons (mVar 4) mNil)) (mC (.int 0)))) (sRet (mOp oCatA (mVar 1) (mTup (mCons (mC (.int 0)) mNil)))) sSkip)
    (sSeq (sSet 5 (mCall 2 m__law_draw (mCons (mVar 0) (mCons (mCB bLenS (mCons (mVar 4) mNil)) mNil))))
    (sSeq (sSet 6 (mCB bListO (mCons (mVar 1) mNil)))
    (sSeq (sSet 7 (mOp oIx (mVar 1) (mOp oAdd (mVar 5) (mC (.int 1)))))
    (sSeq (sIf (mB (mOp oIn (mOp oIxS (mVar 4) (mVar 5)) (mTup (mCons (mC (.str "m")) (mCons (mC (.str "s")) mNil))))) (sSetIx (mCall 3 m__law_odd_row (mCons (mVar 0) (mCons (mVar 7) (mCons (mDGet (mVar 2) (mC (.str "wide"))) mNil)))) (mVar 6) (mOp oAdd (mVar 5) (mC (.int 1)))) (sSetIx (mCall 5 m__law_odd (mCons (mVar 0) (mCons (mOp oIxS (mVar 4) (mVar 5)) (mCons (mVar 7) (mCons (mVar 2) (mCons (mVar 3) mNil)))))) (mVar 6) (mOp oAdd (mVar 5) (mC (.int 1)))))
    (sFrz 6 (sRet (mCB bTuple (mCons (mVar 6) mNil))))))))))
def m__law_entry_bent : List T → AH → Res T := mDef 8 b__law_entry_bent
def b__law_deed_bent : FS := (sSeq (sSet 4 (mCall 2 m__law_draw (mCons (mVar 0) (mCons (mC (.int 6)) mNil))))
    (sSeq (sIf (mB (mOp oEq (mVar 4) (mC (.int 0)))) (sRet (mOp oCatA (mVar 1) (mTup (mCons (mC (.int 0)) mNil)))) sSkip)
    (sSeq (sIf (mAnd (mB (mOp oEq (mVar 4) (mC (.int 1)))) (mB (mOp oGt (mCB bLen (mCons (mVar 1) mNil)) (mC (.int 1))))) (sRet (mSl oSlT (mVar 1) mNoPart (mPart (mUn oNeg (mC (.int 1)))))) sSkip)
    (sSeq (sIf (mB (mOp oEq (mVar 4) (mC (.int 2)))) (sSeq (sSet 5 (mCall 2 m__law_pick (mCons (mVar 0) (mCons (mLst (mCons (mC (.str "")) (mCons (mC (.str "Word")) (mCons (mC (.str "nop")) (mCons (mC (.str "jumps")) (mCons (mC (.str "add")) (mCons (mC (.str "skip ")) (mCons (mC (.str "check")) mNil)))))))) mNil))))
    (sRet (mOp oCatA (mTup (mCons (mVar 5) mNil)) (mSl oSlT (mVar 1) (mPart (mC (.int 1))) mNoPart)))) sSkip)
    (sSeq (sIf (mB (mOp oEq (mVar 4) (mC (.int 3)))) (sRet (mTup (mCons (mC (.str "skip")) mNil))) sSkip)
    (sFrz 2 (sRet (mCall 4 m__law_entry_bent (mCons (mVar 0) (mCons (mVar 1) (mCons (mVar 2) (mCons (mVar 3) mNil))))))))))))
def m__law_deed_bent : List T → AH → Res T := mDef 6 b__law_deed_bent
def b__law_block_bent : FS := (sSeq (sSet 4 (mCall 2 m__law_draw (mCons (mVar 0) (mCons (mC (.int 8)) mNil))))
    (sSeq (sIf (mB (mOp oEq (mVar 4) (mC (.int 0)))) (sRet (mTup mNil)) sSkip)
    (sSeq (sIf (mB (mOp oEq (mVar 4) (mC (.int 1)))) (sRet (mSl oSlT (mVar 1) mNoPart (mPart (mUn oNeg (mC (.int 1)))))) sSkip)
    (sSeq (sIf (mB (mOp oEq (mVar 4) (mC (.int 2)))) (sFrz 2 (sRet (mOp oCatA (mVar 1) (mTup (mCons (mCall 4 m__law_deed (mCons (mVar 0) (mCons (mVar 2) (mCons (mVar 3) (mCons (mC (.bl true)) mNil))))) mNil))))) sSkip)
    (sSeq (sSet 5 (mCall 2 m__law_draw (mCons (mVar 0) (mCons (mCB bLen (mCons (mVar 1) mNil)) mNil))))
    (sSeq (sIf (mB (mOp oEq (mVar 4) (mC (.int 3)))) (sSeq (sFrz 2 (sSet 6 (mCall 4 m__law_deed (mCons (mVar 0) (mCons (mVar 2) (mCons (mVar 3) (mCons (mC (.bl true)) mNil)))))))
    (sRet (mOp oCatA (mOp oCatA (mSl oSlT (mVar 1) mNoPart (mPart (mVar 5))) (mTup (mCons (mVar 6) mNil))) (mSl oSlT (mVar 1) (mPart (mVar 5)) mNoPart)))) sSkip)
    (sSeq (sSet 7 (mCB bListO (mCons (mVar 1) mNil)))
    (sSeq (sFrz 2 (sSetIx (mCall 4 m__law_deed_bent (mCons (mVar 0) (mCons (mOp oIx (mVar 1) (mVar 5)) (mCons (mVar 2) (mCons (mVar 3) mNil))))) (mVar 7) (mVar 5)))
    (sSeq (sSet 8 (mCall 2 m__law_draw (mCons (mVar 0) (mCons (mCB bLen (mCons (mVar 1) mNil)) mNil))))
    (sSeq (sIf (mAnd (mB (mOp oEq (mVar 4) (mC (.int 4)))) (mB (mOp oNe (mVar 8) (mVar 5)))) (sSetIx (mCall 4 m__law_deed_bent (mCons (mVar 0) (mCons (mOp oIx (mVar 1) (mVar 8)) (mCons (mVar 2) (mCons (mVar 3) mNil))))) (mVar 7) (mVar 8)) sSkip)
    (sFrz 7 (sRet (mCB bTuple (mCons (mVar 7) mNil))))))))))))))
def m__law_block_bent : List T → AH → Res T := mDef 9 b__law_block_bent
def b__law_heads_bent : FS := (sSeq (sSet 3 (mCall 2 m__law_pick (mCons (mVar 0) (mCons (mOp oCat (mLst (mCons (mVar 2) (mCons (mUn oNeg (mC (.int 1))) (mCons (mOp oAdd (mVar 2) (mC (.int 9))) (mCons (mC (.int 0)) mNil))))) (mCB bList (mCons (mVar 1) mNil))) mNil))))
    (sSeq (sSet 4 (mCall 2 m__law_draw (mCons (mVar 0) (mCons (mOp oAdd (mCB bLen (mCons (mVar 1) mNil)) (mC (.int 1))) mNil))))
    (sSeq (sIf (mB (mOp oLt (mCB bLen (mCons (mVar 1) mNil)) (mC (.int 6)))) (sRet (mOp oCatA (mOp oCatA (mSl oSlT (mVar 1) mNoPart (mPart (mVar 4))) (mTup (mCons (mVar 3) mNil))) (mSl oSlT (mVar 1) (mPart (mVar 4)) mNoPart))) sSkip)
    (sRet (mOp oCatA (mSl oSlT (mVar 1) mNoPart (mPart (mC (.int 5)))) (mTup (mCons (mVar 3) mNil)))))))
def m__law_heads_bent : List T → AH → Res T := mDef 5 b__law_heads_bent
def l1_law : FS := (sSeq (sSet 10 (mCall 2 m__law_draw (mCons (mVar 1) (mCons (mVar 4) mNil))))
    (sSeq (sIf (mB (mDIn true (mVar 10) (mVar 8))) (sSetIx (mCall 4 m__law_block_bent (mCons (mVar 1) (mCons (mOp oIx (mVar 7) (mVar 10)) (mCons (mVar 5) (mCons (mVar 10) mNil))))) (mVar 7) (mVar 10)) sSkip)
    (sDPutM (mVar 8) (mVar 10) (mC (.bl true)))))
def b_law : FS := (sSeq (sSet 1 (mCall 1 m__law_pool (mCons (mVar 0) mNil)))
    (sSeq (sSet 2 (mCall 2 m__law_pick (mCons (mVar 1) (mCons (mLst (mCons (mC (.int 3)) (mCons (mC (.int 1)) (mCons (mC (.int 2)) (mCons (mC (.int 5)) (mCons (mC (.int 400)) (mCons (mC (.int 0)) (mCons (mC (.int 3)) (mCons (mC (.int 2)) mNil))))))))) mNil))))
    (sSeq (sSet 3 (mCall 2 m__law_pick (mCons (mVar 1) (mCons (mLst (mCons (mTup (mCons (mC (.int 3)) mNil)) (mCons (mTup mNil) (mCons (mTup (mCons (mC (.int 1)) (mCons (mC (.int 32)) mNil))) (mCons (mTup (mCons (mC (.int 1)) (mCons (mC (.int 1)) (mCons (mC (.int 1)) mNil)))) (mCons (mOp oRepT (mTup (mCons (mC (.int 4)) mNil)) (mC (.int 16))) mNil)))))) mNil))))
    (sSeq (sSet 4 (mIfE (mB (mOp oEq (mCall 2 m__law_draw (mCons (mVar 1) (mCons (mC (.int 16)) mNil))) (mC (.int 0)))) (mC (.int 320)) (mOp oAdd (mC (.int 1)) (mCall 2 m__law_draw (mCons (mVar 1) (mCons (mC (.int 6)) mNil))))))
    (sSeq (sSet 5 (mDispO (((mC (.str "wide")), (mVar 2)) :: (((mC (.str "rows")), (mCB bLen (mCons (mVar 3) mNil))) :: (((mC (.str "many")), (mVar 4)) :: [])))))
    (sSeq (sDPutM (mVar 5) (mC (.str "table")) (mCall 0 m__law_table mNil))
    (sSeq (sSet 6 (mCall 2 m__law_heads (mCons (mVar 1) (mCons (mVar 2) mNil))))
    (sSeq (sFrz 5 (sSet 7 (mCall 2 m__law_grid (mCons (mVar 1) (mCons (mVar 5) mNil)))))
    (sSeq (sIf (mB (mNotN (mCall 4 m__law_fault (mCons (mVar 6) (mCons (mVar 2) (mCons (mVar 3) (mCons (mVar 7) mNil))))))) (sRet (mC (.bl false))) sSkip)
    (sSeq (sIf (mB (mNotN (mCall 4 m__law_tried (mCons (mVar 6) (mCons (mVar 2) (mCons (mVar 3) (mCons (mVar 7) mNil))))))) (sRet (mC (.bl false))) sSkip)
    (sSeq (sSet 8 mDNew)
    (sSeq (sFor (iRngA (mCons (mCall 2 m__law_draw (mCons (mVar 1) (mCons (mC (.int 4)) mNil))) mNil)) (aName 9) l1_law)
    (sSeq (sIf (mB (mOp oEq (mCall 2 m__law_draw (mCons (mVar 1) (mCons (mC (.int 6)) mNil))) (mC (.int 0)))) (sSet 6 (mCall 3 m__law_heads_bent (mCons (mVar 1) (mCons (mVar 6) (mCons (mVar 2) mNil))))) sSkip)
    (sSeq (sIf (mB (mOp oEq (mCall 2 m__law_draw (mCons (mVar 1) (mCons (mC (.int 24)) mNil))) (mC (.int 0)))) (sSet 7 (mLst mNil)) sSkip)
    (sSeq (sFrz 7 (sSet 11 (mCall 4 m__law_fault (mCons (mVar 6) (mCons (mVar 2) (mCons (mVar 3) (mCons (mVar 7) mNil)))))))
    (sRet (mCall 2 m__law_same (mCons (mCall 4 m__law_tried (mCons (mVar 6) (mCons (mVar 2) (mCons (mVar 3) (mCons (mVar 7) mNil))))) (mCons (mVar 11) mNil)))))))))))))))))))
def m_law : List T → AH → Res T := mDef 12 b_law
/-- what the pool of draws holds -/
structure PS where
  ns : List Int
  i : Nat
  d : Int
  c : Int
def PS.ok (s : PS) : Prop := s.ns.length ≤ 63 ∧ 0 ≤ s.d ∧ 0 ≤ s.c
def poolO (s : PS) : Option O := some (.lst [.lst (s.ns.map .int), .int s.i, .int s.d, .int s.c])
def PoolAt (o : Option O) : Prop := ∃ s, o = poolO s ∧ s.ok
theorem pool_ok {ns : List Int} {h : AH} (hl : ns.length ≤ 63) : ∃ o, PoolAt o ∧ m__law_pool [.rdl (ns.map .int)] h = .ok (.obj h.length) (h ++ [o]) := by
  refine ⟨poolO ⟨ns, 0, 0, 11⟩, ⟨_, rfl, hl, Int.le_refl _, (by decide : (0 : Int) ≤ 11)⟩, ?_⟩
  have e1 : HT.sIx ns.length 0 none = 0 := rfl
  have e2 : HT.sIx ns.length ns.length (some 63) = ns.length := by
    have := HT.sIx_nat ns.length ns.length 63
    rw [show ((63 : Nat) : Int) = 63 from rfl] at this
    rw [this]; omega
  have e3 : (4 : Nat) ≤ sizeLine := by decide
  have e4 : cutT (ns.map T.int) none (some 63) = ns.map T.int := by
    unfold cutT
    rw [List.length_map, e1, e2, List.drop_zero, Nat.sub_zero]
    exact List.take_of_length_le (by rw [List.length_map]; exact Nat.le_refl _)
  simp [m__law_pool, b__law_pool, poolO, cutT, List.length_map, e1, e2, e3]
  exact List.take_of_length_le (by rw [List.length_map]; exact Nat.le_refl _)
theorem PoolAt.lt {o : Option O} {h : AH} {p : Nat} (e : h[p]? = some o) : p < h.length := (List.getElem?_eq_some_iff.mp e).1
theorem at0 {a b c d : T} : atI [a, b, c, d] 0 = some a := rfl
theorem at1 {a b c d : T} : atI [a, b, c, d] 1 = some b := rfl
theorem at2 {a b c d : T} : atI [a, b, c, d] 2 = some c := rfl
theorem at3 {a b c d : T} : atI [a, b, c, d] 3 = some d := rfl
theorem ix0 : ixN 4 0 = some 0 := rfl
theorem ix1 : ixN 4 1 = some 1 := rfl
theorem ix2 : ixN 4 2 = some 2 := rfl
theorem ix3 : ixN 4 3 = some 3 := rfl
theorem atI_nat {α : Type} {l : List α} {i : Nat} : atI l (i : Int) = l[i]? := by
  unfold atI ixN
  rw [if_pos (by omega : (0 : Int) ≤ (i : Int))]
  by_cases h : (i : Int) < l.length
  · rw [if_pos h]; simp
  · rw [if_neg h]
    exact (List.getElem?_eq_none_iff.mpr (by omega)).symm
theorem draw_loop {p : Nat} {many : Int} : ∀ (k n : Nat) (s : PS) (h : AH), s.ok → h[p]? = some (poolO s) → k = s.ns.length - s.i → k < n → ∃ s' : PS, s'.ok ∧ sWhile c1__law_draw l1__law_draw n [some (.obj p), some (.int many), none] h = .ok (.nx [some (.obj p), some (.int many), none]) (h.set p (poolO s')) := by
  intro k
  induction k with
  | zero =>
    intro n s h ok hp hk hn
    obtain ⟨n, rfl⟩ : ∃ m, n = m + 1 := ⟨n - 1, by omega⟩
    refine ⟨s, ok, ?_⟩
    have e : h.set p (poolO s) = h := by
      apply List.ext_getElem?
      intro j
      by_cases z : p = j
      · subst z; rw [List.getElem?_set_self (PoolAt.lt hp), hp]
      · rw [List.getElem?_set_ne z]
    have nl : ¬ s.i < s.ns.length := by omega
    rw [e]
    unfold sWhile c1__law_draw
    have hp' := hp
    unfold poolO at hp'
    by_cases z : s.d = 0
    · simp [hp', at0, at1, at2, at3, z, nl]
    · simp [hp', at0, at1, at2, at3, z]
  | succ k ih =>
    intro n s h ok hp hk hn
    obtain ⟨n, rfl⟩ : ∃ m, n = m + 1 := ⟨n - 1, by omega⟩
    have nl : s.i < s.ns.length := by omega
    have hp' := hp
    unfold poolO at hp'
    have lp := PoolAt.lt hp
    have hs : ∀ o, (h.set p o)[p]? = some o := fun o => List.getElem?_set_self lp
    by_cases z : s.d = 0
    · have hx : (s.ns.map T.int)[s.i]? = some (.int s.ns[s.i]) := by rw [List.getElem?_map, List.getElem?_eq_getElem nl]; rfl
      have ok' : (PS.mk s.ns (s.i + 1) (if s.ns[s.i] < 0 then -s.ns[s.i] else s.ns[s.i]) s.c).ok := ⟨ok.1, by dsimp only; split <;> omega, ok.2.2⟩
      obtain ⟨s', o', e'⟩ := ih n _ (h.set p (poolO (PS.mk s.ns (s.i + 1) (if s.ns[s.i] < 0 then -s.ns[s.i] else s.ns[s.i]) s.c))) ok' (List.getElem?_set_self lp) (by show k = s.ns.length - (s.i + 1); omega) (by omega)
      refine ⟨s', o', ?_⟩
      rw [List.set_set] at e'
      rw [← e']
      refine while_nx (h1 := h) ?_ ?_
      · unfold c1__law_draw
        simp [hp', at0, at1, at2, z, nl]
      · unfold l1__law_draw poolO
        simp [hp', at0, at1, at2, ix1, ix2, atI_nat, hx, hs, List.set_set]
    · refine ⟨s, ok, ?_⟩
      have e : h.set p (poolO s) = h := by
        apply List.ext_getElem?
        intro j
        by_cases z : p = j
        · subst z; rw [List.getElem?_set_self lp, hp]
        · rw [List.getElem?_set_ne z]
      rw [e]
      unfold sWhile c1__law_draw
      simp [hp', at0, at1, at2, at3, z]
/-- a draw: some number below many, and the pool is still one -/
theorem draw_ok {h : AH} {p : Nat} {many : Int} {o : Option O} (hp : h[p]? = some o) (ho : PoolAt o) (m0 : 0 < many) (m1 : many.natAbs.log2 < 9000) : ∃ r o', PoolAt o' ∧ 0 ≤ r ∧ r < many ∧ m__law_draw [.obj p, .int many] h = .ok (.int r) (h.set p o') := by
  obtain ⟨s, rfl, ok⟩ := ho
  obtain ⟨s1, ok1, e1⟩ := draw_loop (many := many) _ FUEL s h ok hp rfl (by have := ok.1; show _ < 1000000; omega)
  have lp := PoolAt.lt hp
  have hs : ∀ o, (h.set p o)[p]? = some o := fun o => List.getElem?_set_self lp
  by_cases z : s1.d = 0
  · refine ⟨(s1.c + 7) / 3 % many, poolO ⟨s1.ns, s1.i, s1.d, s1.c + 7⟩, ⟨_, rfl, ok1.1, ok1.2.1, by have := ok1.2.2; dsimp only; omega⟩, Int.emod_nonneg _ (by omega), Int.emod_lt_of_pos _ m0, ?_⟩
    have c3 : Nat.log2 3 < 9000 := by decide
    simp [m__law_draw, b__law_draw, e1, poolO, hs, at0, at1, at2, at3, ix3, z, List.set_set, m0, c3]
  · refine ⟨s1.d % many, poolO ⟨s1.ns, s1.i, s1.d / many, s1.c⟩, ⟨_, rfl, ok1.1, Int.ediv_nonneg ok1.2.1 (by omega), ok1.2.2⟩, Int.emod_nonneg _ (by omega), Int.emod_lt_of_pos _ m0, ?_⟩
    simp [m__law_draw, b__law_draw, e1, poolO, hs, at0, at1, at2, at3, ix2, z, List.set_set, m0, m1]

theorem word_ok {h : AH} {p : Nat} {o : Option O} (hp : h[p]? = some o) (ho : PoolAt o) : ∃ r o', PoolAt o' ∧ (-2147483648 ≤ r ∧ r ≤ 2147483647) ∧ m__law_word [.obj p] h = .ok (.int r) (h.set p o') := by
  have hs : ∀ o, (h.set p o)[p]? = some o := fun o => List.getElem?_set_self (PoolAt.lt hp)
  have e14 : (14 : Nat) ≤ sizeLine := by decide
  obtain ⟨r1, o1, q1, lo1, hi1, e1⟩ := draw_ok (many := 4) hp ho (by decide) (by decide)
  by_cases z : r1 < 2
  · obtain ⟨r2, o2, q2, lo2, hi2, e2⟩ := draw_ok (many := 12) (hs o1) q1 (by decide) (by decide)
    exact ⟨r2 - 4, o2, q2, by omega, by simp [m__law_word, b__law_word, e1, e2, z, List.set_set]⟩
  · by_cases z2 : r1 = 2
    · obtain ⟨r2, o2, q2, lo2, hi2, e2⟩ := draw_ok (many := 14) (hs o1) q1 (by decide) (by decide)
      obtain ⟨i, rfl⟩ : ∃ i : Nat, r2 = i := ⟨r2.toNat, by omega⟩
      have hi : i < 14 := by omega
      obtain ⟨w, hw, b⟩ : ∃ w : Int, ([-2147483648, -2147483647, -2049, -2048, -1, 0, 1, 31, 32, 33, 2047, 2048, 4095, 2147483647] : List Int)[i]? = some w ∧ (-2147483648 ≤ w ∧ w ≤ 2147483647) := by
        have : ∀ i < 14, ∃ w : Int, ([-2147483648, -2147483647, -2049, -2048, -1, 0, 1, 31, 32, 33, 2047, 2048, 4095, 2147483647] : List Int)[i]? = some w ∧ (-2147483648 ≤ w ∧ w ≤ 2147483647) := by
          intro i hi
          have hh : i = 0 ∨ i = 1 ∨ i = 2 ∨ i = 3 ∨ i = 4 ∨ i = 5 ∨ i = 6 ∨ i = 7 ∨ i = 8 ∨ i = 9 ∨ i = 10 ∨ i = 11 ∨ i = 12 ∨ i = 13 := by omega
          rcases hh with rfl | rfl | rfl | rfl | rfl | rfl | rfl | rfl | rfl | rfl | rfl | rfl | rfl | rfl <;> exact ⟨_, rfl, by decide, by decide⟩
        exact this i hi
      have hw' : ([.int (-2147483648), .int (-2147483647), .int (-2049), .int (-2048), .int (-1), .int 0, .int 1, .int 31, .int 32, .int 33, .int 2047, .int 2048, .int 4095, .int 2147483647] : List T)[i]? = some (.int w) := by
        have := congrArg (Option.map T.int) hw
        rw [← List.getElem?_map] at this
        exact this
      exact ⟨w, o2, q2, b, by simp [m__law_word, b__law_word, e1, e2, z2, e14, atI_nat, hw', List.set_set]⟩
    · obtain ⟨r2, o2, q2, lo2, hi2, e2⟩ := draw_ok (many := 4294967296) (hs o1) q1 (by decide) (by decide)
      exact ⟨r2 - 2147483648, o2, q2, by omega, by simp [m__law_word, b__law_word, e1, e2, z, z2, e14, List.set_set]⟩

/-! the pool stands at p; what a drawing def keeps -/
def Pl (p : Nat) (h : AH) : Prop := ∃ o, h[p]? = some o ∧ PoolAt o
structure Ht (p : Nat) (h h' : AH) : Prop where
  pl : Pl p h'
  len : h.length ≤ h'.length
  keep : ∀ q, q < h.length → q ≠ p → h'[q]? = h[q]?
theorem Ht.trans {p : Nat} {h h1 h2 : AH} (a : Ht p h h1) (b : Ht p h1 h2) : Ht p h h2 := ⟨b.pl, Nat.le_trans a.len b.len, fun q hq n => (b.keep q (Nat.lt_of_lt_of_le hq a.len) n).trans (a.keep q hq n)⟩
theorem Ht.refl {p : Nat} {h : AH} (a : Pl p h) : Ht p h h := ⟨a, Nat.le_refl _, fun _ _ _ => rfl⟩
theorem Pl.lt {p : Nat} {h : AH} (a : Pl p h) : p < h.length := by obtain ⟨o, e, _⟩ := a; exact PoolAt.lt e
/-- a new thing -/
theorem Ht.new {p : Nat} {h : AH} {o : Option O} (a : Pl p h) : Ht p h (h ++ [o]) := by
  obtain ⟨x, e, q⟩ := a
  refine ⟨⟨x, ?_, q⟩, by simp -dsimp, fun j hj _ => List.getElem?_append_left hj⟩
  rw [List.getElem?_append_left (PoolAt.lt e)]; exact e
/-- what is newer than h changes -/
theorem Ht.put {p : Nat} {h h1 : AH} {i : Nat} {o : Option O} (a : Ht p h h1) (hi : h.length ≤ i) (hp : p < h.length) : Ht p h (h1.set i o) := by
  obtain ⟨x, e, q⟩ := a.pl
  refine ⟨⟨x, ?_, q⟩, by rw [List.length_set]; exact a.len, fun j hj n => ?_⟩
  · rw [List.getElem?_set_ne (by omega)]; exact e
  · rw [List.getElem?_set_ne (by omega)]; exact a.keep j hj n
theorem Ht.at {p : Nat} {h h1 : AH} (a : Ht p h h1) {i : Nat} {o : Option O} (e : h[i]? = some o) (n : i ≠ p) : h1[i]? = some o := by
  rw [a.keep i (PoolAt.lt e) n]; exact e
theorem draw_wp {p : Nat} {h : AH} {many : Int} {P : T → AH → Prop} {X : Exc → AH → Prop} (hp : Pl p h) (m0 : 0 < many) (m1 : many < 1099511627776) (k : ∀ r h', 0 ≤ r → r < many → Ht p h h' → P (.int r) h') : Wp (m__law_draw [.obj p, .int many] h) P X := by
  obtain ⟨o, e, q⟩ := hp
  have lg : many.natAbs.log2 < 9000 := (Nat.log2_lt (by omega)).mpr (Nat.lt_of_lt_of_le (by omega : many.natAbs < 2 ^ 40) (Nat.pow_le_pow_right (by decide) (by decide)))
  obtain ⟨r, o', q', r0, r1, e'⟩ := draw_ok e q m0 lg
  refine Wp.of e' (k r _ r0 r1 ⟨⟨o', List.getElem?_set_self (PoolAt.lt e), q'⟩, by simp -dsimp, fun j hj n => List.getElem?_set_ne (Ne.symm n)⟩)
theorem pick_wp {p : Nat} {h : AH} {l : List T} {P : T → AH → Prop} {X : Exc → AH → Prop} (hp : Pl p h) (h0 : 0 < l.length) (h1 : l.length ≤ 1000) (k : ∀ x h', x ∈ l → Ht p h h' → P x h') : Wp (m__law_pick [.obj p, .lst l] h) P X := by
  unfold m__law_pick b__law_pick
  simp -dsimp
  refine draw_wp hp (by omega) (by omega) (fun r h' r0 r1 ht => ?_)
  obtain ⟨i, rfl⟩ : ∃ i : Nat, r = i := ⟨r.toNat, by omega⟩
  have hi : i < l.length := by omega
  have hx : l[i]? = some l[i] := List.getElem?_eq_getElem hi
  simp -dsimp [atI_nat, hx]
  exact k _ _ (List.getElem_mem hi) ht
theorem word_wp {p : Nat} {h : AH} {P : T → AH → Prop} {X : Exc → AH → Prop} (hp : Pl p h) (k : ∀ r h', -2147483648 ≤ r → r ≤ 2147483647 → Ht p h h' → P (.int r) h') : Wp (m__law_word [.obj p] h) P X := by
  obtain ⟨o, e, q⟩ := hp
  obtain ⟨r, o', q', b, e'⟩ := word_ok e q
  exact Wp.of e' (k r _ b.1 b.2 ⟨⟨o', List.getElem?_set_self (PoolAt.lt e), q'⟩, by simp -dsimp, fun j hj n => List.getElem?_set_ne (Ne.symm n)⟩)
theorem pool_wp {ns : List Int} (hl : ns.length ≤ 63) {P : T → AH → Prop} {X : Exc → AH → Prop} (k : ∀ h', Pl 0 h' → P (.obj 0) h') : Wp (m__law_pool [.rdl (ns.map .int)] []) P X := by
  obtain ⟨o, q, e⟩ := pool_ok (h := []) hl
  exact Wp.of e (k _ ⟨o, rfl, q⟩)
theorem at_0 {a : T} {l : List T} : atI (a :: l) 0 = some a := atI_nat (i := 0)
theorem at_1 {a b : T} {l : List T} : atI (a :: b :: l) 1 = some b := atI_nat (i := 1)
theorem at_2 {a b c : T} {l : List T} : atI (a :: b :: c :: l) 2 = some c := atI_nat (i := 2)
@[simp] theorem sIx_none {n d : Nat} : HT.sIx n d none = d := rfl
@[simp] theorem sIx_1 {n d : Nat} : HT.sIx n d (some 1) = min 1 n := HT.sIx_nat n d 1
@[simp] theorem sIx_3 {n d : Nat} : HT.sIx n d (some 3) = min 3 n := HT.sIx_nat n d 3
@[simp] theorem sIx_5 {n d : Nat} : HT.sIx n d (some 5) = min 5 n := HT.sIx_nat n d 5
@[simp] theorem sIx_n {n d k : Nat} : HT.sIx n d (some (k : Int)) = min k n := HT.sIx_nat n d k
@[simp] theorem sIx_m1 {n d : Nat} : HT.sIx n d (some (-1)) = n - 1 := by
  unfold HT.sIx
  simp -dsimp
  omega
@[simp] theorem sIx_n1 {n d k : Nat} : HT.sIx n d (some ((k : Int) + 1)) = min (k + 1) n := HT.sIx_nat n d (k + 1)
theorem ixN_nat {n k : Nat} (h : k < n) : ixN n (k : Int) = some k := by
  unfold ixN
  rw [if_pos (by omega : (0 : Int) ≤ (k : Int)), if_pos (by omega)]; simp -dsimp
theorem ixN_nat1 {n k : Nat} (h : k + 1 < n) : ixN n ((k : Int) + 1) = some (k + 1) := ixN_nat (k := k + 1) h

def TB : List (Str × Str) := [("word", "vn"), ("copy", "vv"), ("op", "vovv"), ("with", "vovn"), ("read", "vg"), ("load", "vrv"), ("moves", "mm"), ("skip", ""), ("write", "gv"), ("store", "rvv"), ("nonzero", "va"), ("inside", "vpa"), ("depth", "pa"), ("call", "vgsa"), ("tell", "va"), ("jump", "j"), ("fork", "vkk"), ("back", "v")]
def TBm : List (Key × T) := TB.map fun x => (.inr x.1, .str x.2)
def tabT : T := .dct (TB.map fun x => .inr x.1) (TB.map fun x => .str x.2)
def boxT (w r n : Int) : T := .dct [.inr "wide", .inr "rows", .inr "many", .inr "table"] [.int w, .int r, .int n, tabT]
@[simp high] theorem dctK_tab {h : AH} : dctK tabT h = some TBm := rfl
@[simp high] theorem dctK_box {w r n : Int} {h : AH} : dctK (boxT w r n) h = some [(.inr "wide", .int w), (.inr "rows", .int r), (.inr "many", .int n), (.inr "table", tabT)] := rfl
section
variable {a b c d : T}
@[simp] theorem box_wide : getT [((.inr "wide" : Key), a), (.inr "rows", b), (.inr "many", c), (.inr "table", d)] (.inr "wide") = some a := rfl
@[simp] theorem box_rows : getT [((.inr "wide" : Key), a), (.inr "rows", b), (.inr "many", c), (.inr "table", d)] (.inr "rows") = some b := rfl
@[simp] theorem box_many : getT [((.inr "wide" : Key), a), (.inr "rows", b), (.inr "many", c), (.inr "table", d)] (.inr "many") = some c := rfl
@[simp] theorem box_table : getT [((.inr "wide" : Key), a), (.inr "rows", b), (.inr "many", c), (.inr "table", d)] (.inr "table") = some d := rfl
end
@[simp ↓ high] theorem look_wide {w r n : Int} {h : AH} : lookD (boxT w r n) (.str "wide") h = some (some (.int w)) := rfl
@[simp ↓ high] theorem look_rows {w r n : Int} {h : AH} : lookD (boxT w r n) (.str "rows") h = some (some (.int r)) := rfl
@[simp ↓ high] theorem look_many {w r n : Int} {h : AH} : lookD (boxT w r n) (.str "many") h = some (some (.int n)) := rfl
@[simp ↓ high] theorem look_table {w r n : Int} {h : AH} : lookD (boxT w r n) (.str "table") h = some (some tabT) := rfl
@[simp] theorem fr_box {w r n : Int} {p : Nat → Prop} {q : Prop} : Fr (some (boxT w r n)) p q = q := rfl
@[simp] theorem sz {n : Nat} (h : n ≤ 5000) : n ≤ sizeLine := Nat.le_trans h (by decide)
theorem szl {n : Nat} (h : n < 5000) : n < sizeLine := Nat.lt_of_lt_of_le h (by decide)
theorem table_eq {h : AH} : m__law_table [] h = .ok tabT (h ++ [none]) := by
  have s : (15 : Nat) ≤ sizeLine := by decide
  have z : ∀ {n : Nat}, n ≤ 100 → n < sizeLine := fun h => Nat.lt_of_lt_of_le (Nat.lt_of_le_of_lt h (by decide : 100 < 101)) (by decide)
  simp -dsimp [m__law_table, b__law_table, mPairs, mergeT, putT, z, frz, frzL]
  rfl

theorem r62_s {i : Int} (h0 : 0 ≤ i) (h1 : i ≤ 1000000) : r62 i = true := r62_ok (by omega) (by omega)
def spT (x : Str × Int) : T := .tup [.str x.1, .int x.2]
def OPS : List Str := ["add", "sub", "mul", "and", "or", "xor", "shl", "sar", "lt", "le", "eq", "ne", "quo", "mod"]
/-- an entry as the law draws it -/
inductive Gd (w r n e : Int) : Str → T → Prop
  | v {i : Int} : 0 ≤ i → i < w → Gd w r n e "v" (.int i)
  | n {i : Int} : -2147483648 ≤ i → i ≤ 2147483647 → Gd w r n e "n" (.int i)
  | p {i : Int} : 1 ≤ i → i ≤ 2147483647 → Gd w r n e "p" (.int i)
  | j {i : Int} : 0 ≤ i → i < n → Gd w r n e "j" (.int i)
  | k {i : Int} : e < i → i < n → Gd w r n e "k" (.int i)
  | o {z : Str} : z ∈ OPS → Gd w r n e "o" (.str z)
  | ri {i : Int} : 0 ≤ i → i < r → Gd w r n e "r" (.int i)
  | rs {z : Str} : Gd w r n e "r" (.str z)
  | g {z : Str} : Gd w r n e "g" (.str z)
  | s {l : List Int} : l.length ≤ 20 → (∀ i ∈ l, 0 ≤ i ∧ i < w) → Gd w r n e "s" (.tup (l.map .int))
  | m {l : List Int} : l.length ≤ 20 → (∀ i ∈ l, 0 ≤ i ∧ i < w) → Gd w r n e "m" (.tup (l.map .int))
  | a {l : List (Str × Int)} : 1 ≤ l.length → l.length ≤ 8 → Gd w r n e "a" (.tup (l.map spT))
section
variable {p : Nat} {h : AH} {w r n e : Int} {P : T → AH → Prop} {X : Exc → AH → Prop}
theorem some_wp {k : Int} (hp : Pl p h) (w0 : 0 < w) (w1 : w < 1000) (k0 : 0 ≤ k) (k1 : k ≤ 30) (q : ∀ (is : List Int) (h' : AH), is.length = k.toNat → (∀ i ∈ is, 0 ≤ i ∧ i < w) → Ht p h h' → P (.tup (is.map .int)) h') : Wp (m__law_some [.obj p, boxT w r n, .int k] h) P X := by
  unfold m__law_some b__law_some
  simp -dsimp [boxT, r62_s k0 (by omega)]
  refine wp_lcl (acc := []) (fun l acc h' => ∃ is : List Int, acc = is.map .int ∧ is.length + l.length = k.toNat ∧ (∀ i ∈ is, 0 ≤ i ∧ i < w) ∧ Ht p h h') ⟨[], rfl, by simp -dsimp, by simp -dsimp, Ht.refl hp⟩ (by rw [List.length_map, List.length_range]; exact sz (by omega)) ?_ ?_
  · rintro x xs acc h1 ⟨is, rfl, hl, hi, ht⟩
    refine ⟨_, rfl, ?_⟩
    unfold e1__law_some
    simp -dsimp
    refine draw_wp ht.pl w0 (by omega) (fun i h2 i0 i1 h3 => ?_)
    refine Kp.mk ⟨is ++ [i], by simp -dsimp, by simp at hl ⊢; omega, ?_, ht.trans h3⟩
    intro j hj
    rcases List.mem_append.mp hj with hj | hj
    · exact hi j hj
    · rw [List.mem_singleton] at hj; subst hj; exact ⟨i0, i1⟩
  · rintro ys h1 ⟨is, e, hl, hi, ht⟩
    simp at e hl
    subst e
    exact q is h1 hl hi ht

theorem moves_wp (hp : Pl p h) (w0 : 0 < w) (w1 : w < 1000) (q : ∀ (is js : List Int) (h' : AH), is.length = js.length → is.length ≤ 20 → is.Nodup → (∀ i ∈ is, 0 ≤ i ∧ i < w) → (∀ i ∈ js, 0 ≤ i ∧ i < w) → Ht p h h' → P (.tup [.str "moves", .tup (is.map .int), .tup (js.map .int)]) h') : Wp (m__law_moves [.obj p, boxT w r n] h) P X := by
  unfold m__law_moves b__law_moves
  have s3 : (3 : Nat) ≤ sizeLine := by decide
  simp -dsimp
  refine draw_wp hp (by omega) (by omega) (fun k1 h1 a0 a1 t1 => ?_)
  obtain ⟨mo, m0, m1, m2, hm⟩ : ∃ mo : Int, 0 < mo ∧ mo ≤ 20 ∧ mo ≤ w ∧ mo = (if k1 = 0 then (if 20 < w then 20 else w) else (if 3 < w then 3 else w)) := ⟨_, by split <;> split <;> omega, by split <;> split <;> omega, by split <;> split <;> omega, rfl⟩
  by_cases z : k1 = 0 <;> simp only [z, if_true, if_false] at hm <;> simp -dsimp [z, M.eqT, ← hm]
  all_goals
    refine draw_wp t1.pl (by omega) (by omega) (fun k2 h2 b0 b1 t2 => ?_)
    simp -dsimp
    refine draw_wp t2.pl (by omega) (by omega) (fun k3 h3 c0 c1 t3 => ?_)
    simp -dsimp [r62_s b0 (by omega)]
    have w0' : w ≠ 0 := by omega
    rw [lc_mapw (fun x => match x with | .int i => .int ((k3 + i) % w) | _ => .non) (by rw [List.length_map, List.length_range]; exact sz (by omega)) (by
      intro x hx
      obtain ⟨i, hi, rfl⟩ := List.mem_map.mp hx
      refine ⟨_, rfl, ?_⟩
      unfold e1__law_moves
      simp -dsimp [w0, wipeT])]
    simp -dsimp
    refine some_wp t3.pl w0 w1 (by omega) (by omega) (fun js h4 l4 g4 t4 => ?_)
    have := q ((List.range k2.toNat).map fun (i : Nat) => (k3 + (i : Int)) % w) js h4 (by simp -dsimp [l4]) (by simp -dsimp; omega) ?_ ?_ g4 (t1.trans (t2.trans (t3.trans t4)))
    · simpa [Function.comp_def] using this
    · refine List.Pairwise.map _ (fun (i : Nat) (j : Nat) (hij : (i : Int) < (j : Int) ∧ (j : Int) < w) e => ?_) ?_
      · have e' : ((k3 + j) - (k3 + i)) % w = 0 := Int.emod_eq_emod_iff_emod_sub_eq_zero.mp e.symm
        rw [show (k3 + (j : Int)) - (k3 + i) = (j : Int) - i by omega, Int.emod_eq_of_lt (by omega) (by omega)] at e'
        omega
      · refine (List.pairwise_lt_range (n := k2.toNat)).imp_of_mem (fun {i j} hi hj hij => ?_)
        rw [List.mem_range] at hj
        omega
    · intro i hi
      obtain ⟨j, hj, rfl⟩ := List.mem_map.mp hi
      exact ⟨Int.emod_nonneg _ w0', Int.emod_lt_of_pos _ w0⟩

theorem spots_wp (hp : Pl p h) (q : ∀ (l : List (Str × Int)) (h' : AH), 1 ≤ l.length → l.length ≤ 8 → Ht p h h' → P (.tup (l.map spT)) h') : Wp (m__law_spots [.obj p] h) P X := by
  unfold m__law_spots b__law_spots
  simp -dsimp
  refine draw_wp (Ht.new hp).pl (by omega) (by omega) (fun k h1 a0 a1 t1 => ?_)
  simp -dsimp [r62_s (i := 1 + k) (by omega) (by omega)]
  have hl : h.length < (h ++ [some (O.lst [])]).length := by simp -dsimp
  refine wp_for (fun l τ h' => ∃ (s : List (Str × Int)) (u v : Option T), τ = [some (.obj p), some (.obj h.length), u, v] ∧ s.length + l.length = (1 + k).toNat ∧ h'[h.length]? = some (some (.lst (s.map spT))) ∧ Ht p h h') ⟨[], _, _, rfl, by simp -dsimp, ?_, (Ht.new hp).trans t1⟩ ?_ ?_
  · exact t1.at get_new (by have := hp.lt; omega)
  · rintro x xs τ h2 ⟨s, u, v, rfl, hs, hg, ht⟩
    refine ⟨_, rfl, ?_⟩
    unfold l1__law_spots
    simp -dsimp
    refine pick_wp ht.pl (by simp -dsimp) (by simp -dsimp) (fun y h3 hy t3 => ?_)
    have hg3 := t3.at hg (by have := hp.lt; omega)
    simp -dsimp [hg3]
    refine draw_wp t3.pl (by omega) (by omega) (fun i h4 b0 b1 t4 => ?_)
    have hg4 := t4.at hg3 (by have := hp.lt; omega)
    simp at hs
    obtain ⟨z, rfl⟩ : ∃ z, y = .str z := by
      simp at hy; rcases hy with rfl | rfl <;> exact ⟨_, rfl⟩
    simp -dsimp [hg4, szl (n := s.length) (by omega)]
    refine Kp.mk ⟨s ++ [(z, i)], _, _, rfl, by simp -dsimp; omega, ?_, ?_⟩
    · rw [List.getElem?_set_self (PoolAt.lt hg4)]; simp -dsimp [spT]
    · exact (ht.trans (t3.trans t4)).put (Nat.le_refl _) hp.lt
  · rintro τ h2 ⟨s, u, v, rfl, hs, hg, ht⟩
    simp at hs
    have f : frz 8 h2 (.obj h.length) = (.lst (s.map spT), h2.set h.length none) := frz_lst hg (by
      intro t ht; obtain ⟨x, _, rfl⟩ := List.mem_map.mp ht; rfl)
    simp -dsimp [f]
    exact q s _ (by omega) (by omega) (ht.put (Nat.le_refl _) hp.lt)
end

/-- which letters may be drawn -/
inductive Lt (w n e : Int) : Str → Prop
  | v : 0 < w → Lt w n e "v"
  | n : Lt w n e "n"
  | p : Lt w n e "p"
  | j : 0 < n → Lt w n e "j"
  | k : e + 1 < n → Lt w n e "k"
  | o : Lt w n e "o"
  | r : Lt w n e "r"
  | g : Lt w n e "g"
  | s : 0 < w → Lt w n e "s"
  | a : Lt w n e "a"
section
variable {p : Nat} {h : AH} {w r n e : Int} {P : T → AH → Prop} {X : Exc → AH → Prop}
theorem good_wp {c : Str} (hp : Pl p h) (w1 : w < 1000) (r0 : 0 ≤ r) (r1 : r < 1000) (n1 : n < 1000) (e0 : 0 ≤ e) (hc : Lt w n e c) (q : ∀ x h', Gd w r n e c x → Ht p h h' → P x h') : Wp (m__law_good [.obj p, .str c, boxT w r n, .int e] h) P X := by
  cases hc with
  | v w0 =>
    unfold m__law_good b__law_good
    simp -dsimp
    refine draw_wp hp (by omega) (by omega) (fun k h1 a0 a1 t1 => ?_)
    simp -dsimp
    exact q _ _ (.v a0 a1) t1
  | n =>
    unfold m__law_good b__law_good
    simp -dsimp
    refine word_wp hp (fun k h1 a0 a1 t1 => ?_)
    simp -dsimp
    exact q _ _ (.n a0 a1) t1
  | p =>
    unfold m__law_good b__law_good
    simp -dsimp
    refine draw_wp hp (by omega) (by omega) (fun k h1 a0 a1 t1 => ?_)
    simp -dsimp
    refine pick_wp t1.pl (by simp -dsimp) (by simp -dsimp) (fun y h3 hy t3 => ?_)
    simp -dsimp
    refine q _ _ ?_ (t1.trans t3)
    simp at hy
    rcases hy with rfl | rfl | rfl | rfl <;> exact .p (by omega) (by omega)
  | j n0 =>
    unfold m__law_good b__law_good
    simp -dsimp
    refine draw_wp hp (by omega) (by omega) (fun k h1 a0 a1 t1 => ?_)
    simp -dsimp
    exact q _ _ (.j a0 a1) t1
  | k n0 =>
    unfold m__law_good b__law_good
    simp -dsimp
    refine draw_wp hp (by omega) (by omega) (fun k h1 a0 a1 t1 => ?_)
    simp -dsimp
    exact q _ _ (.k (by omega) (by omega)) t1
  | o =>
    unfold m__law_good b__law_good
    simp -dsimp
    refine pick_wp hp (by simp -dsimp) (by simp -dsimp) (fun y h3 hy t3 => ?_)
    simp -dsimp
    refine q _ _ ?_ t3
    simp at hy
    rcases hy with rfl | rfl | rfl | rfl | rfl | rfl | rfl | rfl | rfl | rfl | rfl | rfl | rfl | rfl <;> exact .o (by simp -dsimp [OPS])
  | r =>
    have fin : ∀ h1, Ht p h h1 → ∀ {Y}, Wp (m__law_pick [.obj p, .lst [.str "g", .str "t", .str "f", .str "h1"]] h1) P Y := fun h1 t1 Y => by
      refine pick_wp t1.pl (by simp -dsimp) (by simp -dsimp) (fun y h3 hy t3 => ?_)
      refine q _ _ ?_ (t1.trans t3)
      simp at hy
      rcases hy with rfl | rfl | rfl | rfl <;> exact .rs
    unfold m__law_good b__law_good
    simp -dsimp
    by_cases z : 0 < r
    · simp -dsimp [z]
      refine draw_wp hp (by omega) (by omega) (fun k h1 a0 a1 t1 => ?_)
      simp -dsimp
      by_cases y : k = 0
      · simp -dsimp [y]
        refine draw_wp t1.pl (by omega) (by omega) (fun k h2 a0 a1 t2 => ?_)
        simp -dsimp
        exact q _ _ (.ri a0 a1) (t1.trans t2)
      · simp -dsimp [y]
        exact fin _ t1
    · simp -dsimp [z]
      exact fin _ (Ht.refl hp)
  | g =>
    unfold m__law_good b__law_good
    simp -dsimp
    refine pick_wp hp (by simp -dsimp) (by simp -dsimp) (fun y h3 hy t3 => ?_)
    simp -dsimp
    refine q _ _ ?_ t3
    simp at hy
    rcases hy with rfl | rfl | rfl | rfl <;> exact .g
  | s w0 =>
    unfold m__law_good b__law_good
    simp -dsimp
    refine draw_wp hp (by omega) (by omega) (fun k h1 a0 a1 t1 => ?_)
    simp -dsimp
    refine some_wp t1.pl w0 w1 a0 (by omega) (fun is h2 hl hi t2 => ?_)
    simp -dsimp
    exact q _ _ (.s (by omega) hi) (t1.trans t2)
  | a =>
    unfold m__law_good b__law_good
    simp -dsimp
    refine spots_wp hp (fun l h1 a0 a1 t1 => ?_)
    simp -dsimp
    exact q _ _ (.a a0 a1) t1
end

def TR : List (Str × List Str × List Str) := [("word", ["v", "n"], ["to", "word"]), ("copy", ["v", "v"], ["to", "from"]), ("op", ["v", "o", "v", "v"], ["to", "name", "from", "from"]), ("with", ["v", "o", "v", "n"], ["to", "name", "from", "word"]), ("read", ["v", "g"], ["to", "global"]), ("load", ["v", "r", "v"], ["to", "row", "from"]), ("moves", ["m", "m"], ["tos", "froms"]), ("skip", [], []), ("write", ["g", "v"], ["global", "from"]), ("store", ["r", "v", "v"], ["row", "from", "from"]), ("nonzero", ["v", "a"], ["from", "at"]), ("inside", ["v", "p", "a"], ["from", "many", "at"]), ("depth", ["p", "a"], ["many", "at"]), ("call", ["v", "g", "s", "a"], ["to", "function", "froms", "at"]), ("tell", ["v", "a"], ["from", "at"]), ("jump", ["j"], ["block"]), ("fork", ["v", "k", "k"], ["from", "later", "later"]), ("back", ["v"], ["from"])]
def isE (z : Str) : Bool := decide (z = "jump") || (decide (z = "fork") || decide (z = "back"))
theorem tr_all {Q : Str × List Str × List Str → Prop} (hq : Q ("word", ["v", "n"], ["to", "word"]) ∧ Q ("copy", ["v", "v"], ["to", "from"]) ∧ Q ("op", ["v", "o", "v", "v"], ["to", "name", "from", "from"]) ∧ Q ("with", ["v", "o", "v", "n"], ["to", "name", "from", "word"]) ∧ Q ("read", ["v", "g"], ["to", "global"]) ∧ Q ("load", ["v", "r", "v"], ["to", "row", "from"]) ∧ Q ("moves", ["m", "m"], ["tos", "froms"]) ∧ Q ("skip", [], []) ∧ Q ("write", ["g", "v"], ["global", "from"]) ∧ Q ("store", ["r", "v", "v"], ["row", "from", "from"]) ∧ Q ("nonzero", ["v", "a"], ["from", "at"]) ∧ Q ("inside", ["v", "p", "a"], ["from", "many", "at"]) ∧ Q ("depth", ["p", "a"], ["many", "at"]) ∧ Q ("call", ["v", "g", "s", "a"], ["to", "function", "froms", "at"]) ∧ Q ("tell", ["v", "a"], ["from", "at"]) ∧ Q ("jump", ["j"], ["block"]) ∧ Q ("fork", ["v", "k", "k"], ["from", "later", "later"]) ∧ Q ("back", ["v"], ["from"])) : ∀ x ∈ TR, Q x := by
  intro x hx
  simp only [TR, List.mem_cons, List.not_mem_nil, or_false] at hx
  obtain ⟨q1, q2, q3, q4, q5, q6, q7, q8, q9, q10, q11, q12, q13, q14, q15, q16, q17, q18⟩ := hq
  rcases hx with rfl | rfl | rfl | rfl | rfl | rfl | rfl | rfl | rfl | rfl | rfl | rfl | rfl | rfl | rfl | rfl | rfl | rfl <;> assumption
theorem tr_tab : ∀ x ∈ TR, ∃ form : Str, getT TBm (.inr x.1) = some (.str form) ∧ chars form = x.2.1.map T.str ∧ form.length = x.2.1.length :=
  tr_all ⟨⟨_, rfl, rfl, rfl⟩, ⟨_, rfl, rfl, rfl⟩, ⟨_, rfl, rfl, rfl⟩, ⟨_, rfl, rfl, rfl⟩, ⟨_, rfl, rfl, rfl⟩, ⟨_, rfl, rfl, rfl⟩, ⟨_, rfl, rfl, rfl⟩, ⟨_, rfl, rfl, rfl⟩, ⟨_, rfl, rfl, rfl⟩, ⟨_, rfl, rfl, rfl⟩, ⟨_, rfl, rfl, rfl⟩, ⟨_, rfl, rfl, rfl⟩, ⟨_, rfl, rfl, rfl⟩, ⟨_, rfl, rfl, rfl⟩, ⟨_, rfl, rfl, rfl⟩, ⟨_, rfl, rfl, rfl⟩, ⟨_, rfl, rfl, rfl⟩, ⟨_, rfl, rfl, rfl⟩⟩
theorem tr_len : ∀ x ∈ TR, x.2.1.length ≤ 4 ∧ x.2.2.length = x.2.1.length := tr_all (by simp -dsimp)
inductive G2 (w r n e : Int) : List Str → List T → Prop
  | nil : G2 w r n e [] []
  | cons {c : Str} {x : T} {ls : List Str} {es : List T} : Gd w r n e c x → G2 w r n e ls es → G2 w r n e (c :: ls) (x :: es)
theorem G2.snoc {w r n e : Int} {c : Str} {x : T} {ls : List Str} {es : List T} (a : G2 w r n e ls es) (g : Gd w r n e c x) : G2 w r n e (ls ++ [c]) (es ++ [x]) := by
  induction a with
  | nil => exact .cons g .nil
  | cons g' _ ih => exact .cons g' ih
theorem G2.len {w r n e : Int} {ls : List Str} {es : List T} (a : G2 w r n e ls es) : es.length = ls.length := by
  induction a with
  | nil => rfl
  | cons _ _ ih => simp -dsimp [ih]
theorem Gd.noObj {w r n e : Int} {c : Str} {x : T} (a : Gd w r n e c x) : isObj x = false := by cases a <;> rfl
theorem G2.noObj {w r n e : Int} {ls : List Str} {es : List T} (a : G2 w r n e ls es) : ∀ t ∈ es, isObj t = false := by
  induction a with
  | nil => intro t ht; cases ht
  | cons g _ ih =>
    intro t ht
    rcases List.mem_cons.mp ht with rfl | ht
    · exact g.noObj
    · exact ih t ht
/-- a deed as the law draws it -/
inductive GD (w r n e : Int) : Bool → T → Prop
  | row {z : Str} {ls ks : List Str} {es : List T} {last : Bool} : (z, ls, ks) ∈ TR → z ≠ "moves" → G2 w r n e ls es → isE z = last → GD w r n e last (.tup (.str z :: es))
  | moves {is js : List Int} : is.length = js.length → is.length ≤ 20 → is.Nodup → (∀ i ∈ is, 0 ≤ i ∧ i < w) → (∀ i ∈ js, 0 ≤ i ∧ i < w) → GD w r n e false (.tup [.str "moves", .tup (is.map .int), .tup (js.map .int)])
/-- a kind that may be drawn -/
def KD (w n e : Int) (last : Bool) (z : Str) : Prop := (z = "moves" ∧ 0 < w ∧ last = false) ∨ ∃ ls ks, (z, ls, ks) ∈ TR ∧ z ≠ "moves" ∧ isE z = last ∧ ∀ c ∈ ls, Lt w n e c
section
variable {p : Nat} {h : AH} {w r n e : Int} {P : T → AH → Prop} {X : Exc → AH → Prop}
theorem lastkind_wp (hp : Pl p h) (w0 : 0 ≤ w) (n0 : 0 < n) (q : ∀ z h', KD w n e true z → Ht p h h' → P (.str z) h') : Wp (m__law_last_kind [.obj p, boxT w r n, .int e] h) P X := by
  unfold m__law_last_kind b__law_last_kind
  simp -dsimp
  by_cases z : w = 0
  · simp -dsimp [z]
    exact q _ _ (.inr ⟨_, _, by simp -dsimp [TR]; exact ⟨rfl, rfl⟩, by simp -dsimp, rfl, by simp -dsimp; exact .j n0⟩) (Ht.refl hp)
  have hb : KD w n e true "back" := .inr ⟨["v"], ["from"], by simp -dsimp [TR], by simp -dsimp, rfl, by simp -dsimp; exact .v (by omega)⟩
  have hj : KD w n e true "jump" := .inr ⟨["j"], ["block"], by simp -dsimp [TR], by simp -dsimp, rfl, by simp -dsimp; exact .j n0⟩
  by_cases y : e < n - 1
  · simp -dsimp [z, y]
    refine pick_wp hp (by simp -dsimp) (by simp -dsimp) (fun y h3 hy t3 => ?_)
    simp -dsimp
    simp at hy
    rcases hy with rfl | rfl | rfl
    · exact q _ _ hb t3
    · exact q _ _ hj t3
    · exact q _ _ (.inr ⟨["v", "k", "k"], ["from", "later", "later"], by simp -dsimp [TR], by simp -dsimp, rfl, by simp -dsimp; exact ⟨.v (by omega), .k (by omega)⟩⟩) t3
  · simp -dsimp [z, y]
    refine pick_wp hp (by simp -dsimp) (by simp -dsimp) (fun y h3 hy t3 => ?_)
    simp -dsimp
    simp at hy
    rcases hy with rfl | rfl
    · exact q _ _ hb t3
    · exact q _ _ hj t3
theorem kind_wp (hp : Pl p h) (w0 : 0 ≤ w) (q : ∀ z h', KD w n e false z → Ht p h h' → P (.str z) h') : Wp (m__law_kind [.obj p, boxT w r n] h) P X := by
  have hs : KD w n e false "skip" := .inr ⟨[], [], by simp -dsimp [TR], by simp -dsimp, rfl, by simp -dsimp⟩
  have hd : KD w n e false "depth" := .inr ⟨["p", "a"], ["many", "at"], by simp -dsimp [TR], by simp -dsimp, rfl, by simp -dsimp; exact ⟨.p, .a⟩⟩
  unfold m__law_kind b__law_kind
  simp -dsimp
  by_cases z : w = 0
  · simp -dsimp [z]
    refine pick_wp hp (by simp -dsimp) (by simp -dsimp) (fun y h3 hy t3 => ?_)
    simp -dsimp
    simp at hy
    rcases hy with rfl | rfl
    · exact q _ _ hs t3
    · exact q _ _ hd t3
  · simp -dsimp [z]
    refine pick_wp hp (by simp -dsimp) (by simp -dsimp) (fun y h3 hy t3 => ?_)
    simp -dsimp
    have v : Lt w n e "v" := .v (by omega)
    have s : Lt w n e "s" := .s (by omega)
    simp at hy
    rcases hy with rfl | rfl | rfl | rfl | rfl | rfl | rfl | rfl | rfl | rfl | rfl | rfl | rfl | rfl | rfl
    · exact q _ _ (.inr ⟨["v", "n"], _, by simp -dsimp [TR]; rfl, by simp -dsimp, rfl, by simp -dsimp; exact ⟨v, .n⟩⟩) t3
    · exact q _ _ (.inr ⟨["v", "v"], _, by simp -dsimp [TR]; rfl, by simp -dsimp, rfl, by simp -dsimp; exact v⟩) t3
    · exact q _ _ (.inr ⟨["v", "o", "v", "v"], _, by simp -dsimp [TR]; rfl, by simp -dsimp, rfl, by simp -dsimp; exact ⟨v, .o, v⟩⟩) t3
    · exact q _ _ (.inr ⟨["v", "o", "v", "n"], _, by simp -dsimp [TR]; rfl, by simp -dsimp, rfl, by simp -dsimp; exact ⟨v, .o, v, .n⟩⟩) t3
    · exact q _ _ (.inr ⟨["v", "g"], _, by simp -dsimp [TR]; rfl, by simp -dsimp, rfl, by simp -dsimp; exact ⟨v, .g⟩⟩) t3
    · exact q _ _ (.inr ⟨["v", "r", "v"], _, by simp -dsimp [TR]; rfl, by simp -dsimp, rfl, by simp -dsimp; exact ⟨v, .r, v⟩⟩) t3
    · exact q _ _ (.inl ⟨rfl, by omega, rfl⟩) t3
    · exact q _ _ hs t3
    · exact q _ _ (.inr ⟨["g", "v"], _, by simp -dsimp [TR]; rfl, by simp -dsimp, rfl, by simp -dsimp; exact ⟨.g, v⟩⟩) t3
    · exact q _ _ (.inr ⟨["r", "v", "v"], _, by simp -dsimp [TR]; rfl, by simp -dsimp, rfl, by simp -dsimp; exact ⟨.r, v⟩⟩) t3
    · exact q _ _ (.inr ⟨["v", "a"], _, by simp -dsimp [TR]; rfl, by simp -dsimp, rfl, by simp -dsimp; exact ⟨v, .a⟩⟩) t3
    · exact q _ _ (.inr ⟨["v", "p", "a"], _, by simp -dsimp [TR]; rfl, by simp -dsimp, rfl, by simp -dsimp; exact ⟨v, .p, .a⟩⟩) t3
    · exact q _ _ hd t3
    · exact q _ _ (.inr ⟨["v", "g", "s", "a"], _, by simp -dsimp [TR]; rfl, by simp -dsimp, rfl, by simp -dsimp; exact ⟨v, .g, s, .a⟩⟩) t3
    · exact q _ _ (.inr ⟨["v", "a"], _, by simp -dsimp [TR]; rfl, by simp -dsimp, rfl, by simp -dsimp; exact ⟨v, .a⟩⟩) t3
theorem deed_wp {last : Bool} (hp : Pl p h) (w0 : 0 ≤ w) (w1 : w < 1000) (r0 : 0 ≤ r) (r1 : r < 1000) (n0 : 0 < n) (n1 : n < 1000) (e0 : 0 ≤ e) (q : ∀ x h', GD w r n e last x → Ht p h h' → P x h') : Wp (m__law_deed [.obj p, boxT w r n, .int e, .bl last] h) P X := by
  have main : ∀ last', last' = last → Wp (m__law_deed [.obj p, boxT w r n, .int e, .bl last'] h) P X := by
   intro last' el
   unfold m__law_deed b__law_deed
   cases last'
   · simp -dsimp
     subst el
     refine kind_wp (e := e) hp w0 (fun z h1 hk t1 => ?_)
     simp -dsimp
     rcases hk with ⟨rfl, wp, -⟩ | ⟨ls, ks, hm, hz, hl, hc⟩
     · simp -dsimp
       refine moves_wp t1.pl wp w1 (fun is js h2 a b c d f t2 => ?_)
       simp -dsimp
       exact q _ _ (.moves a b c d f) (t1.trans t2)
     · obtain ⟨form, ht, hf, hn⟩ := tr_tab _ hm
       have hl4 := (tr_len _ hm).1
       dsimp only at ht hf hn hl4
       have hf' : form.cps.toList.map (fun c => T.str ⟨#[c]⟩) = ls.map .str := hf
       have lt : ∀ h, lookD tabT (.str z) h = some (some (.str form)) := fun h => by rw [← ht]; rfl
       simp -dsimp [-lookD, hz, lt, hf']
       have t2 : Ht p h (h1 ++ [some (O.lst [.str z])]) := t1.trans (Ht.new t1.pl)
       refine wp_for (fun l τ h' => ∃ (done rest : List Str) (es : List T) (u : Option T), l = rest.map .str ∧ done ++ rest = ls ∧ G2 w r n e done es ∧ τ = [some (.obj p), some (boxT w r n), some (.int e), some (.bl false), some (.str z), some (.obj h1.length), u] ∧ h'[h1.length]? = some (some (.lst (.str z :: es))) ∧ Ht p h h') ⟨[], ls, [], _, rfl, rfl, .nil, rfl, get_new, t2⟩ ?_ ?_
       · rintro x xs τ h2 ⟨done, rest, es, u, hr, hd, g2, rfl, hg, ht2⟩
         rcases rest with _ | ⟨c, rest⟩
         · cases hr
         simp at hr
         obtain ⟨rfl, rfl⟩ := hr
         refine ⟨_, rfl, ?_⟩
         unfold l1__law_deed
         simp -dsimp [hg]
         refine good_wp ht2.pl w1 r0 r1 n1 e0 (hc c (by rw [← hd]; simp -dsimp)) (fun y h3 gy t3 => ?_)
         have hg3 := t3.at hg (by have := hp.lt; have := t1.len; omega)
         have le : es.length ≤ 4 := by rw [g2.len]; have := congrArg List.length hd; simp at this; omega
         simp -dsimp [hg3, szl (n := es.length + 1) (by omega)]
         refine Kp.mk ⟨done ++ [c], rest, es ++ [y], _, rfl, by rw [← hd]; simp -dsimp, g2.snoc gy, rfl, ?_, ?_⟩
         · rw [List.getElem?_set_self (PoolAt.lt hg3)]
         · exact (ht2.trans t3).put t1.len hp.lt
       · rintro τ h2 ⟨done, rest, es, u, hr, hd, g2, rfl, hg, ht2⟩
         have hr := List.map_eq_nil_iff.mp hr.symm
         subst hr
         rw [List.append_nil] at hd
         subst hd
         have f : frz 8 h2 (.obj h1.length) = (.lst (.str z :: es), h2.set h1.length none) := frz_lst hg (by
           intro t ht; rcases List.mem_cons.mp ht with rfl | ht
           · rfl
           · exact g2.noObj t ht)
         simp -dsimp [f]
         exact q _ _ (.row hm hz g2 hl) (ht2.put t1.len hp.lt)
   · simp -dsimp
     subst el
     refine lastkind_wp hp w0 n0 (fun z h1 hk t1 => ?_)
     simp -dsimp
     rcases hk with ⟨_, _, hfl⟩ | ⟨ls, ks, hm, hz, hl, hc⟩
     · cases hfl
     · obtain ⟨form, ht, hf, hn⟩ := tr_tab _ hm
       have hl4 := (tr_len _ hm).1
       dsimp only at ht hf hn hl4
       have hf' : form.cps.toList.map (fun c => T.str ⟨#[c]⟩) = ls.map .str := hf
       have lt : ∀ h, lookD tabT (.str z) h = some (some (.str form)) := fun h => by rw [← ht]; rfl
       simp -dsimp [-lookD, hz, lt, hf']
       have t2 : Ht p h (h1 ++ [some (O.lst [.str z])]) := t1.trans (Ht.new t1.pl)
       refine wp_for (fun l τ h' => ∃ (done rest : List Str) (es : List T) (u : Option T), l = rest.map .str ∧ done ++ rest = ls ∧ G2 w r n e done es ∧ τ = [some (.obj p), some (boxT w r n), some (.int e), some (.bl true), some (.str z), some (.obj h1.length), u] ∧ h'[h1.length]? = some (some (.lst (.str z :: es))) ∧ Ht p h h') ⟨[], ls, [], _, rfl, rfl, .nil, rfl, get_new, t2⟩ ?_ ?_
       · rintro x xs τ h2 ⟨done, rest, es, u, hr, hd, g2, rfl, hg, ht2⟩
         rcases rest with _ | ⟨c, rest⟩
         · cases hr
         simp at hr
         obtain ⟨rfl, rfl⟩ := hr
         refine ⟨_, rfl, ?_⟩
         unfold l1__law_deed
         simp -dsimp [hg]
         refine good_wp ht2.pl w1 r0 r1 n1 e0 (hc c (by rw [← hd]; simp -dsimp)) (fun y h3 gy t3 => ?_)
         have hg3 := t3.at hg (by have := hp.lt; have := t1.len; omega)
         have le : es.length ≤ 4 := by rw [g2.len]; have := congrArg List.length hd; simp at this; omega
         simp -dsimp [hg3, szl (n := es.length + 1) (by omega)]
         refine Kp.mk ⟨done ++ [c], rest, es ++ [y], _, rfl, by rw [← hd]; simp -dsimp, g2.snoc gy, rfl, ?_, ?_⟩
         · rw [List.getElem?_set_self (PoolAt.lt hg3)]
         · exact (ht2.trans t3).put t1.len hp.lt
       · rintro τ h2 ⟨done, rest, es, u, hr, hd, g2, rfl, hg, ht2⟩
         have hr := List.map_eq_nil_iff.mp hr.symm
         subst hr
         rw [List.append_nil] at hd
         subst hd
         have f : frz 8 h2 (.obj h1.length) = (.lst (.str z :: es), h2.set h1.length none) := frz_lst hg (by
           intro t ht; rcases List.mem_cons.mp ht with rfl | ht
           · rfl
           · exact g2.noObj t ht)
         simp -dsimp [f]
         exact q _ _ (.row hm hz g2 hl) (ht2.put t1.len hp.lt)
  exact main last rfl
end

theorem flat_ints {is : List Int} : (is.map T.int).all flatT = true := by
  rw [List.all_eq_true]; intro x hx; obtain ⟨i, _, rfl⟩ := List.mem_map.mp hx; rfl
theorem inT_ints {v : Int} {is : List Int} : inT (.int v) (is.map .int) = decide (v ∈ is) := by
  unfold inT
  induction is with
  | nil => rfl
  | cons i is ih =>
    rw [List.map_cons, List.any_cons, ih]
    by_cases z : v = i
    · subst z; simp -dsimp [eqF]
    · have z' : ¬ i = v := fun h => z h.symm
      simp -dsimp [eqF, z, z']
/-- a block as the law draws it -/
inductive GB (w r n e : Int) : T → Prop
  | mk {ds : List T} {d : T} : ds.length ≤ 3 → (∀ x ∈ ds, GD w r n e false x) → GD w r n e true d → GB w r n e (.tup (ds ++ [d]))
theorem GD.noObj {w r n e : Int} {l : Bool} {x : T} (a : GD w r n e l x) : isObj x = false := by cases a <;> rfl
section
variable {p : Nat} {h : AH} {w r n e : Int} {P : T → AH → Prop} {X : Exc → AH → Prop}
theorem heads_wp (hp : Pl p h) (w0 : 0 ≤ w) (w1 : w < 1000) (q : ∀ (is : List Int) h', is.length ≤ 6 → is.Nodup → (∀ i ∈ is, 0 ≤ i ∧ i < w) → Ht p h h' → P (.tup (is.map .int)) h') : Wp (m__law_heads [.obj p, .int w] h) P X := by
  unfold m__law_heads b__law_heads
  simp -dsimp
  obtain ⟨mo, m0, m1, m2, hm⟩ : ∃ mo : Int, 0 ≤ mo ∧ mo ≤ 6 ∧ mo ≤ w ∧ (if 6 < w then 6 else w) = mo := ⟨_, by split <;> omega, by split <;> omega, by split <;> omega, rfl⟩
  rw [hm]
  refine draw_wp (Ht.new hp).pl (by omega) (by omega) (fun k h1 a0 a1 t1 => ?_)
  simp -dsimp [r62_s (i := k) (by omega) (by omega)]
  refine wp_for (fun l τ h' => ∃ (is : List Int) (u v : Option T), τ = [some (.obj p), some (.int w), some (.obj h.length), u, v] ∧ is.length + l.length ≤ k.toNat ∧ is.Nodup ∧ (∀ i ∈ is, 0 ≤ i ∧ i < w) ∧ h'[h.length]? = some (some (.lst (is.map .int))) ∧ Ht p h h') ⟨[], _, _, rfl, by simp -dsimp, by simp -dsimp, by simp -dsimp, ?_, (Ht.new hp).trans t1⟩ ?_ ?_
  · exact t1.at get_new (by have := hp.lt; omega)
  · rintro x xs τ h2 ⟨is, u, v, rfl, hs, hn, hi, hg, ht⟩
    refine ⟨_, rfl, ?_⟩
    simp at hs
    unfold l1__law_heads
    simp -dsimp
    refine draw_wp ht.pl (by omega) (by omega) (fun i h4 b0 b1 t4 => ?_)
    have hg4 := t4.at hg (by have := hp.lt; omega)
    have fl := flat_ints (is := is)
    simp -dsimp [hg4, inT_ints, -List.all_map, fl]
    by_cases z : i ∈ is
    · simp -dsimp [z]
      exact Kp.mk ⟨is, _, _, rfl, by omega, hn, hi, hg4, ht.trans t4⟩
    · simp -dsimp [z, hg4, szl (n := is.length) (by omega)]
      refine Kp.mk ⟨is ++ [i], _, _, rfl, by simp -dsimp; omega, ?_, ?_, ?_, (ht.trans t4).put (Nat.le_refl _) hp.lt⟩
      · rw [List.nodup_append]
        refine ⟨hn, by simp -dsimp, fun a ha b hb => ?_⟩
        rw [List.mem_singleton] at hb; subst hb
        exact fun h => z (h ▸ ha)
      · intro j hj
        rcases List.mem_append.mp hj with hj | hj
        · exact hi j hj
        · rw [List.mem_singleton] at hj; subst hj; exact ⟨b0, b1⟩
      · rw [List.getElem?_set_self (PoolAt.lt hg4)]; simp -dsimp
  · rintro τ h2 ⟨is, u, v, rfl, hs, hn, hi, hg, ht⟩
    simp at hs
    have f : frz 8 h2 (.obj h.length) = (.lst (is.map .int), h2.set h.length none) := frz_lst hg (by
      intro t ht; obtain ⟨x, _, rfl⟩ := List.mem_map.mp ht; rfl)
    simp -dsimp [f]
    exact q is _ (by omega) hn hi (ht.put (Nat.le_refl _) hp.lt)
theorem grid_wp (hp : Pl p h) (w0 : 0 ≤ w) (w1 : w < 1000) (r0 : 0 ≤ r) (r1 : r < 1000) (n0 : 0 < n) (n1 : n < 1000) (q : ∀ (bs : List T) h', bs.length = n.toNat → (∀ (i : Nat) b, bs[i]? = some b → GB w r n i b) → h'[h.length]? = some (some (.lst bs)) → Ht p h h' → P (.obj h.length) h') : Wp (m__law_grid [.obj p, boxT w r n] h) P X := by
  unfold m__law_grid b__law_grid
  simp -dsimp [r62_s (i := n) (by omega) (by omega)]
  refine wp_for (fun l τ h' => ∃ (bs : List T) (m : Nat) (u v z : Option T), τ = [some (.obj p), some (boxT w r n), some (.obj h.length), u, v, z] ∧ bs.length + m = n.toNat ∧ l = (List.range m).map (fun (i : Nat) => T.int ((bs.length : Int) + (i : Int))) ∧ (∀ (i : Nat) b, bs[i]? = some b → GB w r n i b) ∧ h'[h.length]? = some (some (.lst bs)) ∧ Ht p h h') ⟨[], n.toNat, _, _, _, rfl, by simp -dsimp, by simp -dsimp, by simp -dsimp, get_new, Ht.new hp⟩ ?_ ?_
  · rintro x xs τ h2 ⟨bs, m, u, v, z, rfl, hs, hl, hb, hg, ht⟩
    refine ⟨_, rfl, ?_⟩
    rcases m with _ | m
    · cases hl
    rw [List.range_succ_eq_map, List.map_cons, List.map_map] at hl
    obtain ⟨hx, hxs⟩ := List.cons.inj hl
    simp at hx
    subst hx
    have hb0 : bs.length < n.toNat := by omega
    unfold l2__law_grid
    simp -dsimp
    have lt2 : h.length < h2.length := PoolAt.lt hg
    obtain ⟨mo, m0, m1, hm⟩ : ∃ mo : Int, 0 < mo ∧ mo ≤ 4 ∧ (if n < 9 then 4 else 2) = mo := ⟨_, by split <;> omega, by split <;> omega, rfl⟩
    have go : ∀ {Y}, Wp (m__law_draw [.obj p, .int mo] (h2 ++ [some (O.lst [])])) Y X → True := fun _ => trivial
    by_cases z9 : n < 9 <;> simp only [z9, if_true, if_false] at hm <;> simp -dsimp [z9, hm]
    all_goals
      refine draw_wp (Ht.new ht.pl).pl (by omega) (by omega) (fun k h3 a0 a1 t3 => ?_)
      simp -dsimp [r62_s (i := k) (by omega) (by omega)]
      have t23 : Ht p h2 h3 := (Ht.new ht.pl).trans t3
      refine wp_for (fun l τ h' => ∃ (ds : List T) (z : Option T), τ = [some (.obj p), some (boxT w r n), some (.obj h.length), some (.int bs.length), some (.obj h2.length), z] ∧ ds.length + l.length ≤ k.toNat ∧ (∀ d ∈ ds, GD w r n bs.length false d) ∧ h'[h2.length]? = some (some (.lst ds)) ∧ Ht p h2 h') ⟨[], _, rfl, by simp -dsimp, by simp -dsimp, ?_, t23⟩ ?_ ?_
      · exact t3.at get_new (by have := ht.pl.lt; omega)
      · rintro x xs τ h4 ⟨ds, z, rfl, hs, hd, hg4, t4⟩
        refine ⟨_, rfl, ?_⟩
        simp at hs
        unfold l1__law_grid
        simp -dsimp [hg4]
        refine deed_wp t4.pl w0 w1 r0 r1 n0 n1 (by omega) (fun d h5 gd t5 => ?_)
        have hg5 := t5.at hg4 (by have := ht.pl.lt; omega)
        simp -dsimp [hg5, szl (n := ds.length) (by omega)]
        refine Kp.mk ⟨ds ++ [d], _, rfl, by simp -dsimp; omega, ?_, ?_, (t4.trans t5).put (Nat.le_refl _) ht.pl.lt⟩
        · intro y hy
          rcases List.mem_append.mp hy with hy | hy
          · exact hd y hy
          · rw [List.mem_singleton] at hy; subst hy; exact gd
        · rw [List.getElem?_set_self (PoolAt.lt hg5)]
      · rintro τ h4 ⟨ds, z, rfl, hs, hd, hg4, t4⟩
        simp at hs
        simp -dsimp [hg4]
        refine deed_wp t4.pl w0 w1 r0 r1 n0 n1 (by omega) (fun d h5 gd t5 => ?_)
        have hg5 := t5.at hg4 (by have := ht.pl.lt; omega)
        have f : frz 8 (h5.set h2.length (some (.lst (ds ++ [d])))) (.obj h2.length) = (.lst (ds ++ [d]), h5.set h2.length none) := by
          rw [frz_lst (l := ds ++ [d]) (List.getElem?_set_self (PoolAt.lt hg5)) (by
            intro t ht
            rcases List.mem_append.mp ht with ht | ht
            · exact (hd t ht).noObj
            · rw [List.mem_singleton] at ht; subst ht; exact gd.noObj), List.set_set]
        have t6 : Ht p h2 (h5.set h2.length none) := (t4.trans t5).put (Nat.le_refl _) ht.pl.lt
        have hg6 := t6.at hg (by have := hp.lt; omega)
        have hne : h2.length ≠ h.length := by omega
        have hg7 : h5[h.length]? = some (some (.lst bs)) := (t4.trans t5).at hg (by have := hp.lt; omega)
        simp -dsimp [hg5, szl (n := ds.length) (by omega), f, List.getElem?_set_ne hne, hg7, szl (n := bs.length) (by omega)]
        refine Kp.mk ⟨bs ++ [.tup (ds ++ [d])], m, _, _, _, rfl, by simp -dsimp; omega, ?_, ?_, ?_, ?_⟩
        · rw [hxs]
          refine List.map_congr_left (fun i _ => ?_)
          simp -dsimp; omega
        · intro i b hi
          by_cases hlt : i < bs.length
          · rw [List.getElem?_append_left hlt] at hi; exact hb i b hi
          · have := PoolAt.lt (h := (bs ++ [T.tup (ds ++ [d])]).map fun _ => none) (p := i) (o := none) (by rw [List.getElem?_map, hi]; rfl)
            simp at this
            obtain rfl : i = bs.length := by omega
            simp at hi; subst hi
            exact .mk (by omega) hd gd
        · rw [List.getElem?_set_self (by rw [List.length_set]; exact PoolAt.lt hg7)]
        · exact (ht.trans t6).put (Nat.le_refl _) hp.lt
  · rintro τ h2 ⟨bs, m, u, v, z, rfl, hs, hl, hb, hg, ht⟩
    have hlen := congrArg List.length hl
    simp at hlen
    simp -dsimp
    exact q bs _ (by omega) hb hg ht
end

/-- what an entry may be, good or not -/
inductive Sh : Str → T → Prop
  | v {i : Int} : Sh "v" (.int i)
  | n {i : Int} : Sh "n" (.int i)
  | p {i : Int} : i ≤ 2147483647 → Sh "p" (.int i)
  | j {i : Int} : Sh "j" (.int i)
  | k {i : Int} : Sh "k" (.int i)
  | o {z : Str} : Sh "o" (.str z)
  | ri {i : Int} : Sh "r" (.int i)
  | rs {z : Str} : Sh "r" (.str z)
  | g {z : Str} : Sh "g" (.str z)
  | s {l : List Int} : l.length ≤ 30 → Sh "s" (.tup (l.map .int))
  | m {l : List Int} : l.length ≤ 30 → Sh "m" (.tup (l.map .int))
  | a {l : List (Str × Int)} : l.length ≤ 9 → Sh "a" (.tup (l.map spT))
theorem Gd.sh {w r n e : Int} {c : Str} {x : T} (g : Gd w r n e c x) : Sh c x := by
  cases g with
  | v _ _ => exact .v
  | n _ _ => exact .n
  | p _ h => exact .p h
  | j _ _ => exact .j
  | k _ _ => exact .k
  | o _ => exact .o
  | ri _ _ => exact .ri
  | rs => exact .rs
  | g => exact .g
  | s h _ => exact .s (by omega)
  | m h _ => exact .m (by omega)
  | a _ h => exact .a (by omega)
section
variable {h : AH} {w r n e : Int} {i : Int} {z : Str}
theorem entry_succ {k : Nat} : r__law_entry (k + 1) = mDef 6 (b__law_entry (r__law_entry k)) := rfl
theorem entry_40 : m__law_entry = mDef 6 (b__law_entry (r__law_entry 39)) := rfl
theorem eqF_str {a b : Str} : eqF (.str a) (.str b) = decide (a = b) := by by_cases z : a = b <;> simp -dsimp [eqF, z]
theorem inT_nil {x : T} : inT x [] = false := rfl
theorem inT_cons {x y : T} {l : List T} : inT x (y :: l) = (eqF y x || inT x l) := rfl
theorem whole_int : m__law_whole [.int i] h = .ok (.bl true) h := by
  apply Wp.eq; unfold m__law_whole b__law_whole; simp -dsimp [tyOf]
theorem whole_str : m__law_whole [.str z] h = .ok (.bl false) h := by
  apply Wp.eq; unfold m__law_whole b__law_whole; simp -dsimp [tyOf]
theorem spot_ok {l : List (Str × Int)} : ∀ {v : Option T} {x : T}, Wp (sForL (aName 1) l1__law_chain (l.map spT) [some x, v] h) (fun fl h' => (∃ v', fl = .nx [some x, v']) ∧ h' = h) (fun _ _ => False) := by
  intro v x
  refine wp_for (fun l' τ h' => ∃ (l : List (Str × Int)) (v : Option T), l' = l.map spT ∧ τ = [some x, v] ∧ h' = h) ⟨l, v, rfl, rfl, rfl⟩ ?_ ?_
  · rintro y ys τ h1 ⟨l, v, hl, rfl, rfl⟩
    rcases l with _ | ⟨s, l⟩
    · cases hl
    obtain ⟨rfl, rfl⟩ := List.cons.inj hl
    refine ⟨_, rfl, ?_⟩
    unfold l1__law_chain
    have e0 : atI [T.str s.1, .int s.2] 0 = some (.str s.1) := rfl
    have e1 : atI [T.str s.1, .int s.2] 1 = some (.int s.2) := rfl
    simp -dsimp [spT, tyOf, M.eqT, e0, e1, whole_int]
    exact Kp.mk ⟨l, _, rfl, rfl, rfl⟩
  · rintro τ h1 ⟨l, v, hl, rfl, rfl⟩
    exact ⟨⟨v, rfl⟩, rfl⟩
theorem chain_eq {l : List (Str × Int)} (hl : l.length ≤ 9) : m__law_chain [.tup (l.map spT)] h = .ok (.bl (decide (1 ≤ l.length ∧ l.length ≤ 8))) h := by
  apply Wp.eq
  unfold m__law_chain b__law_chain
  simp -dsimp [tyOf]
  have l1 : ((1 : Int) ≤ l.length) = (1 ≤ l.length) := propext (by omega)
  have l8 : ((l.length : Int) ≤ 8) = (l.length ≤ 8) := propext (by omega)
  by_cases a : 1 ≤ l.length
  · by_cases b : l.length ≤ 8
    · simp -dsimp [a, b, l1, l8]
      refine spot_ok.mono ?_ (fun _ _ h => h.elim)
      rintro _ _ ⟨⟨v', rfl⟩, rfl⟩
      simp -dsimp [a, b]
    · simp -dsimp [a, b, l1, l8]
  · simp -dsimp [a, l1]
theorem entry_v {k : Nat} : r__law_entry (k + 1) [.str "v", .int i, boxT w r n, .int e] h = .ok (.bl (decide (0 ≤ i ∧ i < w))) h := by
  apply Wp.eq
  rw [entry_succ]; unfold b__law_entry
  simp -dsimp [inT_cons, inT_nil, eqF_str, whole_int]
  by_cases a : 0 ≤ i <;> simp -dsimp [a]
theorem bools_map {α : Type} {f : α → Bool} : ∀ {l : List α}, bools (l.map fun x => T.bl (f x)) = some (l.map f)
  | [] => rfl
  | x :: l => by simp -dsimp [bools_map (l := l)]
theorem entry_ms {c : Str} (hc : c = "m" ∨ c = "s") {l : List Int} (hl : l.length ≤ 30) : m__law_entry [.str c, .tup (l.map .int), boxT w r n, .int e] h = .ok (.bl (l.all fun i => decide (0 ≤ i ∧ i < w))) h := by
  apply Wp.eq
  rw [entry_40]; unfold b__law_entry
  have go : ∀ h, Wp (mLcL (aName 5) mYes (e1__law_entry (r__law_entry 39)) (wipeT [some (.str c), some (.tup (l.map .int)), some (boxT w r n), some (.int e), none, none] [5]) 0 (l.map .int) h) (fun ys h' => ys = l.map (fun i => T.bl (decide (0 ≤ i ∧ i < w))) ∧ h' = h) (fun _ _ => False) := by
    intro h
    refine Wp.of (lc_mapw (fun x => match x with | .int i => .bl (decide (0 ≤ i ∧ i < w)) | _ => .non) (by rw [List.length_map]; exact sz (by omega)) ?_) ⟨?_, rfl⟩
    · intro x hx
      obtain ⟨i, _, rfl⟩ := List.mem_map.mp hx
      refine ⟨_, rfl, ?_⟩
      unfold e1__law_entry
      simp -dsimp [wipeT, entry_v]
    · rw [List.map_map]; rfl
  rcases hc with rfl | rfl
  all_goals
    simp -dsimp [inT_cons, inT_nil, eqF_str, tyOf]
    refine (go h).mono ?_ (fun _ _ h => h.elim)
    rintro _ _ ⟨rfl, rfl⟩
    simp -dsimp [bools_map, Function.comp_def]
theorem entry_a {l : List (Str × Int)} (hl : l.length ≤ 9) : m__law_entry [.str "a", .tup (l.map spT), boxT w r n, .int e] h = .ok (.bl (decide (1 ≤ l.length ∧ l.length ≤ 8))) h := by
  apply Wp.eq
  rw [entry_40]; unfold b__law_entry
  simp -dsimp [inT_cons, inT_nil, eqF_str, chain_eq hl]
theorem entry_n : m__law_entry [.str "n", .int i, boxT w r n, .int e] h = .ok (.bl (decide (-2147483648 ≤ i ∧ i ≤ 2147483647))) h := by
  apply Wp.eq
  rw [entry_40]; unfold b__law_entry
  simp -dsimp [inT_cons, inT_nil, eqF_str, whole_int]
  by_cases a : -2147483648 ≤ i <;> simp -dsimp [a]
theorem entry_p (hi : i ≤ 2147483647) : m__law_entry [.str "p", .int i, boxT w r n, .int e] h = .ok (.bl (decide (1 ≤ i))) h := by
  apply Wp.eq
  rw [entry_40]; unfold b__law_entry
  simp -dsimp [inT_cons, inT_nil, eqF_str, whole_int]
  by_cases a : 1 ≤ i <;> simp -dsimp [a, hi]
theorem entry_j : m__law_entry [.str "j", .int i, boxT w r n, .int e] h = .ok (.bl (decide (0 ≤ i ∧ i < n))) h := by
  apply Wp.eq
  rw [entry_40]; unfold b__law_entry
  simp -dsimp [inT_cons, inT_nil, eqF_str, whole_int]
  by_cases a : 0 ≤ i <;> simp -dsimp [a]
theorem entry_k : m__law_entry [.str "k", .int i, boxT w r n, .int e] h = .ok (.bl (decide (e < i ∧ i < n))) h := by
  apply Wp.eq
  rw [entry_40]; unfold b__law_entry
  simp -dsimp [inT_cons, inT_nil, eqF_str, whole_int]
  by_cases a : e < i <;> simp -dsimp [a]
theorem inT_strs {z : Str} {l : List Str} : inT (.str z) (l.map .str) = decide (z ∈ l) := by
  induction l with
  | nil => rfl
  | cons x l ih =>
    rw [List.map_cons, inT_cons, ih, eqF_str]
    by_cases y : z = x
    · subst y; simp -dsimp
    · have y' : ¬ x = z := fun h => y h.symm
      simp -dsimp [y, y']
theorem entry_o : m__law_entry [.str "o", .str z, boxT w r n, .int e] h = .ok (.bl (decide (z ∈ OPS))) h := by
  apply Wp.eq
  have := inT_strs (z := z) (l := OPS)
  simp only [OPS, List.map_cons, List.map_nil] at this
  rw [entry_40]; unfold b__law_entry
  simp -dsimp [inT_cons (x := .str (Str.ofString "o")), inT_nil, eqF_str, tyOf, this]
  simp -dsimp [OPS]
theorem entry_ri : m__law_entry [.str "r", .int i, boxT w r n, .int e] h = .ok (.bl (decide (0 ≤ i ∧ i < r))) h := by
  apply Wp.eq
  rw [entry_40]; unfold b__law_entry
  simp -dsimp [inT_cons, inT_nil, eqF_str, whole_int]
  by_cases a : 0 ≤ i <;> simp -dsimp [a]
theorem entry_rs : m__law_entry [.str "r", .str z, boxT w r n, .int e] h = .ok (.bl true) h := by
  apply Wp.eq
  rw [entry_40]; unfold b__law_entry
  simp -dsimp [inT_cons, inT_nil, eqF_str, whole_str, tyOf]
theorem entry_g : m__law_entry [.str "g", .str z, boxT w r n, .int e] h = .ok (.bl true) h := by
  apply Wp.eq
  rw [entry_40]; unfold b__law_entry
  simp -dsimp [inT_cons, inT_nil, eqF_str, tyOf]
end

def FlAt (h : AH) (i : Nat) (w : Int) (ps rs bs : List T) : Prop := h[i]? = some (some (.ins "Flow" [("name", .str "f1"), ("params", .tup ps), ("count", .int w), ("arrays", .tup rs), ("blocks", .tup bs)]))
section
variable {h : AH} {w e x : Int} {i : Nat} {z : Str} {ps rs bs : List T} {A B C D E : T}
@[simp] theorem fl_params : List.lookup ("params" : Str) [("name", A), ("params", B), ("count", C), ("arrays", D), ("blocks", E)] = some B := rfl
@[simp] theorem fl_count : List.lookup ("count" : Str) [("name", A), ("params", B), ("count", C), ("arrays", D), ("blocks", E)] = some C := rfl
@[simp] theorem fl_arrays : List.lookup ("arrays" : Str) [("name", A), ("params", B), ("count", C), ("arrays", D), ("blocks", E)] = some D := rfl
@[simp] theorem fl_blocks : List.lookup ("blocks" : Str) [("name", A), ("params", B), ("count", C), ("arrays", D), ("blocks", E)] = some E := rfl
@[simp] theorem fl_name : List.lookup ("name" : Str) [("name", A), ("params", B), ("count", C), ("arrays", D), ("blocks", E)] = some A := rfl
theorem within_eq {a b : Int} : m_is_within [.int x, .int a, .int b] h = .ok (.bl (decide (a ≤ x ∧ x ≤ b))) h := by
  apply Wp.eq
  unfold m_is_within b_is_within
  simp -dsimp [tyOf]
  by_cases y : a ≤ x <;> simp -dsimp [y]
theorem fvar_eq (f : FlAt h i w ps rs bs) : m_fits_variable [.obj i, .int e, .int x] h = .ok (.bl (decide (0 ≤ x ∧ x < w))) h := by
  apply Wp.eq
  unfold m_fits_variable b_fits_variable
  unfold FlAt at f
  simp -dsimp [f, within_eq, Int.le_sub_one_iff, Int.add_one_le_iff]
theorem fvars_eq (f : FlAt h i w ps rs bs) {l : List Int} (hl : l.length ≤ 30) : m_fits_variables [.obj i, .int e, .tup (l.map .int)] h = .ok (.bl (l.all fun i => decide (0 ≤ i ∧ i < w))) h := by
  apply Wp.eq
  unfold m_fits_variables b_fits_variables
  simp -dsimp [tyOf]
  refine Wp.of (lc_mapw (fun x => match x with | .int i => .bl (decide (0 ≤ i ∧ i < w)) | _ => .non) (by rw [List.length_map]; exact sz (by omega)) ?_) ?_
  · intro x hx
    obtain ⟨i, _, rfl⟩ := List.mem_map.mp hx
    refine ⟨_, rfl, ?_⟩
    unfold e1_fits_variables
    unfold FlAt at f
    simp -dsimp [wipeT, f, within_eq, Int.le_sub_one_iff, Int.add_one_le_iff]
  · rw [List.map_map]
    have := bools_map (f := fun i : Int => decide (0 ≤ i ∧ i < w)) (l := l)
    simp only [Function.comp_def]
    simp -dsimp [-bools, bools_map, Function.comp_def]
theorem fword_eq : m_fits_word [.obj i, .int e, .int x] h = .ok (.bl (decide (-2147483648 ≤ x ∧ x ≤ 2147483647))) h := by
  apply Wp.eq
  unfold m_fits_word b_fits_word
  simp -dsimp [within_eq]
theorem fmany_eq : m_fits_many [.obj i, .int e, .int x] h = .ok (.bl (decide (1 ≤ x))) h := by
  apply Wp.eq
  unfold m_fits_many b_fits_many
  simp -dsimp [tyOf]
theorem fop_eq : m_fits_operation [.obj i, .int e, .str z] h = .ok (.bl (decide (z ∈ OPS))) h := by
  apply Wp.eq
  have := inT_strs (z := z) (l := OPS)
  have e0 : c_OPERATIONS = OPS.map .str := rfl
  have e1 : (OPS.map T.str).all flatT = true := rfl
  unfold m_fits_operation b_fits_operation
  rw [e0]
  simp -dsimp [this, e1, -List.all_map]
theorem fname_eq : m_fits_name [.obj i, .int e, .str z] h = .ok (.bl true) h := by
  apply Wp.eq
  unfold m_fits_name b_fits_name
  simp -dsimp [tyOf]
theorem frows_eq : m_fits_row [.obj i, .int e, .str z] h = .ok (.bl true) h := by
  apply Wp.eq
  unfold m_fits_row b_fits_row
  simp -dsimp [tyOf]
theorem frowi_eq (f : FlAt h i w ps rs bs) : m_fits_row [.obj i, .int e, .int x] h = .ok (.bl (decide (0 ≤ x ∧ x < (rs.length : Int)))) h := by
  apply Wp.eq
  unfold m_fits_row b_fits_row
  unfold FlAt at f
  simp -dsimp [tyOf, f, within_eq, Int.le_sub_one_iff, Int.add_one_le_iff]
theorem fchain_eq {l : List (Str × Int)} : m_fits_chain [.obj i, .int e, .tup (l.map spT)] h = .ok (.bl (decide (1 ≤ l.length ∧ l.length ≤ 8))) h := by
  apply Wp.eq
  unfold m_fits_chain b_fits_chain
  have l1 : ((1 : Int) ≤ l.length) = (1 ≤ l.length) := propext (by omega)
  have l8 : ((l.length : Int) ≤ 8) = (l.length ≤ 8) := propext (by omega)
  simp -dsimp [tyOf]
  by_cases a : 1 ≤ l.length <;> simp -dsimp [a, l1, l8]
theorem fblock_eq (f : FlAt h i w ps rs bs) : m_fits_block [.obj i, .int e, .int x] h = .ok (.bl (decide (0 ≤ x ∧ x < (bs.length : Int)))) h := by
  apply Wp.eq
  unfold m_fits_block b_fits_block
  unfold FlAt at f
  simp -dsimp [f, within_eq, Int.le_sub_one_iff, Int.add_one_le_iff]
theorem flater_eq (f : FlAt h i w ps rs bs) : m_fits_later [.obj i, .int e, .int x] h = .ok (.bl (decide (e < x ∧ x < (bs.length : Int)))) h := by
  apply Wp.eq
  unfold m_fits_later b_fits_later
  unfold FlAt at f
  simp -dsimp [f, within_eq, Int.le_sub_one_iff, Int.add_one_le_iff]
end

section
variable {h : AH} {i : Nat} {e : Int} {x d : T} {v : Option T} {b : Bool}
theorem kr_to (hm : m_fits_variable [.obj i, .int e, x] h = .ok (.bl b) h) : ∃ u, l1_keeps_rules [some (.obj i), some (.int e), some d, some (.str "to"), some x, v] h = .ok (if b = true then .nx [some (.obj i), some (.int e), some d, some (.str "to"), some x, u] else .rt (.bl false)) h := by
  refine ⟨some (.ref "fits_variable"), ?_⟩
  apply Wp.eq
  unfold l1_keeps_rules
  have hl : List.lookup ("to" : Str) rows_TESTS = some (some (.ref "fits_variable")) := rfl
  simp -dsimp [hl, hm]
  cases b <;> simp -dsimp
theorem kr_from (hm : m_fits_variable [.obj i, .int e, x] h = .ok (.bl b) h) : ∃ u, l1_keeps_rules [some (.obj i), some (.int e), some d, some (.str "from"), some x, v] h = .ok (if b = true then .nx [some (.obj i), some (.int e), some d, some (.str "from"), some x, u] else .rt (.bl false)) h := by
  refine ⟨some (.ref "fits_variable"), ?_⟩
  apply Wp.eq
  unfold l1_keeps_rules
  have hl : List.lookup ("from" : Str) rows_TESTS = some (some (.ref "fits_variable")) := rfl
  simp -dsimp [hl, hm]
  cases b <;> simp -dsimp
theorem kr_tos (hm : m_fits_variables [.obj i, .int e, x] h = .ok (.bl b) h) : ∃ u, l1_keeps_rules [some (.obj i), some (.int e), some d, some (.str "tos"), some x, v] h = .ok (if b = true then .nx [some (.obj i), some (.int e), some d, some (.str "tos"), some x, u] else .rt (.bl false)) h := by
  refine ⟨some (.ref "fits_variables"), ?_⟩
  apply Wp.eq
  unfold l1_keeps_rules
  have hl : List.lookup ("tos" : Str) rows_TESTS = some (some (.ref "fits_variables")) := rfl
  simp -dsimp [hl, hm]
  cases b <;> simp -dsimp
theorem kr_froms (hm : m_fits_variables [.obj i, .int e, x] h = .ok (.bl b) h) : ∃ u, l1_keeps_rules [some (.obj i), some (.int e), some d, some (.str "froms"), some x, v] h = .ok (if b = true then .nx [some (.obj i), some (.int e), some d, some (.str "froms"), some x, u] else .rt (.bl false)) h := by
  refine ⟨some (.ref "fits_variables"), ?_⟩
  apply Wp.eq
  unfold l1_keeps_rules
  have hl : List.lookup ("froms" : Str) rows_TESTS = some (some (.ref "fits_variables")) := rfl
  simp -dsimp [hl, hm]
  cases b <;> simp -dsimp
theorem kr_word (hm : m_fits_word [.obj i, .int e, x] h = .ok (.bl b) h) : ∃ u, l1_keeps_rules [some (.obj i), some (.int e), some d, some (.str "word"), some x, v] h = .ok (if b = true then .nx [some (.obj i), some (.int e), some d, some (.str "word"), some x, u] else .rt (.bl false)) h := by
  refine ⟨some (.ref "fits_word"), ?_⟩
  apply Wp.eq
  unfold l1_keeps_rules
  have hl : List.lookup ("word" : Str) rows_TESTS = some (some (.ref "fits_word")) := rfl
  simp -dsimp [hl, hm]
  cases b <;> simp -dsimp
theorem kr_many (hm : m_fits_many [.obj i, .int e, x] h = .ok (.bl b) h) : ∃ u, l1_keeps_rules [some (.obj i), some (.int e), some d, some (.str "many"), some x, v] h = .ok (if b = true then .nx [some (.obj i), some (.int e), some d, some (.str "many"), some x, u] else .rt (.bl false)) h := by
  refine ⟨some (.ref "fits_many"), ?_⟩
  apply Wp.eq
  unfold l1_keeps_rules
  have hl : List.lookup ("many" : Str) rows_TESTS = some (some (.ref "fits_many")) := rfl
  simp -dsimp [hl, hm]
  cases b <;> simp -dsimp
theorem kr_name (hm : m_fits_operation [.obj i, .int e, x] h = .ok (.bl b) h) : ∃ u, l1_keeps_rules [some (.obj i), some (.int e), some d, some (.str "name"), some x, v] h = .ok (if b = true then .nx [some (.obj i), some (.int e), some d, some (.str "name"), some x, u] else .rt (.bl false)) h := by
  refine ⟨some (.ref "fits_operation"), ?_⟩
  apply Wp.eq
  unfold l1_keeps_rules
  have hl : List.lookup ("name" : Str) rows_TESTS = some (some (.ref "fits_operation")) := rfl
  simp -dsimp [hl, hm]
  cases b <;> simp -dsimp
theorem kr_global (hm : m_fits_name [.obj i, .int e, x] h = .ok (.bl b) h) : ∃ u, l1_keeps_rules [some (.obj i), some (.int e), some d, some (.str "global"), some x, v] h = .ok (if b = true then .nx [some (.obj i), some (.int e), some d, some (.str "global"), some x, u] else .rt (.bl false)) h := by
  refine ⟨some (.ref "fits_name"), ?_⟩
  apply Wp.eq
  unfold l1_keeps_rules
  have hl : List.lookup ("global" : Str) rows_TESTS = some (some (.ref "fits_name")) := rfl
  simp -dsimp [hl, hm]
  cases b <;> simp -dsimp
theorem kr_function (hm : m_fits_name [.obj i, .int e, x] h = .ok (.bl b) h) : ∃ u, l1_keeps_rules [some (.obj i), some (.int e), some d, some (.str "function"), some x, v] h = .ok (if b = true then .nx [some (.obj i), some (.int e), some d, some (.str "function"), some x, u] else .rt (.bl false)) h := by
  refine ⟨some (.ref "fits_name"), ?_⟩
  apply Wp.eq
  unfold l1_keeps_rules
  have hl : List.lookup ("function" : Str) rows_TESTS = some (some (.ref "fits_name")) := rfl
  simp -dsimp [hl, hm]
  cases b <;> simp -dsimp
theorem kr_row (hm : m_fits_row [.obj i, .int e, x] h = .ok (.bl b) h) : ∃ u, l1_keeps_rules [some (.obj i), some (.int e), some d, some (.str "row"), some x, v] h = .ok (if b = true then .nx [some (.obj i), some (.int e), some d, some (.str "row"), some x, u] else .rt (.bl false)) h := by
  refine ⟨some (.ref "fits_row"), ?_⟩
  apply Wp.eq
  unfold l1_keeps_rules
  have hl : List.lookup ("row" : Str) rows_TESTS = some (some (.ref "fits_row")) := rfl
  simp -dsimp [hl, hm]
  cases b <;> simp -dsimp
theorem kr_at (hm : m_fits_chain [.obj i, .int e, x] h = .ok (.bl b) h) : ∃ u, l1_keeps_rules [some (.obj i), some (.int e), some d, some (.str "at"), some x, v] h = .ok (if b = true then .nx [some (.obj i), some (.int e), some d, some (.str "at"), some x, u] else .rt (.bl false)) h := by
  refine ⟨some (.ref "fits_chain"), ?_⟩
  apply Wp.eq
  unfold l1_keeps_rules
  have hl : List.lookup ("at" : Str) rows_TESTS = some (some (.ref "fits_chain")) := rfl
  simp -dsimp [hl, hm]
  cases b <;> simp -dsimp
theorem kr_block (hm : m_fits_block [.obj i, .int e, x] h = .ok (.bl b) h) : ∃ u, l1_keeps_rules [some (.obj i), some (.int e), some d, some (.str "block"), some x, v] h = .ok (if b = true then .nx [some (.obj i), some (.int e), some d, some (.str "block"), some x, u] else .rt (.bl false)) h := by
  refine ⟨some (.ref "fits_block"), ?_⟩
  apply Wp.eq
  unfold l1_keeps_rules
  have hl : List.lookup ("block" : Str) rows_TESTS = some (some (.ref "fits_block")) := rfl
  simp -dsimp [hl, hm]
  cases b <;> simp -dsimp
theorem kr_later (hm : m_fits_later [.obj i, .int e, x] h = .ok (.bl b) h) : ∃ u, l1_keeps_rules [some (.obj i), some (.int e), some d, some (.str "later"), some x, v] h = .ok (if b = true then .nx [some (.obj i), some (.int e), some d, some (.str "later"), some x, u] else .rt (.bl false)) h := by
  refine ⟨some (.ref "fits_later"), ?_⟩
  apply Wp.eq
  unfold l1_keeps_rules
  have hl : List.lookup ("later" : Str) rows_TESTS = some (some (.ref "fits_later")) := rfl
  simp -dsimp [hl, hm]
  cases b <;> simp -dsimp
end
def KC (c k : Str) : Prop := (c = "v" ∧ (k = "to" ∨ k = "from")) ∨ (c = "n" ∧ k = "word") ∨ (c = "p" ∧ k = "many") ∨ (c = "j" ∧ k = "block") ∨ (c = "k" ∧ k = "later") ∨ (c = "o" ∧ k = "name") ∨ (c = "r" ∧ k = "row") ∨ (c = "g" ∧ (k = "global" ∨ k = "function")) ∨ (c = "m" ∧ (k = "tos" ∨ k = "froms")) ∨ (c = "s" ∧ k = "froms") ∨ (c = "a" ∧ k = "at")
/-- what the program says of an entry -/
def PE1 (w r n e : Int) (k : Str) (x : T) (b : Bool) : Prop := ∀ (h : AH) (i : Nat) (ps rs bs : List T) (d : T) (v : Option T), FlAt h i w ps rs bs → (rs.length : Int) = r → (bs.length : Int) = n → ∃ u, l1_keeps_rules [some (.obj i), some (.int e), some d, some (.str k), some x, v] h = .ok (if b = true then .nx [some (.obj i), some (.int e), some d, some (.str k), some x, u] else .rt (.bl false)) h
def LE1 (w r n e : Int) (c : Str) (x : T) (b : Bool) : Prop := ∀ h : AH, m__law_entry [.str c, x, boxT w r n, .int e] h = .ok (.bl b) h
theorem entry_both {w r n e : Int} {c : Str} {x : T} (s : Sh c x) : ∃ b, LE1 w r n e c x b ∧ ∀ k, KC c k → PE1 w r n e k x b := by
  cases s with
  | v =>
    refine ⟨_, fun h => entry_v (k := 39), fun k kc h i ps rs bs d v f _ _ => ?_⟩
    simp -dsimp [KC] at kc
    rcases kc with rfl | rfl
    · exact kr_to (fvar_eq f)
    · exact kr_from (fvar_eq f)
  | n =>
    refine ⟨_, fun h => entry_n, fun k kc h i ps rs bs d v f _ _ => ?_⟩
    simp -dsimp [KC] at kc
    subst kc
    exact kr_word fword_eq
  | p hi =>
    refine ⟨_, fun h => entry_p hi, fun k kc h i ps rs bs d v f _ _ => ?_⟩
    simp -dsimp [KC] at kc
    subst kc
    exact kr_many fmany_eq
  | j =>
    refine ⟨_, fun h => entry_j, fun k kc h i ps rs bs d v f _ hn => ?_⟩
    simp -dsimp [KC] at kc
    subst kc; subst hn
    exact kr_block (fblock_eq f)
  | k =>
    refine ⟨_, fun h => entry_k, fun k kc h i ps rs bs d v f _ hn => ?_⟩
    simp -dsimp [KC] at kc
    subst kc; subst hn
    exact kr_later (flater_eq f)
  | o =>
    refine ⟨_, fun h => entry_o, fun k kc h i ps rs bs d v f _ _ => ?_⟩
    simp -dsimp [KC] at kc
    subst kc
    exact kr_name fop_eq
  | ri =>
    refine ⟨_, fun h => entry_ri, fun k kc h i ps rs bs d v f hr _ => ?_⟩
    simp -dsimp [KC] at kc
    subst kc; subst hr
    exact kr_row (frowi_eq f)
  | rs =>
    refine ⟨_, fun h => entry_rs, fun k kc h i ps rs bs d v f _ _ => ?_⟩
    simp -dsimp [KC] at kc
    subst kc
    exact kr_row frows_eq
  | g =>
    refine ⟨_, fun h => entry_g, fun k kc h i ps rs bs d v f _ _ => ?_⟩
    simp -dsimp [KC] at kc
    rcases kc with rfl | rfl
    · exact kr_global fname_eq
    · exact kr_function fname_eq
  | s hl =>
    refine ⟨_, fun h => entry_ms (.inr rfl) hl, fun k kc h i ps rs bs d v f _ _ => ?_⟩
    simp -dsimp [KC] at kc
    subst kc
    exact kr_froms (fvars_eq f hl)
  | m hl =>
    refine ⟨_, fun h => entry_ms (.inl rfl) hl, fun k kc h i ps rs bs d v f _ _ => ?_⟩
    simp -dsimp [KC] at kc
    rcases kc with rfl | rfl
    · exact kr_tos (fvars_eq f hl)
    · exact kr_froms (fvars_eq f hl)
  | a hl =>
    refine ⟨_, fun h => entry_a hl, fun k kc h i ps rs bs d v f _ _ => ?_⟩
    simp -dsimp [KC] at kc
    subst kc
    exact kr_at fchain_eq
theorem Gd.tr {w r n e : Int} {c : Str} {x : T} (g : Gd w r n e c x) : LE1 w r n e c x true := by
  intro h
  cases g with
  | v a b => exact (entry_v (k := 39)).trans (by rw [decide_eq_true (⟨a, b⟩ : _ ∧ _)])
  | n a b => exact entry_n.trans (by rw [decide_eq_true (⟨a, b⟩ : _ ∧ _)])
  | p a b => exact (entry_p b).trans (by rw [decide_eq_true a])
  | j a b => exact entry_j.trans (by rw [decide_eq_true (⟨a, b⟩ : _ ∧ _)])
  | k a b => exact entry_k.trans (by rw [decide_eq_true (⟨a, b⟩ : _ ∧ _)])
  | o a => exact entry_o.trans (by rw [decide_eq_true a])
  | ri a b => exact entry_ri.trans (by rw [decide_eq_true (⟨a, b⟩ : _ ∧ _)])
  | rs => exact entry_rs
  | g => exact entry_g
  | s a b => exact (entry_ms (.inr rfl) (Nat.le_trans a (by decide))).trans (by rw [List.all_eq_true.mpr (fun i hi => decide_eq_true (b i hi))])
  | m a b => exact (entry_ms (.inl rfl) (Nat.le_trans a (by decide))).trans (by rw [List.all_eq_true.mpr (fun i hi => decide_eq_true (b i hi))])
  | a a b => exact (entry_a (Nat.le_trans b (by decide))).trans (by rw [decide_eq_true (⟨a, b⟩ : _ ∧ _)])

inductive S2 : List Str → List T → Prop
  | nil : S2 [] []
  | cons {c : Str} {x : T} {ls : List Str} {es : List T} : Sh c x → S2 ls es → S2 (c :: ls) (x :: es)
theorem S2.len {ls : List Str} {es : List T} (a : S2 ls es) : es.length = ls.length := by
  induction a with
  | nil => rfl
  | cons _ _ ih => simp -dsimp [ih]
inductive K2 : List Str → List Str → Prop
  | nil : K2 [] []
  | cons {c k : Str} {ls ks : List Str} : KC c k → K2 ls ks → K2 (c :: ls) (k :: ks)
/-- the law's answers, entry by entry -/
inductive En (w r n e : Int) : List Str → List T → List Bool → Prop
  | nil : En w r n e [] [] []
  | cons {c : Str} {x : T} {b : Bool} {ls : List Str} {es : List T} {bl : List Bool} : LE1 w r n e c x b → En w r n e ls es bl → En w r n e (c :: ls) (x :: es) (b :: bl)
inductive Ek (w r n e : Int) : List Str → List T → List Bool → Prop
  | nil : Ek w r n e [] [] []
  | cons {k : Str} {x : T} {b : Bool} {ks : List Str} {es : List T} {bl : List Bool} : PE1 w r n e k x b → Ek w r n e ks es bl → Ek w r n e (k :: ks) (x :: es) (b :: bl)
theorem both {w r n e : Int} {ls : List Str} {es : List T} (s : S2 ls es) : ∀ {ks}, K2 ls ks → ∃ bl, En w r n e ls es bl ∧ Ek w r n e ks es bl := by
  induction s with
  | nil => intro ks k; cases k; exact ⟨[], .nil, .nil⟩
  | cons s _ ih =>
    intro ks k
    cases k with
    | cons kc k =>
      obtain ⟨b, h1, h2⟩ := entry_both (w := w) (r := r) (n := n) (e := e) s
      obtain ⟨bl, h3, h4⟩ := ih k
      exact ⟨b :: bl, .cons h1 h3, .cons (h2 _ kc) h4⟩
theorem G2.en {w r n e : Int} {ls : List Str} {es : List T} (g : G2 w r n e ls es) : En w r n e ls es (es.map fun _ => true) := by
  induction g with
  | nil => exact .nil
  | cons g _ ih => exact .cons g.tr ih
theorem En.len {w r n e : Int} {ls : List Str} {es : List T} {bl : List Bool} (a : En w r n e ls es bl) : es.length = ls.length := by
  induction a with
  | nil => rfl
  | cons _ _ ih => simp -dsimp [ih]
theorem Ek.len {w r n e : Int} {ls : List Str} {es : List T} {bl : List Bool} (a : Ek w r n e ls es bl) : es.length = ls.length := by
  induction a with
  | nil => rfl
  | cons _ _ ih => simp -dsimp [ih]
def ODD : List Str := ["", "Word", "nop", "jumps", "add", "skip ", "check"]
theorem odd_tab : ∀ z ∈ ODD, getT TBm (.inr z) = none ∧ List.lookup z rows_SHAPES = some none := by
  intro z hz
  simp only [ODD, List.mem_cons, List.not_mem_nil, or_false] at hz
  rcases hz with rfl | rfl | rfl | rfl | rfl | rfl | rfl <;> exact ⟨rfl, rfl⟩
theorem tr_shapes : ∀ x ∈ TR, List.lookup x.1 rows_SHAPES = some (some (.ktp (x.2.2.map .str))) :=
  tr_all ⟨rfl, rfl, rfl, rfl, rfl, rfl, rfl, rfl, rfl, rfl, rfl, rfl, rfl, rfl, rfl, rfl, rfl, rfl⟩
theorem kc2 : ∀ x ∈ TR, K2 x.2.1 x.2.2 := by
  refine tr_all ⟨?_, ?_, ?_, ?_, ?_, ?_, ?_, ?_, ?_, ?_, ?_, ?_, ?_, ?_, ?_, ?_, ?_, ?_⟩
  all_goals
    repeat (first | exact K2.nil | refine K2.cons (by simp -dsimp [KC]) ?_)
section
variable {h : AH} {w r n e : Int} {z form : Str} {i : Nat} {ps rs bs : List T}
theorem fits_loop {ls' : List Str} {es' : List T} {bl : List Bool} (E : En w r n e ls' es' bl) : ∀ (lp : List Str) (ep : List T) (v : Option T), lp.length = ep.length → form.cps.toList.map (fun c => T.str ⟨#[c]⟩) = (lp ++ ls').map .str → form.length ≤ sizeLine →
    ∃ v', sForL (aName 4) l1__law_fits ((List.range ls'.length).map fun (i : Nat) => T.int ((lp.length : Int) + (i : Int))) [some (.tup (.str z :: (ep ++ es'))), some (boxT w r n), some (.int e), some (.str form), v, none, none] h = .ok (if bl.all id = true then .nx [some (.tup (.str z :: (ep ++ es'))), some (boxT w r n), some (.int e), some (.str form), v', none, none] else .rt (.bl false)) h := by
  induction E with
  | nil => intro lp ep v _ _ _; exact ⟨v, rfl⟩
  | cons hb E ih =>
    rename_i c x b ls es bl
    intro lp ep v hl hf hs
    obtain ⟨v', e'⟩ := ih (lp ++ [c]) (ep ++ [x]) (some (.int lp.length)) (by simp -dsimp [hl]) (by rw [hf]; simp -dsimp) hs
    have step : l1__law_fits [some (.tup (.str z :: (ep ++ x :: es))), some (boxT w r n), some (.int e), some (.str form), some (.int lp.length), none, none] h = .ok (if b = true then .nx [some (.tup (.str z :: (ep ++ x :: es))), some (boxT w r n), some (.int e), some (.str form), some (.int lp.length), none, none] else .rt (.bl false)) h := by
      apply Wp.eq
      unfold l1__law_fits
      have h1 : Option.map (fun c => T.str ⟨#[c]⟩) (atI form.cps.toList (lp.length : Int)) = some (.str c) := by
        rw [atI_nat, ← List.getElem?_map, hf, List.map_append, List.getElem?_append_right (by simp -dsimp)]
        simp -dsimp
      have h2 : atI (T.str z :: (ep ++ x :: es)) ((lp.length : Int) + 1) = some x := by
        rw [show (lp.length : Int) + 1 = ((lp.length + 1 : Nat) : Int) by omega, atI_nat, hl]
        simp -dsimp
      have hb' := hb h
      simp -dsimp [hs, h1, h2, hb']
      cases b <;> simp -dsimp
    rw [List.length_cons, List.range_succ_eq_map, List.map_cons, List.map_map]
    cases b with
    | false =>
      refine ⟨v, ?_⟩
      rw [for_rt (τ1 := [some (.tup (.str z :: (ep ++ x :: es))), some (boxT w r n), some (.int e), some (.str form), some (.int lp.length), none, none]) (t := .bl false) (h1 := h) (by simp -dsimp) (by rw [step]; rfl)]
      rfl
    | true =>
      refine ⟨v', ?_⟩
      rw [for_nx (τ1 := [some (.tup (.str z :: (ep ++ x :: es))), some (boxT w r n), some (.int e), some (.str form), some (.int lp.length), none, none]) (τ' := [some (.tup (.str z :: (ep ++ x :: es))), some (boxT w r n), some (.int e), some (.str form), some (.int lp.length), none, none]) (h1 := h) (by simp -dsimp) (by rw [step]; rfl)]
      have m : List.map ((fun (i : Nat) => T.int ((lp.length : Int) + (i : Int))) ∘ Nat.succ) (List.range ls.length) = List.map (fun (i : Nat) => T.int (((lp ++ [c]).length : Int) + (i : Int))) (List.range ls.length) := by
        refine List.map_congr_left (fun i _ => ?_)
        simp -dsimp; omega
      rw [m]
      simp only [List.append_assoc, List.cons_append, List.nil_append] at e'
      rw [e']
      simp -dsimp
theorem keeps_loop {ks : List Str} {es : List T} {bl : List Bool} {d : T} (E : Ek w r n e ks es bl) (f : FlAt h i w ps rs bs) (hr : (rs.length : Int) = r) (hn : (bs.length : Int) = n) : ∀ (v3 v4 v5 : Option T),
    ∃ u3 u4 u5, sForL (aTup 2 (aCons (aName 3) (aCons (aName 4) aNil))) l1_keeps_rules (pairs (ks.map .str) es) [some (.obj i), some (.int e), some d, v3, v4, v5] h = .ok (if bl.all id = true then .nx [some (.obj i), some (.int e), some d, u3, u4, u5] else .rt (.bl false)) h := by
  induction E with
  | nil => intro v3 v4 v5; exact ⟨v3, v4, v5, rfl⟩
  | cons hb E ih =>
    rename_i k x b ks es bl
    intro v3 v4 v5
    obtain ⟨u, step⟩ := hb h i ps rs bs d v5 f hr hn
    obtain ⟨u3, u4, u5, e'⟩ := ih (some (.str k)) (some x) u
    refine ⟨u3, u4, u5, ?_⟩
    show sForL _ _ (T.tup [.str k, x] :: pairs (ks.map .str) es) _ _ = _
    cases b with
    | false =>
      rw [for_rt (τ1 := [some (.obj i), some (.int e), some d, some (.str k), some x, v5]) (t := .bl false) (h1 := h) (by simp -dsimp) (by rw [step]; rfl)]
      rfl
    | true =>
      rw [for_nx (τ1 := [some (.obj i), some (.int e), some d, some (.str k), some x, v5]) (τ' := [some (.obj i), some (.int e), some d, some (.str k), some x, u]) (h1 := h) (by simp -dsimp) (by rw [step]; rfl), e']
      simp -dsimp

/-- a row of the right length that is no moves: the law's answer -/
theorem fits_row {ls ks : List Str} {es : List T} {bl : List Bool} (hm : (z, ls, ks) ∈ TR) (hz : z ≠ "moves") (E : En w r n e ls es bl) : m__law_fits [.tup (.str z :: es), boxT w r n, .int e] h = .ok (.bl (bl.all id)) h := by
  obtain ⟨form, ht, hf, hn⟩ := tr_tab _ hm
  have hl4 := (tr_len _ hm).1
  dsimp only at ht hf hn hl4
  have lt : ∀ h, lookD tabT (.str z) h = some (some (.str form)) := fun h => by rw [← ht]; rfl
  have a0 : ∀ l : List T, atI (T.str z :: l) 0 = some (.str z) := fun l => at_0
  have hs : form.length ≤ sizeLine := sz (by omega)
  obtain ⟨v', e'⟩ := fits_loop (h := h) (z := z) (form := form) E [] [] none rfl hf hs
  simp only [List.nil_append, List.length_nil, Int.natCast_zero, Int.zero_add] at e'
  apply Wp.eq
  unfold m__law_fits b__law_fits
  have le := E.len
  have i1 : isD tabT h = true := rfl
  have z1 : ¬ ((ls.length : Int) + 1 = 0) := by omega
  have hsl : ls.length ≤ sizeLine := sz (by omega)
  generalize bl.all id = bb at e' ⊢
  simp -dsimp [-lookD, -isD, tyOf, a0, lt, i1, z1, hsl, hs, hn, le, r62_s (i := (ls.length : Int)) (by omega) (by omega), e']
  cases bb <;> simp -dsimp [a0, hz]
/-- the same for the program -/
theorem keeps_row {ls ks : List Str} {es : List T} {bl : List Bool} (hm : (z, ls, ks) ∈ TR) (hz : z ≠ "moves") (E : Ek w r n e ks es bl) (f : FlAt h i w ps rs bs) (hr : (rs.length : Int) = r) (hn : (bs.length : Int) = n) : m_keeps_rules [.obj i, .int e, .tup (.str z :: es)] h = .ok (.bl (bl.all id)) h := by
  have hl := tr_shapes _ hm
  have hl4 := tr_len _ hm
  dsimp only at hl hl4
  have a0 : ∀ l : List T, atI (T.str z :: l) 0 = some (.str z) := fun l => at_0
  have le := E.len
  obtain ⟨u3, u4, u5, e'⟩ := keeps_loop (d := .tup (.str z :: es)) E f hr hn none none none
  apply Wp.eq
  unfold m_keeps_rules b_keeps_rules
  have tk : List.take ks.length es = es := List.take_of_length_le (by omega)
  generalize bl.all id = bb at e' ⊢
  simp -dsimp [a0, hl, le, tk, e']
  cases bb <;> simp -dsimp [a0, hz]

theorem twice_ok {is : List Int} {A B : Option T} {v : Option T} (hl : is.length ≤ 30) {es : T} : Wp (mLcL (aName 4) (mB (mOp oIn (mOp oIx (mVar 5) (mVar 4)) (mSl oSlT (mVar 5) mNoPart (mPart (mVar 4))))) e2__law_fits [A, B, some (.int e), some (.str form), v, some (.tup (is.map .int)), none] 0 ((List.range is.length).map fun (i : Nat) => T.int (i : Int)) h) (fun ys h' => (ys = [] ↔ is.Nodup) ∧ h' = h ∧ ∀ t ∈ ys, isObj t = false) (fun _ _ => False) := by
  refine wp_lcl (acc := []) (fun l acc h' => ∃ k m : Nat, k + m = is.length ∧ l = (List.range m).map (fun (i : Nat) => T.int ((k : Int) + (i : Int))) ∧ (acc = [] ↔ (is.take k).Nodup) ∧ h' = h ∧ ∀ t ∈ acc, isObj t = false) ⟨0, is.length, by simp -dsimp, by simp -dsimp, by simp -dsimp, rfl, by simp -dsimp⟩ (by rw [List.length_map, List.length_range]; exact sz (by omega)) ?_ ?_
  · rintro x xs acc h1 ⟨k, m, hk, hl', ha, rfl, hno⟩
    rcases m with _ | m
    · cases hl'
    rw [List.range_succ_eq_map, List.map_cons, List.map_map] at hl'
    obtain ⟨hx, hxs⟩ := List.cons.inj hl'
    simp at hx
    subst hx
    have hlt : k < is.length := by omega
    refine ⟨_, rfl, ?_⟩
    have g1 : atI (is.map T.int) (k : Int) = some (.int is[k]) := by rw [atI_nat, List.getElem?_map, List.getElem?_eq_getElem hlt]; rfl
    have g2 : List.take k (is.map T.int) = (is.take k).map .int := by rw [List.map_take]
    have mk : min k is.length = k := by omega
    have nx : xs = (List.range m).map (fun (i : Nat) => T.int (((k + 1 : Nat) : Int) + (i : Int))) := by
      rw [hxs]
      refine List.map_congr_left (fun i _ => ?_)
      simp -dsimp; omega
    have tk : is.take (k + 1) = is.take k ++ [is[k]] := by rw [List.take_succ, List.getElem?_eq_getElem hlt]; rfl
    have fl : (is.take k).all (flatT ∘ T.int) = true := by rw [List.all_eq_true]; intro _ _; rfl
    simp -dsimp [g1, g2, mk, inT_ints, -List.map_take, -List.all_map]
    by_cases y : is[k] ∈ is.take k
    · simp -dsimp [y]
      unfold e2__law_fits
      simp -dsimp
      refine Kp.mk ⟨k + 1, m, by omega, nx, ?_, rfl, ?_⟩
      · constructor
        · intro q; simp at q
        · intro q
          rw [tk, List.nodup_append] at q
          exact absurd rfl (q.2.2 _ y _ (List.mem_singleton.mpr rfl))
      · intro t ht
        rcases List.mem_append.mp ht with ht | ht
        · exact hno t ht
        · rw [List.mem_singleton] at ht; subst ht; rfl
    · simp -dsimp [y]
      refine Kp.mk ⟨k + 1, m, by omega, nx, ?_, rfl, hno⟩
      rw [ha, tk, List.nodup_append]
      constructor
      · exact fun q => ⟨q, by simp -dsimp, fun a ha b hb => by rw [List.mem_singleton] at hb; subst hb; exact fun z => y (z ▸ ha)⟩
      · exact fun q => q.1
  · rintro ys h1 ⟨k, m, hk, hl', ha, rfl, hno⟩
    have := congrArg List.length hl'
    simp at this
    subst this
    simp only [List.nil_append] at ha
    rw [List.take_of_length_le (by omega)] at ha
    exact ⟨ha, rfl, by simpa using hno⟩

theorem intsOf_map {is : List Int} : intsOf (is.map T.int) = some is := by
  induction is with
  | nil => rfl
  | cons i is ih => simp -dsimp [ih]
/-- moves: the law's answer -/
theorem fits_moves {is js : List Int} {bl : List Bool} (hi : is.length ≤ 30) (E : En w r n e ["m", "m"] [.tup (is.map .int), .tup (js.map .int)] bl) : m__law_fits [.tup [.str "moves", .tup (is.map .int), .tup (js.map .int)], boxT w r n, .int e] h = .ok (.bl (bl.all id && (decide (is.length = js.length) && decide is.Nodup))) h := by
  have hm : (("moves" : Str), (["m", "m"] : List Str), (["tos", "froms"] : List Str)) ∈ TR := by simp -dsimp [TR]
  obtain ⟨form, ht, hf, hn⟩ := tr_tab _ hm
  dsimp only at ht hf hn
  have lt : ∀ h, lookD tabT (.str "moves") h = some (some (.str form)) := fun h => by rw [← ht]; rfl
  have hs : form.length ≤ sizeLine := sz (by rw [hn]; decide)
  obtain ⟨v', e'⟩ := fits_loop (h := h) (z := "moves") (form := form) E [] [] none rfl hf hs
  simp only [List.nil_append, List.length_nil, Int.natCast_zero, Int.zero_add] at e'
  have hn' : form.length = 2 := hn
  apply Wp.eq
  unfold m__law_fits b__law_fits
  have i1 : isD tabT h = true := rfl
  have a0 : ∀ l : List T, atI (T.str "moves" :: l) 0 = some (.str "moves") := fun l => at_0
  have a1 : atI [T.str "moves", T.tup (is.map .int), T.tup (js.map .int)] 1 = some (T.tup (is.map .int)) := at_1
  have a2 : atI [T.str "moves", T.tup (is.map .int), T.tup (js.map .int)] 2 = some (T.tup (js.map .int)) := at_2
  generalize bl.all id = bb at e' ⊢
  simp -dsimp [-lookD, -isD, tyOf, a0, lt, i1, hn']
  simp at e'
  rw [e']
  cases bb with
  | false => simp -dsimp
  | true =>
    simp -dsimp [a0, a1, a2, r62_s (i := (is.length : Int)) (by omega) (by omega), wipeT]
    refine (twice_ok (es := .non) hi).mono ?_ (fun _ _ h => h.elim)
    rintro ys h1 ⟨q, rfl, hno⟩
    have ie : (((is.length : Int) = (js.length : Int)) = (is.length = js.length)) := propext (by omega)
    have ye : decide (((ys.length : Nat) : Int) = 0) = decide is.Nodup := by
      rw [decide_eq_decide, ← q]
      cases ys <;> simp -dsimp; omega
    by_cases y : is.length = js.length
    · simp -dsimp [a2, y, ie, ye]
      exact q
    · simp -dsimp [a2, y, ie, ye]
theorem keeps_moves {is js : List Int} {bl : List Bool} (hi : is.length ≤ 30) (E : Ek w r n e ["tos", "froms"] [.tup (is.map .int), .tup (js.map .int)] bl) (f : FlAt h i w ps rs bs) (hr : (rs.length : Int) = r) (hn : (bs.length : Int) = n) : m_keeps_rules [.obj i, .int e, .tup [.str "moves", .tup (is.map .int), .tup (js.map .int)]] h = .ok (.bl (bl.all id && (decide (is.length = js.length) && decide is.Nodup))) h := by
  have hm : (("moves" : Str), (["m", "m"] : List Str), (["tos", "froms"] : List Str)) ∈ TR := by simp -dsimp [TR]
  have hl := tr_shapes _ hm
  dsimp only at hl
  have a0 : ∀ l : List T, atI (T.str "moves" :: l) 0 = some (.str "moves") := fun l => at_0
  have a1 : atI [T.str "moves", T.tup (is.map .int), T.tup (js.map .int)] 1 = some (T.tup (is.map .int)) := at_1
  have a2 : atI [T.str "moves", T.tup (is.map .int), T.tup (js.map .int)] 2 = some (T.tup (js.map .int)) := at_2
  obtain ⟨u3, u4, u5, e'⟩ := keeps_loop (d := .tup [.str "moves", .tup (is.map .int), .tup (js.map .int)]) E f hr hn none none none
  apply Wp.eq
  unfold m_keeps_rules b_keeps_rules
  generalize bl.all id = bb at e' ⊢
  simp -dsimp [a0, hl]
  simp at e'
  rw [e']
  cases bb with
  | false => simp -dsimp
  | true =>
    have ie : (((is.length : Int) = (js.length : Int)) = (is.length = js.length)) := propext (by omega)
    have ce : (((cntD is : Nat) : Int) = (is.length : Int)) = is.Nodup := propext (by rw [← cntD_nodup]; omega)
    have l4 : is.length ≤ 4000 := by omega
    simp -dsimp [a0, a1, a2, ie]
    by_cases y : is.length = js.length
    · simp -dsimp [a1, a2, y, ie, intsOf_map, -intsOf]
      exact ⟨by omega, by rw [← cntD_nodup]; omega⟩
    · simp -dsimp [a1, a2, y, ie]
end

/-- a deed, good or bent -/
inductive Dd : T → Prop
  | row {z : Str} {ls ks : List Str} {es : List T} : (z, ls, ks) ∈ TR → z ≠ "moves" → S2 ls es → Dd (.tup (.str z :: es))
  | moves {is js : List Int} : is.length ≤ 30 → js.length ≤ 30 → Dd (.tup [.str "moves", .tup (is.map .int), .tup (js.map .int)])
  | len {z : Str} {ls ks : List Str} {es : List T} : (z, ls, ks) ∈ TR → es.length ≠ ls.length → es.length ≤ 10 → Dd (.tup (.str z :: es))
  | odd {z : Str} {es : List T} : z ∈ ODD → es.length ≤ 10 → Dd (.tup (.str z :: es))
section
variable {h : AH} {w r n e : Int} {z : Str} {i : Nat} {ps rs bs : List T}
theorem fits_len {ls ks : List Str} {es : List T} (hm : (z, ls, ks) ∈ TR) (hl : es.length ≠ ls.length) : m__law_fits [.tup (.str z :: es), boxT w r n, .int e] h = .ok (.bl false) h := by
  obtain ⟨form, ht, hf, hn⟩ := tr_tab _ hm
  have hl4 := (tr_len _ hm).1
  dsimp only at ht hf hn hl4
  have lt : ∀ h, lookD tabT (.str z) h = some (some (.str form)) := fun h => by rw [← ht]; rfl
  have a0 : ∀ l : List T, atI (T.str z :: l) 0 = some (.str z) := fun l => at_0
  have hs : ls.length ≤ sizeLine := sz (by omega)
  have i1 : isD tabT h = true := rfl
  have z1 : ¬ ((es.length : Int) + 1 = 0) := by omega
  have z2 : ¬ ((es.length : Int) + 1 = (ls.length : Int) + 1) := by omega
  have z3 : ¬ ((es.length : Int) = (ls.length : Int)) := by omega
  apply Wp.eq
  unfold m__law_fits b__law_fits
  simp -dsimp [-lookD, -isD, tyOf, a0, lt, i1, z1, hn, hs, z3]
theorem fits_odd {es : List T} (hm : z ∈ ODD) : m__law_fits [.tup (.str z :: es), boxT w r n, .int e] h = .ok (.bl false) h := by
  have ht := (odd_tab z hm).1
  have lt : ∀ h, lookD tabT (.str z) h = some none := fun h => by rw [← ht]; rfl
  have a0 : ∀ l : List T, atI (T.str z :: l) 0 = some (.str z) := fun l => at_0
  have i1 : isD tabT h = true := rfl
  have z1 : ¬ ((es.length : Int) + 1 = 0) := by omega
  apply Wp.eq
  unfold m__law_fits b__law_fits
  simp -dsimp [-lookD, -isD, tyOf, a0, lt, i1, z1]
theorem keeps_len {ls ks : List Str} {es : List T} (hm : (z, ls, ks) ∈ TR) (hne : es.length ≠ ls.length) : m_keeps_rules [.obj i, .int e, .tup (.str z :: es)] h = .ok (.bl false) h := by
  have hl := tr_shapes _ hm
  have hl4 := (tr_len _ hm).2
  dsimp only at hl hl4
  have a0 : ∀ l : List T, atI (T.str z :: l) 0 = some (.str z) := fun l => at_0
  have z3 : ¬ ((es.length : Int) = (ks.length : Int)) := by omega
  apply Wp.eq
  unfold m_keeps_rules b_keeps_rules
  simp -dsimp [a0, hl, z3]
theorem keeps_odd {es : List T} (hm : z ∈ ODD) : m_keeps_rules [.obj i, .int e, .tup (.str z :: es)] h = .ok (.bl false) h := by
  have hl := (odd_tab z hm).2
  have a0 : ∀ l : List T, atI (T.str z :: l) 0 = some (.str z) := fun l => at_0
  apply Wp.eq
  unfold m_keeps_rules b_keeps_rules
  simp -dsimp [a0, hl]
theorem is_end_eq {es : List T} : m_is_end [.tup (.str z :: es)] h = .ok (.bl (isE z)) h := by
  have a0 : ∀ l : List T, atI (T.str z :: l) 0 = some (.str z) := fun l => at_0
  apply Wp.eq
  unfold m_is_end b_is_end
  have := inT_strs (z := z) (l := ["jump", "fork", "back"])
  simp only [List.map_cons, List.map_nil] at this
  simp -dsimp [a0, c_ENDS, this, isE]
end
/-- do the law and the program take the deed t in block e -/
def fB (w r n e : Int) (t : T) : Bool := match m__law_fits [t, boxT w r n, .int e] [] with | .ok (.bl b) _ => b | _ => false
def endB (t : T) : Bool := match t with | .tup (.str z :: _) => isE z | _ => false
theorem fits_same {t : T} {w r n e : Int} (d : Dd t) : (∀ h, m__law_fits [t, boxT w r n, .int e] h = .ok (.bl (fB w r n e t)) h) ∧ ∀ h i ps rs bs, FlAt h i w ps rs bs → (rs.length : Int) = r → (bs.length : Int) = n → m_keeps_rules [.obj i, .int e, t] h = .ok (.bl (fB w r n e t)) h := by
  obtain ⟨b, h1, h2⟩ : ∃ b, (∀ h, m__law_fits [t, boxT w r n, .int e] h = .ok (.bl b) h) ∧ ∀ h i ps rs bs, FlAt h i w ps rs bs → (rs.length : Int) = r → (bs.length : Int) = n → m_keeps_rules [.obj i, .int e, t] h = .ok (.bl b) h := by
    cases d with
    | row hm hz s =>
      obtain ⟨bl, E, K⟩ := both (w := w) (r := r) (n := n) (e := e) s (kc2 _ hm)
      exact ⟨_, fun h => fits_row hm hz E, fun h i ps rs bs f hr hn => keeps_row hm hz K f hr hn⟩
    | moves hi hj =>
      obtain ⟨bl, E, K⟩ := both (w := w) (r := r) (n := n) (e := e) (.cons (.m hi) (.cons (.m hj) .nil)) (kc2 (("moves" : Str), (["m", "m"] : List Str), (["tos", "froms"] : List Str)) (by simp -dsimp [TR]))
      exact ⟨_, fun h => fits_moves hi E, fun h i ps rs bs f hr hn => keeps_moves hi K f hr hn⟩
    | len hm hl _ => exact ⟨false, fun h => fits_len hm hl, fun h i ps rs bs _ _ _ => keeps_len hm hl⟩
    | odd hm _ => exact ⟨false, fun h => fits_odd hm, fun h i ps rs bs _ _ _ => keeps_odd hm⟩
  have e1 : fB w r n e t = b := by unfold fB; rw [h1 []]
  rw [e1]
  exact ⟨h1, h2⟩
theorem G2.s2 {w r n e : Int} {ls : List Str} {es : List T} (g : G2 w r n e ls es) : S2 ls es := by
  induction g with
  | nil => exact .nil
  | cons g _ ih => exact .cons g.sh ih
theorem GD.dd {w r n e : Int} {l : Bool} {t : T} (g : GD w r n e l t) : Dd t := by
  cases g with
  | row hm hz g _ => exact .row hm hz g.s2
  | moves a b c d f => exact .moves (by omega) (by omega)
theorem all_true {α : Type} {es : List α} : (es.map fun _ => true).all id = true := by rw [List.all_map]; exact List.all_eq_true.mpr fun _ _ => rfl
theorem GD.fits {w r n e : Int} {l : Bool} {t : T} (g : GD w r n e l t) : fB w r n e t = true := by
  cases g with
  | row hm hz g _ =>
    have := fits_row (h := []) hm hz g.en
    rw [all_true] at this
    unfold fB; rw [this]
  | moves a b c d f =>
    have E : En w r n e ["m", "m"] [.tup (List.map T.int _), .tup (List.map T.int _)] [true, true] := .cons (Gd.m b d).tr (.cons (Gd.m (by omega) f).tr .nil)
    have := fits_moves (h := []) (by omega) E
    unfold fB; rw [this]
    simp -dsimp [a, c]
theorem GD.isend {w r n e : Int} {l : Bool} {t : T} (g : GD w r n e l t) : endB t = l := by
  cases g with
  | row _ _ _ h => exact h
  | moves _ _ _ _ _ => rfl

def pR (w : Int) (hs : List Int) (k : Nat) : Option (Int × Int) := match hs[k]? with | none => none | some v => if (0 ≤ v ∧ v < w) ∧ v ∉ hs.take k then none else some (-1, k)
def dR (w r n : Int) (at_ : Nat) (ds : List T) (k : Nat) : Option (Int × Int) := match ds[k]? with | none => none | some t => if fB w r n at_ t = true ∧ endB t = decide (k + 1 = ds.length) then none else some (at_, k)
def bR (w r n : Int) (bs : List T) (at_ : Nat) : Option (Int × Int) := match bs[at_]? with | some (.tup ds) => if ds = [] then some (at_, 0) else firstR (dR w r n at_ ds) 0 ds.length | _ => none
def blR (w r n : Int) (bs : List T) : Option (Int × Int) := if bs = [] then some (0, 0) else firstR (bR w r n bs) 0 bs.length
def allR (w r n : Int) (hs : List Int) (bs : List T) : Option (Int × Int) := match firstR (pR w hs) 0 hs.length with | some x => some x | none => blR w r n bs
def ansT : Option (Int × Int) → T | none => .non | some x => .tup [.int x.1, .int x.2]
/-- the grid: a list that changes later, or changes no more -/
def Gx (x : T) (h : AH) (bs : List T) : Prop := x = .lst bs ∨ ∃ g, x = .obj g ∧ h[g]? = some (some (.lst bs))
/-- blocks of deeds, good or bent -/
def Bks (bs : List T) : Prop := bs.length ≤ 320 ∧ ∀ b ∈ bs, ∃ ds, b = .tup ds ∧ ds.length ≤ 100 ∧ ∀ d ∈ ds, Dd d
def excR (r : Int × Int) : Exc := ⟨"BadFlow", ["position", "block"], [.int r.2, .int r.1]⟩
section
variable {h : AH} {w r n : Int} {i : Nat} {hs : List Int} {ps rs bs : List T}
theorem oIx_obj {g : Nat} {l : List T} {k : Nat} (hg : h[g]? = some (some (.lst l))) : oIx (.obj g) (.int (k : Int)) h = pur l[k]? h := by
  simp -dsimp [hg, atI_nat]
theorem oIx_lst {l : List T} {k : Nat} : oIx (.lst l) (.int (k : Int)) h = pur l[k]? h := by
  simp -dsimp [atI_nat]
theorem Gx.ix {x : T} (g : Gx x h bs) (k : Nat) : oIx x (.int (k : Int)) h = pur bs[k]? h := by
  rcases g with rfl | ⟨g, rfl, hg⟩
  · exact oIx_lst
  · exact oIx_obj hg
theorem Gx.seq {x : T} (g : Gx x h bs) : seqOf x h = some bs := by
  rcases g with rfl | ⟨g, rfl, hg⟩
  · rfl
  · simp -dsimp [hg]
theorem Gx.app {x : T} {o : Option O} (g : Gx x h bs) : Gx x (h ++ [o]) bs := by
  rcases g with rfl | ⟨g, rfl, hg⟩
  · exact .inl rfl
  · exact .inr ⟨g, rfl, by rw [List.getElem?_append_left (PoolAt.lt hg)]; exact hg⟩
/-! the program -/
theorem params_eq (hl : hs.length ≤ 100) : m_check_params [.tup (hs.map .int), .int w] h = match firstR (pR w hs) 0 hs.length with | none => .ok .non h | some x => .exc (excR x) h := by
  obtain ⟨τ', -, e'⟩ := for_first (R := Int × Int) (a := aTup 2 (aCons (aName 2) (aCons (aName 3) aNil))) (b := l1_check_params) (h := h) (fun τ => ∃ u v, τ = [some (.tup (hs.map .int)), some (.int w), u, v]) (fun x τ => .xc (excR x) τ) (pR w hs) (fun r τ => .inr ⟨_, _, rfl⟩) (M.numbered (hs.map .int)) 0 (by
    rintro k x τ hx ⟨u, v, rfl⟩
    unfold M.numbered at hx
    rw [List.getElem?_mapIdx, List.getElem?_map] at hx
    cases hv : hs[k]? with
    | none => rw [hv] at hx; cases hx
    | some y =>
      rw [hv] at hx
      simp at hx
      subst hx
      refine ⟨[some (.tup (hs.map .int)), some (.int w), some (.int k), some (.int y)], [some (.tup (hs.map .int)), some (.int w), some (.int k), some (.int y)], by simp -dsimp, ⟨_, _, rfl⟩, ?_⟩
      apply Wp.eq
      unfold l1_check_params
      have hk : k < hs.length := (List.getElem?_eq_some_iff.mp hv).1
      have mk : min k hs.length = k := by omega
      have fl : (hs.take k).all (flatT ∘ T.int) = true := by rw [List.all_eq_true]; intro _ _; rfl
      have g2 : List.take k (hs.map T.int) = (hs.take k).map .int := by rw [List.map_take]
      rw [Nat.zero_add]
      simp -dsimp [within_eq, Int.le_sub_one_iff]
      by_cases a : 0 ≤ y ∧ y < w
      · by_cases b : y ∈ hs.take k
        · have pv : pR w hs k = some (-1, (k : Int)) := by unfold pR; rw [hv]; dsimp only; rw [if_neg (fun z => z.2 b)]
          simp -dsimp [a, mk, g2, inT_ints, -List.map_take, -List.all_map, b, pv, excR]
        · have pv : pR w hs k = none := by unfold pR; rw [hv]; dsimp only; rw [if_pos ⟨a, b⟩]
          simp -dsimp [a, mk, g2, inT_ints, -List.map_take, -List.all_map, b, pv]
      · have a' : (!decide (0 ≤ y) || !decide (y < w)) = true := by simp -dsimp; omega
        have pv : pR w hs k = some (-1, (k : Int)) := by unfold pR; rw [hv]; dsimp only; rw [if_neg (fun z => a z.1)]
        simp -dsimp [a', pv, excR]) [some (.tup (hs.map .int)), some (.int w), none, none] ⟨_, _, rfl⟩
  have nl : (M.numbered (hs.map T.int)).length = hs.length := by unfold M.numbered; simp -dsimp
  rw [nl] at e'
  show outD (b_check_params _ h) = _
  unfold b_check_params
  simp -dsimp
  rw [e']
  cases firstR (pR w hs) 0 hs.length <;> rfl

theorem block_loop {e : Nat} {ds : List T} (hd : ∀ d ∈ ds, Dd d) (f : FlAt h i w ps rs bs) (hr : (rs.length : Int) = r) (hn : (bs.length : Int) = n) (u v : Option T) :
    ∃ u' v', sForL (aTup 2 (aCons (aName 3) (aCons (aName 4) aNil))) l1_check_blocks (M.numbered ds) [some (.obj i), some (.int e), some (.tup ds), u, v] h = .ok (match firstR (dR w r n e ds) 0 ds.length with | none => .nx [some (.obj i), some (.int e), some (.tup ds), u', v'] | some x => .xc (excR x) [some (.obj i), some (.int e), some (.tup ds), u', v']) h := by
  obtain ⟨τ', ⟨u', v', rfl⟩, e'⟩ := for_first (R := Int × Int) (a := aTup 2 (aCons (aName 3) (aCons (aName 4) aNil))) (b := l1_check_blocks) (h := h) (fun τ => ∃ u v, τ = [some (.obj i), some (.int e), some (.tup ds), u, v]) (fun x τ => .xc (excR x) τ) (dR w r n e ds) (fun r τ => .inr ⟨_, _, rfl⟩) (M.numbered ds) 0 (by
    rintro k x τ hx ⟨u, v, rfl⟩
    unfold M.numbered at hx
    rw [List.getElem?_mapIdx] at hx
    cases hv : ds[k]? with
    | none => rw [hv] at hx; cases hx
    | some t =>
      rw [hv] at hx
      simp at hx
      subst hx
      have hk : k < ds.length := (List.getElem?_eq_some_iff.mp hv).1
      have dt := hd t (List.mem_of_getElem? hv)
      have kp := (fits_same (w := w) (r := r) (n := n) (e := e) dt).2 h i ps rs bs f hr hn
      obtain ⟨z, es, rfl⟩ : ∃ z es, t = .tup (.str z :: es) := by cases dt <;> exact ⟨_, _, rfl⟩
      refine ⟨[some (.obj i), some (.int e), some (.tup ds), some (.int k), some (.tup (.str z :: es))], [some (.obj i), some (.int e), some (.tup ds), some (.int k), some (.tup (.str z :: es))], by simp -dsimp, ⟨_, _, rfl⟩, ?_⟩
      have pv : dR w r n e ds k = if fB w r n e (.tup (.str z :: es)) = true ∧ isE z = decide (k + 1 = ds.length) then none else some ((e : Int), (k : Int)) := by unfold dR; rw [hv]; rfl
      have kl : ((k : Int) = (ds.length : Int) - 1) = (k + 1 = ds.length) := propext (by omega)
      apply Wp.eq
      unfold l1_check_blocks
      rw [Nat.zero_add]
      simp -dsimp [kp]
      generalize fB w r n e (.tup (.str z :: es)) = bb at pv ⊢
      cases bb with
      | false => simp -dsimp [pv, excR]
      | true =>
        simp -dsimp [is_end_eq, kl]
        by_cases y : isE z = decide (k + 1 = ds.length)
        · simp -dsimp [pv, y]
        · simp -dsimp [pv, y, excR]) [some (.obj i), some (.int e), some (.tup ds), u, v] ⟨_, _, rfl⟩
  have nl : (M.numbered ds).length = ds.length := by unfold M.numbered; simp -dsimp
  rw [nl] at e'
  refine ⟨u', v', ?_⟩
  rw [e']
  cases firstR (dR w r n e ds) 0 ds.length <;> rfl
theorem blocks_eq (hb : Bks bs) (f : FlAt h i w ps rs bs) (hr : (rs.length : Int) = r) (hn : (bs.length : Int) = n) : m_check_blocks [.obj i] h = match blR w r n bs with | none => .ok .non h | some x => .exc (excR x) h := by
  obtain ⟨τ', ⟨u1, u2, u3, u4, hτ⟩, e'⟩ := for_first (R := Int × Int) (a := aTup 2 (aCons (aName 1) (aCons (aName 2) aNil))) (b := l2_check_blocks) (h := h) (fun τ => ∃ u1 u2 u3 u4, τ = [some (.obj i), u1, u2, u3, u4]) (fun x τ => .xc (excR x) τ) (bR w r n bs) (fun r τ => .inr ⟨_, _, rfl⟩) (M.numbered bs) 0 (by
    rintro k x τ hx ⟨u1, u2, u3, u4, rfl⟩
    unfold M.numbered at hx
    rw [List.getElem?_mapIdx] at hx
    cases hv : bs[k]? with
    | none => rw [hv] at hx; cases hx
    | some t =>
      rw [hv] at hx
      simp at hx
      subst hx
      obtain ⟨ds, rfl, _, hd⟩ := hb.2 t (List.mem_of_getElem? hv)
      obtain ⟨v3, v4, eb⟩ := block_loop (e := k) hd f hr hn u3 u4
      have pv : bR w r n bs k = if ds = [] then some ((k : Int), 0) else firstR (dR w r n k ds) 0 ds.length := by unfold bR; rw [hv]
      rw [Nat.zero_add]
      by_cases z : ds = []
      · subst z
        refine ⟨[some (.obj i), some (.int k), some (.tup []), u3, u4], [some (.obj i), some (.int k), some (.tup []), u3, u4], by simp -dsimp, ⟨_, _, _, _, rfl⟩, ?_⟩
        apply Wp.eq
        unfold l2_check_blocks
        simp -dsimp [pv, excR]
      · refine ⟨[some (.obj i), some (.int k), some (.tup ds), u3, u4], [some (.obj i), some (.int k), some (.tup ds), v3, v4], by simp -dsimp, ⟨_, _, _, _, rfl⟩, ?_⟩
        apply Wp.eq
        unfold l2_check_blocks
        have z' : ds.isEmpty = false := by cases ds with | nil => exact absurd rfl z | cons _ _ => rfl
        simp -dsimp [z']
        rw [eb, pv, if_neg z]
        cases firstR (dR w r n k ds) 0 ds.length <;> simp -dsimp) [some (.obj i), none, none, none, none] ⟨_, _, _, _, rfl⟩
  have nl : (M.numbered bs).length = bs.length := by unfold M.numbered; simp -dsimp
  rw [nl] at e'
  unfold FlAt at f
  unfold blR
  by_cases z : bs = []
  · subst z
    show outD (b_check_blocks _ h) = _
    unfold b_check_blocks
    simp -dsimp [f, excR]
  · rw [if_neg z]
    show outD (b_check_blocks _ h) = _
    unfold b_check_blocks
    simp -dsimp [f, z]
    rw [e']
    cases firstR (bR w r n bs) 0 bs.length <;> rfl
end

theorem rng_get {m i : Nat} {x : T} (h : ((List.range m).map fun (i : Nat) => T.int (i : Int))[i]? = some x) : x = .int (i : Int) ∧ i < m := by
  rw [List.getElem?_map] at h
  cases e : (List.range m)[i]? with
  | none => rw [e] at h; cases h
  | some j =>
    rw [e] at h
    obtain ⟨hi, hj⟩ := List.getElem?_eq_some_iff.mp e
    simp at hj hi
    subst hj
    simp at h
    exact ⟨h.symm, hi⟩
theorem box_fold {w r n : Int} : T.dct [.inr "wide", .inr "rows", .inr "many", .inr "table"] [.int w, .int r, .int n, tabT] = boxT w r n := rfl
section
variable {h : AH} {w r n : Int} {i : Nat} {hs : List Int} {rs bs : List T} {x : T}
theorem lparams_eq (hl : hs.length ≤ 100) {A B : T} {u5 u6 u7 u8 : Option T} : ∃ v5 v6, sForL (aName 5) l1__law_fault ((List.range hs.length).map fun (i : Nat) => T.int (i : Int)) [some (.tup (hs.map .int)), some (.int w), some A, some B, some (boxT w r n), u5, u6, u7, u8] h = .ok (match firstR (pR w hs) 0 hs.length with | none => .nx [some (.tup (hs.map .int)), some (.int w), some A, some B, some (boxT w r n), v5, v6, u7, u8] | some x => .rt (ansT (some x))) h := by
  obtain ⟨τ', ⟨v5, v6, rfl⟩, e'⟩ := for_first (R := Int × Int) (a := aName 5) (b := l1__law_fault) (h := h) (fun τ => ∃ u5 u6, τ = [some (.tup (hs.map .int)), some (.int w), some A, some B, some (boxT w r n), u5, u6, u7, u8]) (fun x τ => .rt (ansT (some x))) (pR w hs) (fun r τ => .inl ⟨_, rfl⟩) ((List.range hs.length).map fun (i : Nat) => T.int (i : Int)) 0 (by
    rintro k x τ hx ⟨u, v, rfl⟩
    obtain ⟨rfl, hk⟩ := rng_get hx
    refine ⟨[some (.tup (hs.map .int)), some (.int w), some A, some B, some (boxT w r n), some (.int k), v, u7, u8], [some (.tup (hs.map .int)), some (.int w), some A, some B, some (boxT w r n), some (.int k), some (.int hs[k]), u7, u8], by simp -dsimp, ⟨_, _, rfl⟩, ?_⟩
    have hv : hs[k]? = some hs[k] := List.getElem?_eq_getElem hk
    have g1 : atI (hs.map T.int) (k : Int) = some (.int hs[k]) := by rw [atI_nat, List.getElem?_map, hv]; rfl
    have mk : min k hs.length = k := by omega
    have g2 : List.take k (hs.map T.int) = (hs.take k).map .int := by rw [List.map_take]
    apply Wp.eq
    unfold l1__law_fault
    rw [Nat.zero_add]
    have ev := entry_v (h := h) (w := w) (r := r) (n := n) (e := 0) (k := 39) (i := hs[k])
    simp -dsimp [g1, show m__law_entry = r__law_entry (39 + 1) from rfl, ev]
    by_cases a : 0 ≤ hs[k] ∧ hs[k] < w
    · by_cases b : hs[k] ∈ hs.take k
      · have pv : pR w hs k = some (-1, (k : Int)) := by unfold pR; rw [hv]; dsimp only; rw [if_neg (fun z => z.2 b)]
        simp -dsimp [a, mk, g2, inT_ints, -List.map_take, -List.all_map, b, pv, ansT]
      · have pv : pR w hs k = none := by unfold pR; rw [hv]; dsimp only; rw [if_pos ⟨a, b⟩]
        simp -dsimp [a, mk, g2, inT_ints, -List.map_take, -List.all_map, b, pv]
    · have a' : (!decide (0 ≤ hs[k]) || !decide (hs[k] < w)) = true := by simp -dsimp; omega
      have pv : pR w hs k = some (-1, (k : Int)) := by unfold pR; rw [hv]; dsimp only; rw [if_neg (fun z => a z.1)]
      simp -dsimp [a', pv, ansT]) [some (.tup (hs.map .int)), some (.int w), some A, some B, some (boxT w r n), u5, u6, u7, u8] ⟨_, _, rfl⟩
  rw [List.length_map, List.length_range] at e'
  refine ⟨v5, v6, ?_⟩
  rw [e']
  cases firstR (pR w hs) 0 hs.length <;> rfl
theorem lblock_loop {e : Nat} {ds : List T} (hd : ∀ d ∈ ds, Dd d) (g : Gx x h bs) (he : bs[e]? = some (.tup ds)) {A B C : T} {u5 u6 u8 : Option T} : ∃ v5 v8, sForL (aName 5) l2__law_fault ((List.range ds.length).map fun (i : Nat) => T.int (i : Int)) [some A, some B, some C, some x, some (boxT w r n), u5, u6, some (.int e), u8] h = .ok (match firstR (dR w r n e ds) 0 ds.length with | none => .nx [some A, some B, some C, some x, some (boxT w r n), v5, u6, some (.int e), v8] | some x => .rt (ansT (some x))) h := by
  obtain ⟨τ', ⟨v5, v8, rfl⟩, e'⟩ := for_first (R := Int × Int) (a := aName 5) (b := l2__law_fault) (h := h) (fun τ => ∃ u5 u8, τ = [some A, some B, some C, some x, some (boxT w r n), u5, u6, some (.int e), u8]) (fun x τ => .rt (ansT (some x))) (dR w r n e ds) (fun r τ => .inl ⟨_, rfl⟩) ((List.range ds.length).map fun (i : Nat) => T.int (i : Int)) 0 (by
    rintro k y τ hx ⟨u, v, rfl⟩
    obtain ⟨rfl, hk⟩ := rng_get hx
    have hv : ds[k]? = some ds[k] := List.getElem?_eq_getElem hk
    have dt := hd _ (List.getElem_mem hk)
    generalize ds[k] = t at hv dt
    have lf := (fits_same (w := w) (r := r) (n := n) (e := e) dt).1
    obtain ⟨z, es, rfl⟩ : ∃ z es, t = .tup (.str z :: es) := by cases dt <;> exact ⟨_, _, rfl⟩
    refine ⟨[some A, some B, some C, some x, some (boxT w r n), some (.int k), u6, some (.int e), v], [some A, some B, some C, some x, some (boxT w r n), some (.int k), u6, some (.int e), some (.tup (.str z :: es))], by simp -dsimp, ⟨_, _, rfl⟩, ?_⟩
    have pv : dR w r n e ds k = if fB w r n e (.tup (.str z :: es)) = true ∧ isE z = decide (k + 1 = ds.length) then none else some ((e : Int), (k : Int)) := by unfold dR; rw [hv]; rfl
    have kl : ((k : Int) = (ds.length : Int) - 1) = (k + 1 = ds.length) := propext (by omega)
    have a0 : ∀ l : List T, atI (T.str z :: l) 0 = some (.str z) := fun l => at_0
    have hbe : atI bs (e : Int) = some (.tup ds) := by rw [atI_nat, he]
    have hdk : atI ds (k : Int) = some (.tup (.str z :: es)) := by rw [atI_nat, hv]
    have is := inT_strs (z := z) (l := ["jump", "fork", "back"])
    simp only [List.map_cons, List.map_nil] at is
    rw [Nat.zero_add]
    generalize fB w r n e (.tup (.str z :: es)) = bb at pv lf
    rcases g with rfl | ⟨gg, rfl, hg⟩
    all_goals
      apply Wp.eq
      unfold l2__law_fault
      cases bb with
      | false => simp -dsimp [*, ansT]
      | true =>
        by_cases y : isE z = decide (k + 1 = ds.length)
        · unfold isE at y pv
          simp -dsimp [*]
        · unfold isE at y pv
          simp -dsimp [*, ansT]) [some A, some B, some C, some x, some (boxT w r n), u5, u6, some (.int e), u8] ⟨_, _, rfl⟩
  rw [List.length_map, List.length_range] at e'
  refine ⟨v5, v8, ?_⟩
  rw [e']
  cases firstR (dR w r n e ds) 0 ds.length <;> rfl

theorem lblocks_eq (hb : Bks bs) (g : Gx x h bs) {A B C : T} {u5 u6 u7 u8 : Option T} : ∃ v5 v7 v8, sForL (aName 7) l3__law_fault ((List.range bs.length).map fun (i : Nat) => T.int (i : Int)) [some A, some B, some C, some x, some (boxT w r n), u5, u6, u7, u8] h = .ok (match firstR (bR w r n bs) 0 bs.length with | none => .nx [some A, some B, some C, some x, some (boxT w r n), v5, u6, v7, v8] | some x => .rt (ansT (some x))) h := by
  obtain ⟨τ', ⟨v5, v7, v8, rfl⟩, e'⟩ := for_first (R := Int × Int) (a := aName 7) (b := l3__law_fault) (h := h) (fun τ => ∃ u5 u7 u8, τ = [some A, some B, some C, some x, some (boxT w r n), u5, u6, u7, u8]) (fun x τ => .rt (ansT (some x))) (bR w r n bs) (fun r τ => .inl ⟨_, rfl⟩) ((List.range bs.length).map fun (i : Nat) => T.int (i : Int)) 0 (by
    rintro k y τ hx ⟨u5, u7, u8, rfl⟩
    obtain ⟨rfl, hk⟩ := rng_get hx
    have hv : bs[k]? = some bs[k] := List.getElem?_eq_getElem hk
    obtain ⟨ds, ed, hl, hd⟩ := hb.2 _ (List.getElem_mem hk)
    rw [ed] at hv
    obtain ⟨v5, v8, eb⟩ := lblock_loop (w := w) (r := r) (n := n) (e := k) hd g hv (A := A) (B := B) (C := C) (u5 := u5) (u6 := u6) (u8 := u8)
    have pv : bR w r n bs k = if ds = [] then some ((k : Int), 0) else firstR (dR w r n k ds) 0 ds.length := by unfold bR; rw [hv]
    have hbe : atI bs (k : Int) = some (.tup ds) := by rw [atI_nat, hv]
    rw [Nat.zero_add]
    by_cases z : ds = []
    · refine ⟨[some A, some B, some C, some x, some (boxT w r n), u5, u6, some (.int k), u8], [some A, some B, some C, some x, some (boxT w r n), u5, u6, some (.int k), u8], by simp -dsimp, ⟨_, _, _, rfl⟩, ?_⟩
      subst z
      rcases g with rfl | ⟨gg, rfl, hg⟩
      all_goals
        apply Wp.eq
        unfold l3__law_fault
        simp -dsimp [*, ansT]
    · refine ⟨[some A, some B, some C, some x, some (boxT w r n), u5, u6, some (.int k), u8], [some A, some B, some C, some x, some (boxT w r n), v5, u6, some (.int k), v8], by simp -dsimp, ⟨_, _, _, rfl⟩, ?_⟩
      rw [pv, if_neg z]
      have rl : r62 (ds.length : Int) = true := r62_s (by omega) (by omega)
      rcases g with rfl | ⟨gg, rfl, hg⟩
      all_goals
        apply Wp.eq
        unfold l3__law_fault
        simp -dsimp [hbe, rl, z, eb, *]
        cases firstR (dR w r n k ds) 0 ds.length <;> simp -dsimp) [some A, some B, some C, some x, some (boxT w r n), u5, u6, u7, u8] ⟨_, _, _, rfl⟩
  rw [List.length_map, List.length_range] at e'
  refine ⟨v5, v7, v8, ?_⟩
  rw [e']
  cases firstR (bR w r n bs) 0 bs.length <;> rfl
theorem fault_eq (hl : hs.length ≤ 100) (hb : Bks bs) (g : Gx x h bs) (hr : (rs.length : Int) = r) (hn : (bs.length : Int) = n) : m__law_fault [.tup (hs.map .int), .int w, .tup rs, x] h = .ok (ansT (allR w r n hs bs)) (h ++ [none]) := by
  have g' : Gx x (h ++ [none]) bs := g.app
  obtain ⟨v5, v6, e1⟩ := lparams_eq (h := h ++ [none]) (w := w) (r := r) (n := n) hl (A := .tup rs) (B := x) (u5 := none) (u6 := none) (u7 := none) (u8 := none)
  obtain ⟨a5, a7, a8, e2⟩ := lblocks_eq (h := h ++ [none]) (w := w) (r := r) (n := n) hb g' (A := .tup (hs.map .int)) (B := .int w) (C := .tup rs) (u5 := v5) (u6 := v6) (u7 := none) (u8 := none)
  have rl : r62 (hs.length : Int) = true := r62_s (by omega) (by omega)
  have rb : r62 (bs.length : Int) = true := r62_s (by omega) (by have := hb.1; omega)
  have sq := g.seq
  have sq' := g'.seq
  have te := table_eq (h := h)
  subst hr hn
  have hga : ∀ gg : Nat, h[gg]? = some (some (.lst bs)) → (h ++ [none])[gg]? = some (some (.lst bs)) := fun gg hg => by rw [List.getElem?_append_left (PoolAt.lt hg)]; exact hg
  unfold allR blR
  rcases g with rfl | ⟨gg, rfl, hg⟩
  all_goals
    apply Wp.eq
    unfold m__law_fault b__law_fault
    try have hgb := hga gg hg
    simp -dsimp [*, mergeT, putT, box_fold]
    generalize firstR (pR w hs) 0 hs.length = ra at *
    generalize firstR (bR w (↑rs.length) (↑bs.length) bs) 0 bs.length = rb at *
    cases ra with
    | some y => simp -dsimp
    | none =>
      by_cases z : bs = []
      · simp -dsimp [*]
        subst z
        simp -dsimp [ansT]
      · have z1 : ¬ (bs.length : Int) = 0 := fun h => z (List.length_eq_zero_iff.mp (by omega))
        simp -dsimp [*]
        cases rb <;> simp -dsimp [ansT]
end

/-- a tree of numbers, texts and tuples -/
def okT : Nat → T → Prop
  | 0, t => (∃ i, t = .int i) ∨ ∃ z, t = .str z
  | n + 1, t => (∃ i, t = .int i) ∨ (∃ z, t = .str z) ∨ ∃ l, t = .tup l ∧ l.length ≤ 1000 ∧ ∀ x ∈ l, okT n x
theorem okT_int {n : Nat} {i : Int} : okT n (.int i) := by cases n <;> exact .inl ⟨i, rfl⟩
theorem okT_str {n : Nat} {z : Str} : okT n (.str z) := by cases n; exact .inr ⟨z, rfl⟩; exact .inr (.inl ⟨z, rfl⟩)
theorem okT_tup {n : Nat} {l : List T} (h : l.length ≤ 1000) (a : ∀ x ∈ l, okT n x) : okT (n + 1) (.tup l) := .inr (.inr ⟨l, rfl, h, a⟩)
theorem same_succ {k : Nat} : r__law_same (k + 1) = mDef 3 (b__law_same (r__law_same k)) := rfl
theorem same_refl : ∀ (n : Nat) (t : T), okT n t → ∀ h, r__law_same (n + 1) [t, t] h = .ok (.bl true) h := by
  have base : ∀ (k : Nat) (t : T), ((∃ i, t = .int i) ∨ ∃ z, t = .str z) → ∀ h, r__law_same (k + 1) [t, t] h = .ok (.bl true) h := by
    rintro k t (⟨i, rfl⟩ | ⟨z, rfl⟩) h
    · apply Wp.eq
      rw [same_succ]; unfold b__law_same
      simp -dsimp [tyOf, M.eqT]
    · apply Wp.eq
      rw [same_succ]; unfold b__law_same
      simp -dsimp [tyOf, M.eqT]
  intro n
  induction n with
  | zero => exact base 0
  | succ n ih =>
    intro t ht h
    rcases ht with ht | ht | ⟨l, rfl, hl, ha⟩
    · exact base _ t (.inl ht) h
    · exact base _ t (.inr ht) h
    · apply Wp.eq
      rw [same_succ]; unfold b__law_same
      have rl : r62 (l.length : Int) = true := r62_s (by omega) (by omega)
      simp -dsimp [tyOf, M.eqT, rl]
      refine Wp.of (lc_mapw (fun _ => .bl true) (by rw [List.length_map, List.length_range]; exact sz (by omega)) ?_) ?_
      · intro x hx
        obtain ⟨k, hk, rfl⟩ := List.mem_map.mp hx
        have hk := List.mem_range.mp hk
        refine ⟨_, rfl, ?_⟩
        unfold e1__law_same
        have g1 : atI l (k : Int) = some l[k] := by rw [atI_nat, List.getElem?_eq_getElem hk]
        have e := ih l[k] (ha _ (List.getElem_mem hk)) h
        simp -dsimp [wipeT, g1, e]
      · rw [List.map_map]
        have := bools_map (f := fun _ : Nat => true) (l := List.range l.length)
        simp -dsimp [-bools, Function.comp_def, this]
theorem same_ok {t : T} (ht : okT 39 t) {h : AH} : m__law_same [t, t] h = .ok (.bl true) h := same_refl 39 t ht h
section
variable {h : AH} {w r n : Int} {hs : List Int} {rs bs : List T} {x : T}
def flF (hs : List Int) (w : Int) (rs bs : List T) : List (Str × T) := [("name", .str "f1"), ("params", .tup (hs.map .int)), ("count", .int w), ("arrays", .tup rs), ("blocks", .tup bs)]
theorem init_wp {P : T → AH → Prop} {X : Exc → AH → Prop} (hl : hs.length ≤ 100) (hb : Bks bs) (hr : (rs.length : Int) = r) (hn : (bs.length : Int) = n) (q1 : allR w r n hs bs = none → P .non (h ++ [some (.ins "Flow" (flF hs w rs bs))])) (q2 : ∀ y, allR w r n hs bs = some y → X (excR y) (h ++ [some (.ins "Flow" (flF hs w rs bs))])) : Wp (m_Flow___init__ [.obj h.length, .str "f1", .tup (hs.map .int), .int w, .tup rs, .tup bs] (h ++ [some (.ins "Flow" [])])) P X := by
  have sn : ∀ o o', (h ++ [o]).set h.length o' = h ++ [o'] := fun o o' => set_new
  have lc : ∀ {τ : LS} {h' : AH}, mLcL (aName 6) mYes e1_Flow___init__ (wipeT [some (.obj h.length), some (.str "f1"), some (.tup (hs.map .int)), some (.int w), some (.tup rs), some (.tup bs), none] [6]) 0 bs h' = .ok bs h' := by
    intro τ h'
    have := lc_mapw (h := h') (a := aName 6) (fe := e1_Flow___init__) (τ := wipeT [some (.obj h.length), some (.str "f1"), some (.tup (hs.map .int)), some (.int w), some (.tup rs), some (.tup bs), none] [6]) (l := bs) (n := 0) (fun x => x) (sz (by have := hb.1; omega)) (by
      intro x hx
      obtain ⟨ds, rfl, _, _⟩ := hb.2 x hx
      refine ⟨_, rfl, ?_⟩
      unfold e1_Flow___init__
      simp -dsimp [wipeT])
    rw [this, List.map_id']
  have fl : FlAt (h ++ [some (.ins "Flow" (flF hs w rs bs))]) h.length w (hs.map .int) rs bs := get_new
  have pe := params_eq (h := h ++ [some (.ins "Flow" (flF hs w rs bs))]) (w := w) hl
  have be := blocks_eq hb fl hr hn
  unfold m_Flow___init__ b_Flow___init__
  simp -dsimp [putFT, lc (τ := [])]
  unfold allR at q1 q2
  unfold flF at *
  rw [pe]
  generalize firstR (pR w hs) 0 hs.length = ra at *
  cases ra with
  | some y =>
    simp -dsimp
    exact q2 y rfl
  | none =>
    simp -dsimp
    rw [be]
    dsimp only at q1 q2
    generalize blR w r n bs = rb at *
    cases rb with
    | none => simp -dsimp; exact q1 rfl
    | some y => simp -dsimp; exact q2 y rfl
theorem same_fl : M.frz 8 (h ++ [some (.ins "Flow" (flF hs w rs bs))]) (.obj h.length) = (.inst "Flow" ["name", "params", "count", "arrays", "blocks"] [.str "f1", .tup (hs.map .int), .int w, .tup rs, .tup bs], h ++ [none]) := by
  have g : (h ++ [some (O.ins "Flow" (flF hs w rs bs))])[h.length]? = some (some (.ins "Flow" (flF hs w rs bs))) := get_new
  show M.frz (7 + 1) _ (.obj h.length) = _
  unfold M.frz
  dsimp only
  rw [g]
  dsimp only [flF, List.map_cons, List.map_nil]
  rw [frzL_no (by simp -dsimp)]
  dsimp only
  rw [set_new]
  rfl
theorem parts_eq {A B C D E : T} : m_Flow_parts [.inst "Flow" ["name", "params", "count", "arrays", "blocks"] [A, B, C, D, E]] h = .ok (.tup [A, B, C, D, E]) h := by
  apply Wp.eq
  unfold m_Flow_parts b_Flow_parts
  simp -dsimp
theorem tried_wp {P : T → AH → Prop} {X : Exc → AH → Prop} (hl : hs.length ≤ 100) (hb : Bks bs) (hob : ∀ b ∈ bs, okT 37 b) (g : Gx x h bs) (hr : (rs.length : Int) = r) (hn : (bs.length : Int) = n) (hor : okT 38 (.tup rs)) (q : ∀ o, P (ansT (allR w r n hs bs)) (h ++ [o])) : Wp (m__law_tried [.tup (hs.map .int), .int w, .tup rs, x] h) P X := by
  have o1 : okT 38 (.tup (hs.map .int)) := okT_tup (by rw [List.length_map]; omega) (by intro y hy; obtain ⟨i, _, rfl⟩ := List.mem_map.mp hy; exact okT_int)
  have o2 : okT 38 (.tup bs) := okT_tup (by have := hb.1; omega) hob
  have s1 := fun h => same_ok (h := h) (t := .tup [.str "f1", .tup (hs.map .int), .int w]) (okT_tup (by simp -dsimp) (by simp -dsimp; exact ⟨okT_str, o1, okT_int⟩))
  have s2 := fun h => same_ok (h := h) (t := .tup [.tup rs, .tup bs]) (okT_tup (by simp -dsimp) (by simp -dsimp; exact ⟨hor, o2⟩))
  have s3 := fun h => same_ok (h := h) (t := .tup [.str "f1", .tup (hs.map .int), .int w, .tup rs, .tup bs]) (okT_tup (by simp -dsimp) (by simp -dsimp; exact ⟨okT_str, o1, okT_int, hor, o2⟩))
  have tail : ∀ {P' X'}, (allR w r n hs bs = none → P' .non (h ++ [some (.ins "Flow" (flF hs w rs bs))])) → (∀ y, allR w r n hs bs = some y → X' (excR y) (h ++ [some (.ins "Flow" (flF hs w rs bs))])) → Wp (m_Flow___init__ [.obj h.length, .str "f1", .tup (hs.map .int), .int w, .tup rs, .tup bs] (h ++ [some (.ins "Flow" [])])) P' X' := fun q1 q2 => init_wp hl hb hr hn q1 q2
  rcases g with rfl | ⟨gg, rfl, hg⟩
  all_goals
    unfold m__law_tried b__law_tried
    simp -dsimp [*]
    refine tail (fun er => ?_) (fun y er => ?_)
    · have := q none
      rw [er] at this
      simp -dsimp [same_fl, s1, s2, s3, parts_eq]
      exact this
    · have := q (some (.ins "Flow" (flF hs w rs bs)))
      rw [er] at this
      simp -dsimp [excR, noXc, unname]
      exact this
end

theorem Sh.ok {c : Str} {x : T} (s : Sh c x) : okT 35 x := by
  cases s with
  | v => exact okT_int
  | n => exact okT_int
  | p _ => exact okT_int
  | j => exact okT_int
  | k => exact okT_int
  | o => exact okT_str
  | ri => exact okT_int
  | rs => exact okT_str
  | g => exact okT_str
  | s hl => exact okT_tup (by rw [List.length_map]; omega) (by intro y hy; obtain ⟨i, _, rfl⟩ := List.mem_map.mp hy; exact okT_int)
  | m hl => exact okT_tup (by rw [List.length_map]; omega) (by intro y hy; obtain ⟨i, _, rfl⟩ := List.mem_map.mp hy; exact okT_int)
  | a hl => exact okT_tup (by rw [List.length_map]; omega) (by
      intro y hy; obtain ⟨i, _, rfl⟩ := List.mem_map.mp hy
      exact okT_tup (by simp -dsimp) (by simp -dsimp; exact ⟨okT_str, okT_int⟩))
theorem S2.ok {ls : List Str} {es : List T} (s : S2 ls es) : ∀ x ∈ es, okT 35 x := by
  induction s with
  | nil => intro x hx; cases hx
  | cons s _ ih =>
    intro x hx
    rcases List.mem_cons.mp hx with rfl | hx
    · exact s.ok
    · exact ih x hx
/-- letters of single entries -/
def Lsg (c : Str) : Prop := c = "v" ∨ c = "n" ∨ c = "p" ∨ c = "j" ∨ c = "k" ∨ c = "o" ∨ c = "r" ∨ c = "a" ∨ c = "g"
section
variable {p : Nat} {h : AH} {w r n e : Int} {P : T → AH → Prop} {X : Exc → AH → Prop} {x : T}
theorem odd_wp {c : Str} (hc : Lsg c) (hp : Pl p h) (hs : Sh c x) (q : ∀ y h', Sh c y → Ht p h h' → P y h') : Wp (m__law_odd [.obj p, .str c, x, boxT w r n, .int e] h) P X := by
  rcases hc with rfl | rfl | rfl | rfl | rfl | rfl | rfl | rfl | rfl
  all_goals
    unfold m__law_odd b__law_odd
    simp -dsimp
    refine pick_wp hp (by simp -dsimp) (by simp -dsimp) (fun y h1 hy t1 => ?_)
    simp -dsimp
    refine q _ _ ?_ t1
    simp at hy
  · rcases hy with rfl | rfl | rfl | rfl | rfl <;> exact .v
  · rcases hy with rfl | rfl | rfl | rfl <;> exact .n
  · rcases hy with rfl | rfl | rfl <;> exact .p (by decide)
  · rcases hy with rfl | rfl | rfl <;> exact .j
  · rcases hy with rfl | rfl | rfl | rfl | rfl <;> exact .k
  · rcases hy with rfl | rfl | rfl | rfl | rfl | rfl <;> exact .o
  · rcases hy with rfl | rfl | rfl <;> exact .ri
  · rcases hy with rfl | rfl
    · exact .a (l := []) (by simp -dsimp)
    · exact .a (l := List.replicate 9 ("f", 0)) (by simp -dsimp)
  · subst hy; exact hs
theorem oddrow_wp {is : List Int} (hp : Pl p h) (hl : is.length ≤ 20) (q : ∀ (js : List Int) h', js.length ≤ 21 → Ht p h h' → P (.tup (js.map .int)) h') : Wp (m__law_odd_row [.obj p, .tup (is.map .int), .int w] h) P X := by
  unfold m__law_odd_row b__law_odd_row
  simp -dsimp
  refine pick_wp hp (by simp -dsimp) (by simp -dsimp) (fun y h1 hy t1 => ?_)
  obtain ⟨v, rfl⟩ : ∃ v, y = .int v := by simp at hy; rcases hy with rfl | rfl | rfl | rfl <;> exact ⟨_, rfl⟩
  simp -dsimp
  have s1 : ∀ k : Nat, min k is.length + 1 ≤ sizeLine := fun k => sz (by omega)
  have s2 : ∀ k : Nat, min k is.length + 1 + (is.length - min k is.length) ≤ sizeLine := fun k => sz (by omega)
  have s3 : ∀ k : Nat, min k is.length + (is.length - min k is.length + 1) ≤ sizeLine := fun k => sz (by omega)
  have s4 : ∀ k : Nat, min k is.length + (is.length - min (k + 1) is.length + 1) ≤ sizeLine := fun k => sz (by omega)
  have s5 : ∀ k : Nat, min k is.length + 1 + (is.length - min (k + 1) is.length) ≤ sizeLine := fun k => sz (by omega)
  have rest : ∀ (h2 : AH) {Y}, Ht p h h2 → Wp (m__law_draw [.obj p, .int (if 1 < (is.length : Int) then (is.length : Int) else 1)] h2) (fun t h3 => ∃ k : Nat, t = .int k ∧ Ht p h h3 ∧ (k < is.length ∨ is = [] ∧ k = 0)) Y := by
    intro h2 Y t2
    refine draw_wp t2.pl (by split <;> omega) (by split <;> omega) (fun k h3 b0 b1 t3 => ?_)
    refine ⟨k.toNat, by congr 1; omega, t2.trans t3, ?_⟩
    rcases is with _ | ⟨i, is⟩
    · right; simp at b1; exact ⟨rfl, by omega⟩
    · left; split at b1 <;> simp at b1 ⊢ <;> omega
  by_cases a : (is.length : Int) < 6
  · simp -dsimp [a]
    refine draw_wp t1.pl (by omega) (by omega) (fun k h2 a0 a1 t2 => ?_)
    simp -dsimp
    by_cases b : k = 0
    · simp -dsimp [b]
      refine draw_wp t2.pl (by omega) (by omega) (fun k h3 b0 b1 t3 => ?_)
      obtain ⟨k, rfl⟩ : ∃ i : Nat, k = i := ⟨k.toNat, by omega⟩
      simp -dsimp [s1, s2, s3]
      have := q (is.take (min k is.length) ++ v :: (is.drop (min k is.length)).take (is.length - min k is.length)) h3 (by simp -dsimp; omega) (t1.trans (t2.trans t3))
      rw [List.map_append, List.map_cons, List.map_take, List.map_take, List.map_drop] at this
      exact this
    · simp -dsimp [b]
      refine (rest h2 (t1.trans t2)).mono ?_ (fun _ _ h => h)
      rintro _ h3 ⟨k, rfl, t3, hk⟩
      simp -dsimp [s1, s4, s5]
      have := q (is.take (min k is.length) ++ v :: (is.drop (min (k + 1) is.length)).take (is.length - min (k + 1) is.length)) h3 (by simp -dsimp; omega) t3
      rw [List.map_append, List.map_cons, List.map_take, List.map_take, List.map_drop] at this
      exact this
  · simp -dsimp [a]
    refine (rest h1 t1).mono ?_ (fun _ _ h => h)
    rintro _ h3 ⟨k, rfl, t3, hk⟩
    simp -dsimp [s1, s4, s5]
    have := q (is.take (min k is.length) ++ v :: (is.drop (min (k + 1) is.length)).take (is.length - min (k + 1) is.length)) h3 (by simp -dsimp; omega) t3
    rw [List.map_append, List.map_cons, List.map_take, List.map_take, List.map_drop] at this
    exact this
end

theorem Gd.ms_inv {w r n e : Int} {c : Str} {x : T} (g : Gd w r n e c x) (hc : c = "m" ∨ c = "s") : ∃ l : List Int, x = .tup (l.map .int) ∧ l.length ≤ 20 := by
  cases g with
  | s h _ => exact ⟨_, rfl, h⟩
  | m h _ => exact ⟨_, rfl, h⟩
  | _ => exact absurd hc (by decide)
theorem Sh.m_inv {c : Str} {x : T} (g : Sh c x) (hc : c = "m") : ∃ l : List Int, x = .tup (l.map .int) ∧ l.length ≤ 30 := by
  cases g with
  | m h => exact ⟨_, rfl, h⟩
  | _ => exact absurd hc (by decide)
theorem tr_moves : ∀ x ∈ TR, x.1 = ("moves" : Str) → x.2.1 = (["m", "m"] : List Str) := tr_all (by simp -dsimp)
theorem s2_dd {z : Str} {ls ks : List Str} {es : List T} (hm : (z, ls, ks) ∈ TR) (s : S2 ls es) : Dd (.tup (.str z :: es)) := by
  by_cases hz : z = "moves"
  · subst hz
    have := tr_moves _ hm rfl
    dsimp only at this
    subst this
    rcases es with _ | ⟨x, es⟩
    · cases s
    rcases es with _ | ⟨y, es⟩
    · cases s with | cons _ s => cases s
    cases s with
    | cons s1 s =>
      cases s with
      | cons s2 s =>
        cases s
        obtain ⟨is, rfl, hi⟩ := s1.m_inv rfl
        obtain ⟨js, rfl, hj⟩ := s2.m_inv rfl
        exact .moves hi hj
  · exact .row hm hz s
theorem GD.out {w r n e : Int} {last : Bool} {d : T} (g : GD w r n e last d) : ∃ z ls ks es, (z, ls, ks) ∈ TR ∧ G2 w r n e ls es ∧ d = .tup (.str z :: es) := by
  cases g with
  | row hm _ g _ => exact ⟨_, _, _, _, hm, g, rfl⟩
  | moves a b c d f => exact ⟨_, ["m", "m"], ["tos", "froms"], _, by simp -dsimp [TR], .cons (.m b d) (.cons (.m (by omega) f) .nil), rfl⟩
def D2 (t : T) : Prop := Dd t ∧ okT 36 t
theorem d2_of {z : Str} {es : List T} (d : Dd (.tup (.str z :: es))) (hl : es.length ≤ 20) (ho : ∀ x ∈ es, okT 35 x) : D2 (.tup (.str z :: es)) :=
  ⟨d, okT_tup (by simp -dsimp; omega) (by intro x hx; rcases List.mem_cons.mp hx with rfl | hx; exact okT_str; exact ho x hx)⟩
theorem S2.set {ls : List Str} {es : List T} (s : S2 ls es) : ∀ {k : Nat} {c : Str} {y : T}, ls[k]? = some c → Sh c y → S2 ls (es.set k y) := by
  induction s with
  | nil => intro k c y h _; simp at h
  | cons g s ih =>
    intro k c y h hy
    cases k with
    | zero => simp at h; subst h; exact .cons hy s
    | succ k => exact .cons g (ih (by simpa using h) hy)
theorem G2.get {w r n e : Int} {ls : List Str} {es : List T} (g : G2 w r n e ls es) : ∀ {k : Nat}, k < ls.length → ∃ c x, ls[k]? = some c ∧ es[k]? = some x ∧ Gd w r n e c x := by
  induction g with
  | nil => intro k h; simp at h
  | cons g _ ih =>
    intro k h
    cases k with
    | zero => exact ⟨_, _, rfl, rfl, g⟩
    | succ k => simpa using ih (k := k) (by simpa using h)
theorem tr_let : ∀ x ∈ TR, ∀ c ∈ x.2.1, c = "m" ∨ c = "s" ∨ Lsg c := tr_all (by simp -dsimp [Lsg])
theorem GD.d2 {w r n e : Int} {last : Bool} {d : T} (g : GD w r n e last d) : D2 d := by
  obtain ⟨z, ls, ks, es, hm, g2, rfl⟩ := g.out
  have hl4 := (tr_len _ hm).1
  dsimp only at hl4
  exact d2_of (s2_dd hm g2.s2) (by rw [g2.len]; omega) g2.s2.ok
theorem Dd.noObj {d : T} (h : Dd d) : isObj d = false := by cases h <;> rfl
section
variable {p : Nat} {h : AH} {w r n e : Int} {P : T → AH → Prop} {X : Exc → AH → Prop} {d : T} {last : Bool}
theorem entry_bent_wp (hp : Pl p h) (g : GD w r n e last d) (q : ∀ t h', D2 t → Ht p h h' → P t h') : Wp (m__law_entry_bent [.obj p, d, boxT w r n, .int e] h) P X := by
  obtain ⟨z, ls, ks, es, hm, g2, rfl⟩ := g.out
  obtain ⟨form, ht, hf, hn⟩ := tr_tab _ hm
  have hl4 := (tr_len _ hm).1
  have hlet := tr_let _ hm
  dsimp only at ht hf hn hl4 hlet
  have le := g2.len
  have lt : ∀ h, lookD tabT (.str z) h = some (some (.str form)) := fun h => by rw [← ht]; rfl
  have a0 : ∀ l : List T, atI (T.str z :: l) 0 = some (.str z) := fun l => at_0
  have hs : ls.length ≤ sizeLine := sz (by omega)
  have hs2 : es.length + 1 + 1 ≤ sizeLine := sz (by omega)
  unfold m__law_entry_bent b__law_entry_bent
  simp -dsimp [-lookD, a0, lt, hn, hs]
  by_cases z0 : ls = []
  · subst z0
    simp -dsimp [hs2]
    refine q _ _ (d2_of (.len hm (by simp -dsimp) (by simp at le; subst le; simp -dsimp)) (by simp at le; subst le; simp -dsimp) ?_) (Ht.refl hp)
    intro x hx
    rcases List.mem_append.mp hx with hx | hx
    · exact g2.s2.ok x hx
    · rw [List.mem_singleton] at hx; subst hx; exact okT_int
  · have z1 : 0 < ls.length := by cases ls; exact absurd rfl z0; simp -dsimp
    simp -dsimp [z0, hn, hs]
    refine draw_wp hp (by omega) (by omega) (fun k h1 b0 b1 t1 => ?_)
    obtain ⟨k, rfl⟩ : ∃ i : Nat, k = i := ⟨k.toNat, by omega⟩
    have hk : k < ls.length := by omega
    obtain ⟨c, x, hc, hx, gd⟩ := g2.get hk
    have h1' : Option.map (fun c => T.str ⟨#[c]⟩) (atI form.cps.toList (k : Int)) = some (.str c) := by
      rw [atI_nat, ← List.getElem?_map]
      have : form.cps.toList.map (fun c => T.str ⟨#[c]⟩) = ls.map .str := hf
      rw [this, List.getElem?_map, hc]; rfl
    have h2' : atI (T.str z :: es) ((k : Int) + 1) = some x := by
      rw [show (k : Int) + 1 = ((k + 1 : Nat) : Int) by omega, atI_nat]
      simpa using hx
    simp -dsimp [-lookD, h2', h1', hn, hs]
    have ic := inT_strs (z := c) (l := ["m", "s"])
    simp only [List.map_cons, List.map_nil] at ic
    have hix : ixN (es.length + 1) ((k : Int) + 1) = some (k + 1) := ixN_nat1 (by omega)
    have t2 : Ht p h (h1 ++ [some (O.lst (T.str z :: es))]) := t1.trans (Ht.new t1.pl)
    have fin : ∀ (y : T) (h2 : AH), Sh c y → Ht p (h1 ++ [some (O.lst (T.str z :: es))]) h2 → ∃ l h3, l = (T.str z :: es).set (k + 1) y ∧ frz 8 (h2.set h1.length (some (.lst l))) (.obj h1.length) = (.lst l, h3) ∧ P (.tup l) h3 := by
      intro y h2 sy t3
      have hg := t3.at get_new (by have := t1.pl.lt; omega)
      have s2 := g2.s2.set hc sy
      refine ⟨_, _, rfl, frz_lst (l := (T.str z :: es).set (k + 1) y) (List.getElem?_set_self (PoolAt.lt hg)) ?_, ?_⟩
      · intro t ht
        rw [List.set_cons_succ] at ht
        rcases List.mem_cons.mp ht with rfl | ht
        · rfl
        · rcases List.mem_or_eq_of_mem_set ht with ht | rfl
          · exact g2.noObj t ht
          · cases sy <;> rfl
      · rw [List.set_cons_succ]
        exact q _ _ (d2_of (s2_dd hm s2) (by rw [List.length_set, le]; omega) s2.ok) (((t2.trans t3).put (i := h1.length) (o := some (.lst _)) t1.len hp.lt).put t1.len hp.lt)
    by_cases cm : c = "m" ∨ c = "s"
    · have ic' : inT (.str c) [T.str "m", .str "s"] = true := by rw [ic]; simpa using cm
      obtain ⟨l, rfl, hl⟩ := gd.ms_inv cm
      simp -dsimp [ic']
      refine oddrow_wp (Ht.new t1.pl).pl hl (fun js h2 hj t3 => ?_)
      have sy : Sh c (.tup (js.map .int)) := by rcases cm with rfl | rfl; exact .m (by omega); exact .s (by omega)
      obtain ⟨l', h3, el, ef, pf⟩ := fin _ h2 sy t3
      have hg := t3.at get_new (by have := t1.pl.lt; omega)
      rw [List.set_cons_succ] at el
      subst el
      simp -dsimp [hg, hix, ef]
      exact pf
    · have ic' : inT (.str c) [T.str "m", .str "s"] = false := by rw [ic]; simpa using cm
      have hls : Lsg c := by
        rcases hlet c (List.mem_of_getElem? hc) with rfl | rfl | h
        · exact absurd (.inl rfl) cm
        · exact absurd (.inr rfl) cm
        · exact h
      simp -dsimp [ic', hn, hs, h1']
      refine odd_wp hls (Ht.new t1.pl).pl gd.sh (fun y h2 sy t3 => ?_)
      obtain ⟨l', h3, el, ef, pf⟩ := fin _ h2 sy t3
      have hg := t3.at get_new (by have := t1.pl.lt; omega)
      rw [List.set_cons_succ] at el
      subst el
      simp -dsimp [hg, hix, ef]
      exact pf
end

section
variable {p : Nat} {h : AH} {w r n e : Int} {P : T → AH → Prop} {X : Exc → AH → Prop} {d : T} {last : Bool}
theorem deed_bent_wp (hp : Pl p h) (g : GD w r n e last d) (q : ∀ t h', D2 t → Ht p h h' → P t h') : Wp (m__law_deed_bent [.obj p, d, boxT w r n, .int e] h) P X := by
  have eb : ∀ h1, Ht p h h1 → ∀ {P' Y}, (∀ t h', D2 t → Ht p h h' → P' t h') → Wp (m__law_entry_bent [.obj p, d, boxT w r n, .int e] h1) P' Y := fun h1 t1 {P' Y} q' => entry_bent_wp t1.pl g (fun t h' a b => q' t h' a (t1.trans b))
  obtain ⟨z, ls, ks, es, hm, g2, rfl⟩ := g.out
  have hl4 := (tr_len _ hm).1
  dsimp only at hl4
  have le := g2.len
  have s1 : es.length + 1 + 1 ≤ sizeLine := sz (by omega)
  unfold m__law_deed_bent b__law_deed_bent
  simp -dsimp
  refine draw_wp hp (by omega) (by omega) (fun k h1 b0 b1 t1 => ?_)
  simp -dsimp
  by_cases k0 : k = 0
  · simp -dsimp [k0, s1]
    refine q _ _ (d2_of (.len hm (by simp -dsimp; omega) (by simp -dsimp; omega)) (by simp -dsimp; omega) ?_) t1
    intro x hx
    rcases List.mem_append.mp hx with hx | hx
    · exact g2.s2.ok x hx
    · rw [List.mem_singleton] at hx; subst hx; exact okT_int
  have odd : ∀ {Y}, Wp (m__law_pick [.obj p, .lst [.str "", .str "Word", .str "nop", .str "jumps", .str "add", .str "skip ", .str "check"]] h1) (fun y h2 => ∃ z' ∈ ODD, y = .str z' ∧ Ht p h h2) Y := by
    intro Y
    refine pick_wp t1.pl (by simp -dsimp) (by simp -dsimp) (fun y h2 hy t2 => ?_)
    simp at hy
    rcases hy with rfl | rfl | rfl | rfl | rfl | rfl | rfl <;> exact ⟨_, by simp -dsimp [ODD], rfl, t1.trans t2⟩
  have ebq : ∀ {Y}, Wp (m__law_entry_bent [.obj p, .tup (.str z :: es), boxT w r n, .int e] h1) (fun t h' => D2 t ∧ Ht p h h') Y := eb h1 t1 (fun t h' a b => ⟨a, b⟩)
  by_cases k1 : k = 1
  · by_cases hes : 0 < es.length
    · have z1 : (1 : Int) < (es.length : Int) + 1 := by omega
      simp -dsimp [k1, z1]
      obtain ⟨m, hm'⟩ : ∃ m, es.length = m + 1 := ⟨es.length - 1, by omega⟩
      rw [hm']
      simp -dsimp
      refine q _ _ (d2_of (.len hm (by simp -dsimp; omega) (by simp -dsimp; omega)) (by simp -dsimp; omega) ?_) t1
      intro x hx
      exact g2.s2.ok x (List.mem_of_mem_take hx)
    · have z1 : ¬ (1 : Int) < (es.length : Int) + 1 := by omega
      simp -dsimp [k1, z1]
      refine ebq.mono ?_ (fun _ _ h => h)
      rintro t h2 ⟨a, b⟩
      simp -dsimp
      exact q _ _ a b
  by_cases k2 : k = 2
  · simp -dsimp [k2]
    refine odd.mono ?_ (fun _ _ h => h)
    rintro y h2 ⟨z', hz, rfl, t2⟩
    have s2 : 1 + es.length ≤ sizeLine := sz (by omega)
    have s3 : es.length + 1 ≤ sizeLine := sz (by omega)
    simp -dsimp [s2, s3]
    refine q _ _ (d2_of (.odd hz (by omega)) (by omega) g2.s2.ok) t2
  by_cases k3 : k = 3
  · simp -dsimp [k3]
    exact q _ _ (d2_of (.row (ls := []) (ks := []) (by simp -dsimp [TR]) (by simp -dsimp) .nil) (by simp -dsimp) (by simp -dsimp)) t1
  simp -dsimp [k0, k1, k2, k3]
  refine ebq.mono ?_ (fun _ _ h => h)
  rintro t h2 ⟨a, b⟩
  simp -dsimp
  exact q _ _ a b
/-- a block, good or bent -/
def BK (b : T) : Prop := ∃ ds, b = .tup ds ∧ ds.length ≤ 10 ∧ ∀ d ∈ ds, D2 d
theorem d2_noObj {ds : List T} (hd : ∀ d ∈ ds, D2 d) : ∀ t ∈ ds, isObj t = false := fun t ht => (hd t ht).1.noObj
theorem block_bent_wp {b : T} (hp : Pl p h) (w0 : 0 ≤ w) (w1 : w < 1000) (r0 : 0 ≤ r) (r1 : r < 1000) (n0 : 0 < n) (n1 : n < 1000) (e0 : 0 ≤ e) (g : GB w r n e b) (q : ∀ t h', BK t → Ht p h h' → P t h') : Wp (m__law_block_bent [.obj p, b, boxT w r n, .int e] h) P X := by
  obtain ⟨ds, hl, hd⟩ : ∃ ds, b = .tup ds ∧ (0 < ds.length ∧ ds.length ≤ 4) ∧ ∀ d ∈ ds, ∃ last, GD w r n e last d := by
    cases g with
    | mk hl hd hg => exact ⟨_, rfl, ⟨by simp -dsimp, by simp -dsimp; omega⟩, fun t ht => by
        rcases List.mem_append.mp ht with ht | ht
        · exact ⟨_, hd t ht⟩
        · rw [List.mem_singleton] at ht; subst ht; exact ⟨_, hg⟩⟩
  subst hl
  obtain ⟨⟨hl0, hl4⟩, hd⟩ := hd
  have hd2 : ∀ d ∈ ds, D2 d := fun d h => (hd d h).elim fun _ g => g.d2
  unfold m__law_block_bent b__law_block_bent
  simp -dsimp
  refine draw_wp hp (by omega) (by omega) (fun k h1 b0 b1 t1 => ?_)
  simp -dsimp
  by_cases k0 : k = 0
  · simp -dsimp [k0]
    exact q _ _ ⟨[], rfl, by simp -dsimp, by simp -dsimp⟩ t1
  by_cases k1 : k = 1
  · simp -dsimp [k1]
    exact q _ _ ⟨_, rfl, by simp -dsimp; omega, fun d h => hd2 d (List.mem_of_mem_take h)⟩ t1
  by_cases k2 : k = 2
  · simp -dsimp [k2]
    refine deed_wp t1.pl w0 w1 r0 r1 n0 n1 e0 (fun d h2 gd t2 => ?_)
    have s1 : ds.length + 1 ≤ sizeLine := sz (by omega)
    simp -dsimp [s1]
    refine q _ _ ⟨_, rfl, by simp -dsimp; omega, fun x h => ?_⟩ (t1.trans t2)
    rcases List.mem_append.mp h with h | h
    · exact hd2 x h
    · rw [List.mem_singleton] at h; subst h; exact gd.d2
  simp -dsimp [k0, k1, k2]
  refine draw_wp t1.pl (by omega) (by omega) (fun s h2 c0 c1 t2 => ?_)
  obtain ⟨s, rfl⟩ : ∃ i : Nat, s = i := ⟨s.toNat, by omega⟩
  have t02 := t1.trans t2
  have hs : s < ds.length := by omega
  simp -dsimp
  by_cases k3 : k = 3
  · simp -dsimp [k3]
    refine deed_wp t2.pl w0 w1 r0 r1 n0 n1 e0 (fun d h3 gd t3 => ?_)
    have s1 : min s ds.length + 1 ≤ sizeLine := sz (by omega)
    have s2 : min s ds.length + 1 + (ds.length - min s ds.length) ≤ sizeLine := sz (by omega)
    have s3 : min s ds.length + (ds.length - min s ds.length + 1) ≤ sizeLine := sz (by omega)
    simp -dsimp [s1, s2, s3]
    refine q _ _ ⟨_, rfl, by simp -dsimp; omega, fun x h => ?_⟩ (t02.trans t3)
    rcases List.mem_append.mp h with h | h
    · exact hd2 x (List.mem_of_mem_take h)
    · rcases List.mem_cons.mp h with rfl | h
      · exact gd.d2
      · exact hd2 x (List.mem_of_mem_drop (List.mem_of_mem_take h))
  have ix : ∀ i : Nat, i < ds.length → atI ds (i : Int) = some (ds[i]?.getD .non) ∧ (∃ last, GD w r n e last (ds[i]?.getD .non)) := fun i hi => by
    rw [atI_nat, List.getElem?_eq_getElem hi]
    exact ⟨rfl, hd _ (List.getElem_mem hi)⟩
  obtain ⟨ixs, ls, gs⟩ := ix s hs
  have iN : ∀ i : Nat, i < ds.length → ixN ds.length (i : Int) = some i := fun i hi => ixN_nat hi
  simp -dsimp [k3, ixs]
  have t3 := Ht.new (o := some (O.lst ds)) t2.pl
  refine deed_bent_wp t3.pl gs (fun y h4 dy t4 => ?_)
  have hg4 := t4.at get_new (by have := t2.pl.lt; omega)
  simp -dsimp [hg4, iN s hs]
  have t5 : Ht p h2 (h4.set h2.length (some (.lst (ds.set s y)))) := (t3.trans t4).put (Nat.le_refl _) t2.pl.lt
  have hg5 : (h4.set h2.length (some (.lst (ds.set s y))))[h2.length]? = some (some (.lst (ds.set s y))) := List.getElem?_set_self (PoolAt.lt hg4)
  generalize h4.set h2.length (some (O.lst (ds.set s y))) = h5 at t5 hg5 ⊢
  have fin : ∀ (es : List T) (h6 : AH), es.length = ds.length → (∀ d ∈ es, D2 d) → h6[h2.length]? = some (some (.lst es)) → Ht p h2 h6 → frz 8 h6 (.obj h2.length) = (.lst es, h6.set h2.length none) ∧ P (.tup es) (h6.set h2.length none) := fun es h6 le he hg t6 =>
    ⟨frz_lst hg (d2_noObj he), q _ _ ⟨es, rfl, by omega, he⟩ (t02.trans (t6.put (Nat.le_refl _) t2.pl.lt))⟩
  have he : ∀ d ∈ ds.set s y, D2 d := fun d h => by
    rcases List.mem_or_eq_of_mem_set h with h | rfl
    · exact hd2 d h
    · exact dy
  refine draw_wp t5.pl (by omega) (by omega) (fun o h6 d0 d1 t6 => ?_)
  obtain ⟨o, rfl⟩ : ∃ i : Nat, o = i := ⟨o.toNat, by omega⟩
  have ho : o < ds.length := by omega
  have hg6 := t6.at hg5 (by have := t2.pl.lt; omega)
  have fs : P (.tup (ds.set s y)) (h6.set h2.length none) := (fin _ h6 (by simp -dsimp) he hg6 (t5.trans t6)).2
  have ff := (fin _ h6 (by simp -dsimp) he hg6 (t5.trans t6)).1
  simp -dsimp
  by_cases k4 : k = 4 ∧ o ≠ s
  · obtain ⟨rfl, hos⟩ := k4
    obtain ⟨ixo, lo, go⟩ := ix o ho
    have hos' : ¬ ((o : Int) = (s : Int)) := by omega
    simp -dsimp [hos, hos', ixo]
    refine deed_bent_wp t6.pl go (fun z h7 dz t7 => ?_)
    have hg7 := t7.at hg6 (by have := t2.pl.lt; omega)
    have hg8 : (h7.set h2.length (some (.lst ((ds.set s y).set o z))))[h2.length]? = some (some (.lst ((ds.set s y).set o z))) := List.getElem?_set_self (PoolAt.lt hg7)
    have t8 : Ht p h2 (h7.set h2.length (some (.lst ((ds.set s y).set o z)))) := ((t5.trans t6).trans t7).put (Nat.le_refl _) t2.pl.lt
    have he2 : ∀ d ∈ (ds.set s y).set o z, D2 d := fun d h => by
      rcases List.mem_or_eq_of_mem_set h with h | rfl
      · exact he d h
      · exact dz
    obtain ⟨f1, f2⟩ := fin _ _ (by simp -dsimp) he2 hg8 t8
    simp -dsimp [hg7, iN o ho, f1]
    rw [List.set_set] at f2
    exact f2
  · have c4 : (decide (k = 4) && decide ((o : Int) ≠ (s : Int))) = false := by simp -dsimp; omega
    by_cases k4' : k = 4
    · have os : o = s := by omega
      simp -dsimp [k4', os, ff]
      exact fs
    · simp -dsimp [k4', ff]
      exact fs
theorem heads_bent_wp {hs : List Int} (hp : Pl p h) (hl : hs.length ≤ 6) (q : ∀ (is : List Int) h', is.length ≤ 7 → Ht p h h' → P (.tup (is.map .int)) h') : Wp (m__law_heads_bent [.obj p, .tup (hs.map .int), .int w] h) P X := by
  unfold m__law_heads_bent b__law_heads_bent
  have s1 : 4 + hs.length ≤ sizeLine := sz (by omega)
  have s2 : hs.length + 4 ≤ sizeLine := sz (by omega)
  simp -dsimp [s1, s2]
  refine pick_wp hp (by simp -dsimp) (by simp -dsimp; omega) (fun y h1 hy t1 => ?_)
  obtain ⟨v, rfl⟩ : ∃ v, y = .int v := by
    simp at hy
    rcases hy with rfl | rfl | rfl | rfl | ⟨a, _, rfl⟩ <;> exact ⟨_, rfl⟩
  simp -dsimp
  refine draw_wp t1.pl (by omega) (by omega) (fun k h2 a0 a1 t2 => ?_)
  obtain ⟨k, rfl⟩ : ∃ i : Nat, k = i := ⟨k.toNat, by omega⟩
  simp -dsimp
  have s3 : min k hs.length + 1 ≤ sizeLine := sz (by omega)
  have s4 : min k hs.length + 1 + (hs.length - min k hs.length) ≤ sizeLine := sz (by omega)
  have s5 : min k hs.length + (hs.length - min k hs.length + 1) ≤ sizeLine := sz (by omega)
  have s6 : min 5 hs.length + 1 ≤ sizeLine := sz (by omega)
  by_cases a : (hs.length : Int) < 6
  · simp -dsimp [a, s3, s4, s5]
    have := q (hs.take (min k hs.length) ++ v :: (hs.drop (min k hs.length)).take (hs.length - min k hs.length)) h2 (by simp -dsimp; omega) (t1.trans t2)
    rw [List.map_append, List.map_cons, List.map_take, List.map_take, List.map_drop] at this
    exact this
  · simp -dsimp [a, s6]
    have := q (hs.take (min 5 hs.length) ++ [v]) h2 (by simp -dsimp; omega) (t1.trans t2)
    rw [List.map_append, List.map_cons, List.map_take] at this
    exact this
end

theorem firstR_none {R : Type} {res : Nat → Option R} : ∀ (n k : Nat), (∀ i, k ≤ i → i < k + n → res i = none) → firstR res k n = none
  | 0, _, _ => rfl
  | n + 1, k, h => by
    show (match res k with | some r => some r | none => firstR res (k + 1) n) = none
    rw [h k (Nat.le_refl _) (by omega)]
    exact firstR_none n (k + 1) fun i a b => h i (by omega) (by omega)
theorem GB.bk {w r n e : Int} {b : T} (g : GB w r n e b) : BK b := by
  cases g with
  | mk hl hd hg => exact ⟨_, rfl, by simp -dsimp; omega, fun t ht => by
      rcases List.mem_append.mp ht with ht | ht
      · exact (hd t ht).d2
      · rw [List.mem_singleton] at ht; subst ht; exact hg.d2⟩
theorem bks_of {bs : List T} (hl : bs.length ≤ 320) (hb : ∀ b ∈ bs, BK b) : Bks bs ∧ ∀ b ∈ bs, okT 37 b := by
  refine ⟨⟨hl, fun b h => ?_⟩, fun b h => ?_⟩
  · obtain ⟨ds, rfl, hl, hd⟩ := hb b h
    exact ⟨ds, rfl, by omega, fun d h => (hd d h).1⟩
  · obtain ⟨ds, rfl, hl, hd⟩ := hb b h
    exact okT_tup (by omega) fun d h => (hd d h).2
theorem allR_none {w r n : Int} {hs : List Int} {bs : List T} (hn : hs.Nodup) (hi : ∀ i ∈ hs, 0 ≤ i ∧ i < w) (hb0 : bs ≠ []) (hb : ∀ (i : Nat) b, bs[i]? = some b → GB w r n i b) : allR w r n hs bs = none := by
  have e1 : firstR (pR w hs) 0 hs.length = none := firstR_none _ _ fun i _ h2 => by
    have hlt : i < hs.length := by omega
    unfold pR
    rw [List.getElem?_eq_getElem hlt]
    dsimp only
    rw [if_pos]
    refine ⟨hi _ (List.getElem_mem hlt), fun h => ?_⟩
    obtain ⟨j, hj, ej⟩ := List.mem_iff_getElem.mp h
    have hj' : j < i := by rw [List.length_take] at hj; omega
    rw [List.getElem_take] at ej
    exact absurd ((List.getElem_inj hn).mp ej) (by omega)
  have e2 : blR w r n bs = none := by
    unfold blR
    rw [if_neg hb0]
    refine firstR_none _ _ fun i _ h2 => ?_
    have hlt : i < bs.length := by omega
    have hv : bs[i]? = some bs[i] := List.getElem?_eq_getElem hlt
    have g := hb i _ hv
    generalize bs[i] = b at hv g
    unfold bR
    rw [hv]
    cases g with
    | mk hl hd hg =>
      rename_i ds d
      dsimp only
      rw [if_neg (by simp -dsimp)]
      refine firstR_none _ _ fun k _ hk => ?_
      unfold dR
      have hk' : k < (ds ++ [d]).length := by omega
      rw [List.getElem?_eq_getElem hk']
      dsimp only
      rw [if_pos]
      by_cases z : k < ds.length
      · rw [List.getElem_append_left z]
        have gd := hd _ (List.getElem_mem z)
        refine ⟨gd.fits, ?_⟩
        rw [gd.isend]; simp -dsimp; omega
      · have z' : k = ds.length := by simp at hk'; omega
        subst z'
        rw [List.getElem_append_right (Nat.le_refl _)]
        simp -dsimp
        exact ⟨hg.fits, hg.isend⟩
  unfold allR
  rw [e1, e2]
theorem same_ans {r : Option (Int × Int)} {h : AH} : m__law_same [ansT r, ansT r] h = .ok (.bl true) h := by
  cases r with
  | none =>
    apply Wp.eq
    rw [show m__law_same = r__law_same (39 + 1) from rfl, same_succ]; unfold b__law_same
    simp -dsimp [ansT]
  | some x => exact same_ok (okT_tup (by simp -dsimp) (by simp -dsimp; exact ⟨okT_int, okT_int⟩))
theorem getT_none {m : List (Key × T)} {k : Key} : getT m k = none ↔ ∀ x ∈ m, x.1 ≠ k := by
  unfold getT
  rw [Option.map_eq_none_iff, List.find?_eq_none]
  simp -dsimp
theorem getT_put {m : List (Key × T)} {k k' : Key} {v : T} (h : getT (putT m k v) k' = none) : getT m k' = none ∧ k' ≠ k := by
  rw [getT_none] at h ⊢
  unfold putT at h
  split at h
  · rename_i ha
    have hm : ∀ x ∈ m, x.1 ≠ k' := fun x hx e => by
      refine h (if x.1 = k then (x.1, v) else x) (List.mem_map.mpr ⟨x, hx, rfl⟩) ?_
      split <;> exact e
    refine ⟨hm, fun e => ?_⟩
    obtain ⟨x, hx, hk⟩ := List.any_eq_true.mp ha
    exact hm x hx ((of_decide_eq_true hk).trans e.symm)
  · refine ⟨fun x hx => h x (List.mem_append_left _ hx), fun e => ?_⟩
    exact h (k, v) (by simp -dsimp) e.symm
theorem putT_len {m : List (Key × T)} {k : Key} {v : T} : (putT m k v).length ≤ m.length + 1 := by
  unfold putT; split <;> simp -dsimp
theorem frz_box {h : AH} {q : Nat} {w r n : Int} (hq : h[q]? = some (some (.dct [(.inr "wide", .int w), (.inr "rows", .int r), (.inr "many", .int n), (.inr "table", tabT)]))) : frz 8 h (.obj q) = (boxT w r n, h.set q none) := by
  show M.frz (7 + 1) h (.obj q) = _
  unfold M.frz
  dsimp only
  rw [hq]
  dsimp only [List.map_cons, List.map_nil]
  rw [frzL_no (by simp -dsimp [tabT])]
  rfl
def rsOk (rs : List T) : Prop := rs.length ≤ 16 ∧ okT 38 (.tup rs)
theorem many_wp {p : Nat} {h : AH} {τ : LS} {P : T → AH → Prop} {X : Exc → AH → Prop} (hτ : slot τ 1 = some (.obj p)) (hp : Pl p h) (k : ∀ m h', 0 < m → m ≤ 320 → Ht p h h' → P (.int m) h') : Wp (mIfE (mB (mOp oEq (mCall 2 m__law_draw (mCons (mVar 1) (mCons (mC (.int 16)) mNil))) (mC (.int 0)))) (mC (.int 320)) (mOp oAdd (mC (.int 1)) (mCall 2 m__law_draw (mCons (mVar 1) (mCons (mC (.int 6)) mNil)))) τ h) P X := by
  simp -dsimp [hτ]
  refine draw_wp hp (by omega) (by omega) (fun i h1 a0 a1 t1 => ?_)
  simp -dsimp
  by_cases z : i = 0
  · simp -dsimp [z]
    exact k _ _ (by decide) (by decide) t1
  · simp -dsimp [z, hτ]
    refine draw_wp t1.pl (by omega) (by omega) (fun i h2 b0 b1 t2 => ?_)
    simp -dsimp
    exact k _ _ (by omega) (by omega) (t1.trans t2)

theorem law_true : ∀ ns : List Int, ns.length ≤ 63 → ∃ h', m_law [.rdl (ns.map .int)] [] = .ok (.bl true) h' := by
  intro ns hl
  have key : Wp (m_law [.rdl (ns.map .int)] []) (fun t _ => t = .bl true) (fun _ _ => False) := by
    unfold m_law b_law
    simp -dsimp
    refine pool_wp hl (fun h0 p0 => ?_)
    simp -dsimp
    refine pick_wp p0 (by simp -dsimp) (by simp -dsimp) (fun y h1 hy t1 => ?_)
    obtain ⟨w, rfl, w0, w1⟩ : ∃ w : Int, y = .int w ∧ 0 ≤ w ∧ w < 1000 := by
      simp at hy
      rcases hy with rfl | rfl | rfl | rfl | rfl | rfl | rfl | rfl <;> exact ⟨_, rfl, by decide, by decide⟩
    clear hy
    simp -dsimp
    refine pick_wp t1.pl (by simp -dsimp) (by simp -dsimp) (fun y h2 hy t2 => ?_)
    obtain ⟨rs, rfl, r16, ro⟩ : ∃ rs : List T, y = .tup rs ∧ rs.length ≤ 16 ∧ okT 38 (.tup rs) := by
      simp at hy
      rcases hy with rfl | rfl | rfl | rfl | rfl
      all_goals exact ⟨_, rfl, by simp -dsimp, okT_tup (by simp -dsimp) (by simp -dsimp [okT_int])⟩
    clear hy
    dsimp only
    rw [w_seq, w_set]
    refine many_wp rfl t2.pl (fun n h3 n0 n1 t3 => ?_)
    simp -dsimp [table_eq, mergeT, putT]
    refine ⟨szl (by decide), ?_⟩
    have hq4 : ∀ a b : Option O, (h3 ++ [a, b])[h3.length]? = some a := fun a b => by simp -dsimp
    have t4 : ∀ a b : Option O, Ht 0 h3 (h3 ++ [a, b]) := fun a b => by
      have := (Ht.new (o := a) t3.pl).trans (Ht.new (o := b) (Ht.new t3.pl).pl)
      simpa using this
    refine heads_wp (t4 _ _).pl w0 w1 (fun hs h5 hl6 hnd hin t5 => ?_)
    have hq5 := t5.at (hq4 _ _) (by have := t3.pl.lt; omega)
    have fb := frz_box hq5
    have t6 : Ht 0 h3 (h5.set h3.length none) := ((t4 _ _).trans t5).put (Nat.le_refl _) t3.pl.lt
    simp -dsimp [fb]
    generalize h5.set h3.length none = h6 at t6 ⊢
    refine grid_wp t6.pl w0 w1 (by omega) (by omega) n0 (by omega) (fun bs h7 hbl hgb hg7 t7 => ?_)
    have hbn : (bs.length : Int) = n := by omega
    have bks := bks_of (bs := bs) (by omega) (fun b hb => by
      obtain ⟨i, hi, rfl⟩ := List.mem_iff_getElem.mp hb
      exact (hgb i _ (List.getElem?_eq_getElem hi)).bk)
    have rn : allR w rs.length n hs bs = none := allR_none hnd hin (by intro z; subst z; simp at hbl; omega) hgb
    have gx : Gx (.obj h6.length) h7 bs := .inr ⟨_, rfl, hg7⟩
    have fe := fault_eq (w := w) (r := rs.length) (n := n) (hs := hs) (by omega) bks.1 gx rfl hbn
    rw [rn] at fe
    simp -dsimp [fe, ansT]
    have gx8 : Gx (.obj h6.length) (h7 ++ [none]) bs := gx.app
    refine tried_wp (r := rs.length) (n := n) (by omega) bks.1 bks.2 gx8 rfl hbn ro (fun o => ?_)
    rw [rn]
    simp -dsimp [ansT]
    have hd8 : (h7 ++ [none, o, some (O.dct [])])[h7.length + 2]? = some (some (.dct [])) := by simp -dsimp
    have hg8 : (h7 ++ [none, o, some (O.dct [])])[h6.length]? = some (some (.lst bs)) := by rw [List.getElem?_append_left (PoolAt.lt hg7)]; exact hg7
    have p8 : Pl 0 (h7 ++ [none, o, some (O.dct [])]) := by
      obtain ⟨x, e, q⟩ := t7.pl
      exact ⟨x, by rw [List.getElem?_append_left (PoolAt.lt e)]; exact e, q⟩
    have dn : (h7 ++ [none, o]).length = h7.length + 2 := by simp -dsimp
    rw [dn]
    have g0 : h6.length ≠ 0 := by have := t6.pl.lt; omega
    have gd : h6.length ≠ h7.length + 2 := by have := t7.len; omega
    generalize h7 ++ [none, o, some (O.dct [])] = h8 at hd8 hg8 p8 ⊢
    have d0 : h7.length + 2 ≠ 0 := by omega
    generalize h7.length + 2 = D at hd8 gd d0 ⊢
    generalize h6.length = G at *
    rw [fb]
    refine draw_wp p8 (by omega) (by omega) (fun k h9 a0 a1 t9 => ?_)
    simp -dsimp [r62_s (i := k) (by omega) (by omega)]
    have hg9 := t9.at hg8 g0
    have hd9 := t9.at hd8 d0
    refine wp_for (fun l τ h' => ∃ (bs : List T) (m : List (Key × T)) (u9 u10 : Option T), τ = [some (.rdl (ns.map .int)), some (.obj 0), some (.int w), some (.tup rs), some (.int n), some (boxT w rs.length n), some (.tup (hs.map .int)), some (.obj G), some (.obj D), u9, u10, none] ∧ bs.length = n.toNat ∧ m.length + l.length ≤ 4 ∧ (∀ (i : Nat) b, bs[i]? = some b → BK b ∧ (getT m (.inl (i : Int)) = none → GB w rs.length n i b)) ∧ h'[G]? = some (some (.lst bs)) ∧ h'[D]? = some (some (.dct m)) ∧ Pl 0 h') ⟨bs, [], none, none, rfl, hbl, by simp -dsimp; omega, fun i b hb => ⟨(hgb i b hb).bk, fun _ => hgb i b hb⟩, hg9, hd9, t9.pl⟩ ?_ ?_
    · rintro x xs τ h1 ⟨bs, m, u9, u10, rfl, hbl, hml, hb, hg, hd, pl⟩
      refine ⟨_, rfl, ?_⟩
      simp at hml
      unfold l1_law
      simp -dsimp
      refine draw_wp pl n0 (by omega) (fun a h2 b0 b1 t2 => ?_)
      obtain ⟨a, rfl⟩ : ∃ i : Nat, a = i := ⟨a.toNat, by omega⟩
      have hg2 := t2.at hg g0
      have hd2 := t2.at hd d0
      have ha : a < bs.length := by omega
      have hv : bs[a]? = some bs[a] := List.getElem?_eq_getElem ha
      simp -dsimp [hd2]
      have s4 : m.length < sizeLine := szl (by omega)
      cases e : getT m (.inl (a : Int)) with
      | some v =>
        simp -dsimp [hd2, s4]
        refine Kp.mk ⟨bs, putT m (.inl (a : Int)) (.bl true), _, _, rfl, hbl, by have := putT_len (m := m) (k := .inl (a : Int)) (v := .bl true); omega, fun i b hb' => ⟨(hb i b hb').1, fun hn => (hb i b hb').2 (getT_put hn).1⟩, ?_, ?_, ?_⟩
        · rw [List.getElem?_set_ne (Ne.symm gd)]; exact hg2
        · exact List.getElem?_set_self (PoolAt.lt hd2)
        · obtain ⟨x, ex, qx⟩ := t2.pl
          exact ⟨x, by rw [List.getElem?_set_ne d0]; exact ex, qx⟩
      | none =>
        have gb := (hb a _ hv).2 e
        have ia : atI bs (a : Int) = some bs[a] := by rw [atI_nat, hv]
        have iN : ixN bs.length (a : Int) = some a := ixN_nat ha
        simp -dsimp [hg2, ia]
        refine block_bent_wp t2.pl w0 w1 (by omega) (by omega) n0 (by omega) (by omega) gb (fun y h3 by' t3 => ?_)
        have hg3 := t3.at hg2 g0
        have hd3 := t3.at hd2 d0
        have hd4 : (h3.set G (some (.lst (bs.set a y))))[D]? = some (some (.dct m)) := by rw [List.getElem?_set_ne gd]; exact hd3
        simp -dsimp [hg3, iN, hd4, s4]
        refine Kp.mk ⟨bs.set a y, putT m (.inl (a : Int)) (.bl true), _, _, rfl, by simp -dsimp; exact hbl, by have := putT_len (m := m) (k := .inl (a : Int)) (v := .bl true); omega, ?_, ?_, ?_, ?_⟩
        · intro i b hb'
          by_cases z : i = a
          · subst z
            rw [List.getElem?_set_self ha] at hb'
            cases hb'
            exact ⟨by', fun hn => absurd rfl (getT_put hn).2⟩
          · rw [List.getElem?_set_ne (fun h => z h.symm)] at hb'
            exact ⟨(hb i b hb').1, fun hn => (hb i b hb').2 (getT_put hn).1⟩
        · rw [List.getElem?_set_ne (Ne.symm gd), List.getElem?_set_self (PoolAt.lt hg3)]
        · rw [List.getElem?_set_self (by rw [List.length_set]; exact PoolAt.lt hd3)]
        · obtain ⟨x, ex, qx⟩ := t3.pl
          exact ⟨x, by rw [List.getElem?_set_ne d0, List.getElem?_set_ne g0]; exact ex, qx⟩
    · rintro τ h1 ⟨bs, m, u9, u10, rfl, hbl, hml, hb, hg, hd, pl⟩
      have bk := bks_of (bs := bs) (by omega) (fun b hb' => by
        obtain ⟨i, hi, rfl⟩ := List.mem_iff_getElem.mp hb'
        exact (hb i _ (List.getElem?_eq_getElem hi)).1)
      have bk0 := bks_of (bs := []) (by simp -dsimp) (by simp -dsimp)
      have fz : ∀ h2 : AH, h2[G]? = some (some (.lst bs)) → frz 8 h2 (.obj G) = (.lst bs, h2.set G none) := fun h2 hg2 => frz_lst hg2 (fun t ht => by
        obtain ⟨i, hi, rfl⟩ := List.mem_iff_getElem.mp ht
        obtain ⟨ds, ed, _, _⟩ := (hb i _ (List.getElem?_eq_getElem hi)).1
        rw [ed]; rfl)
      clear fe fb rn
      simp -dsimp
      refine draw_wp pl (by omega) (by omega) (fun c h2 b0 b1 t2 => ?_)
      simp -dsimp
      have hg2 := t2.at hg g0
      by_cases z6 : c = 0
      · simp -dsimp [z6]
        refine heads_bent_wp t2.pl hl6 (fun hs2 h3 hl7 t3 => ?_)
        simp -dsimp
        refine draw_wp t3.pl (by omega) (by omega) (fun c h4 b0 b1 t4 => ?_)
        simp -dsimp
        have hg4 := t4.at (t3.at hg2 g0) g0
        have fz4 := fz h4 hg4
        by_cases z24 : c = 0
        · simp -dsimp [z24]
          have fe := fault_eq (w := w) (r := rs.length) (n := ([] : List T).length) (hs := hs2) (x := .lst ([] : List T)) (h := h4) (by omega) bk0.1 (.inl rfl) rfl rfl
          simp -dsimp [fe]
          refine tried_wp (hs := hs2) (r := rs.length) (n := ([] : List T).length) (x := .lst ([] : List T)) (by omega) bk0.1 bk0.2 (.inl rfl) rfl rfl ro (fun o => ?_)
          simp -dsimp [same_ans]
        · simp -dsimp [z24, fz4]
          have fe := fault_eq (w := w) (r := rs.length) (n := bs.length) (hs := hs2) (x := .lst bs) (h := h4.set G none) (by omega) bk.1 (.inl rfl) rfl rfl
          simp -dsimp [fe, fz4]
          refine tried_wp (hs := hs2) (r := rs.length) (n := bs.length) (x := .lst bs) (by omega) bk.1 bk.2 (.inl rfl) rfl rfl ro (fun o => ?_)
          simp -dsimp [same_ans]
      · simp -dsimp [z6]
        refine draw_wp t2.pl (by omega) (by omega) (fun c h4 b0 b1 t4 => ?_)
        simp -dsimp
        have hg4 := t4.at hg2 g0
        have fz4 := fz h4 hg4
        by_cases z24 : c = 0
        · simp -dsimp [z24]
          have fe := fault_eq (w := w) (r := rs.length) (n := ([] : List T).length) (hs := hs) (x := .lst ([] : List T)) (h := h4) (by omega) bk0.1 (.inl rfl) rfl rfl
          simp -dsimp [fe]
          refine tried_wp (hs := hs) (r := rs.length) (n := ([] : List T).length) (x := .lst ([] : List T)) (by omega) bk0.1 bk0.2 (.inl rfl) rfl rfl ro (fun o => ?_)
          simp -dsimp [same_ans]
        · simp -dsimp [z24, fz4]
          have fe := fault_eq (w := w) (r := rs.length) (n := bs.length) (hs := hs) (x := .lst bs) (h := h4.set G none) (by omega) bk.1 (.inl rfl) rfl rfl
          simp -dsimp [fe, fz4]
          refine tried_wp (hs := hs) (r := rs.length) (n := bs.length) (x := .lst bs) (by omega) bk.1 bk.2 (.inl rfl) rfl rfl ro (fun o => ?_)
          simp -dsimp [same_ans]
  obtain ⟨t, h', e, rfl⟩ := key.ok
  exact ⟨h', e⟩

end Lk84
namespace Lk84
open PySem PySem.Spec PyProof.Rows L2 M
def topS (i : Nat) : Stmt := PySem.Challenge.pw_sameruns_k84_bad_flows.main.body.getD i (.Pass ⟨0, 0, 0, 0⟩)
abbrev s__law_pool : Stmt := topS 33
abbrev N__law_pool : List Str := ["script"]
theorem sc__law_pool : FnScope ["script"] ["script"] (defScope s__law_pool) := ⟨rfl, rfl, rfl, by decide +kernel, rfl, by decide +kernel, by decide +kernel⟩
abbrev s__law_draw : Stmt := topS 34
abbrev N__law_draw : List Str := ["pool", "many", "digit"]
theorem sc__law_draw : FnScope ["pool", "many", "digit"] ["pool", "many"] (defScope s__law_draw) := ⟨rfl, rfl, rfl, by decide +kernel, rfl, by decide +kernel, by decide +kernel⟩
abbrev s__law_pick : Stmt := topS 35
abbrev N__law_pick : List Str := ["pool", "things"]
theorem sc__law_pick : FnScope ["pool", "things"] ["pool", "things"] (defScope s__law_pick) := ⟨rfl, rfl, rfl, by decide +kernel, rfl, by decide +kernel, by decide +kernel⟩
abbrev s__law_table : Stmt := topS 41
abbrev N__law_table : List Str := ["table"]
theorem sc__law_table : FnScope ["table"] [] (defScope s__law_table) := ⟨rfl, rfl, rfl, by decide +kernel, rfl, by decide +kernel, by decide +kernel⟩
abbrev s__law_heads : Stmt := topS 52
abbrev N__law_heads : List Str := ["pool", "wide", "heads", "k", "v"]
theorem sc__law_heads : FnScope ["pool", "wide", "heads", "k", "v"] ["pool", "wide"] (defScope s__law_heads) := ⟨rfl, rfl, rfl, by decide +kernel, rfl, by decide +kernel, by decide +kernel⟩
abbrev s__law_last_kind : Stmt := topS 48
abbrev N__law_last_kind : List Str := ["pool", "box", "at"]
theorem sc__law_last_kind : FnScope ["pool", "box", "at"] ["pool", "box", "at"] (defScope s__law_last_kind) := ⟨rfl, rfl, rfl, by decide +kernel, rfl, by decide +kernel, by decide +kernel⟩
abbrev s__law_kind : Stmt := topS 49
abbrev N__law_kind : List Str := ["pool", "box", "first"]
theorem sc__law_kind : FnScope ["pool", "box", "first"] ["pool", "box"] (defScope s__law_kind) := ⟨rfl, rfl, rfl, by decide +kernel, rfl, by decide +kernel, by decide +kernel⟩
abbrev s__law_some : Stmt := topS 44
abbrev N__law_some : List Str := ["pool", "box", "many", "k"]
theorem sc__law_some : FnScope ["pool", "box", "many", "k"] ["pool", "box", "many"] (defScope s__law_some) := ⟨rfl, rfl, rfl, by decide +kernel, rfl, by decide +kernel, by decide +kernel⟩
abbrev s__law_moves : Stmt := topS 45
abbrev N__law_moves : List Str := ["pool", "box", "most", "many", "start", "into", "k"]
theorem sc__law_moves : FnScope ["pool", "box", "most", "many", "start", "into", "k"] ["pool", "box"] (defScope s__law_moves) := ⟨rfl, rfl, rfl, by decide +kernel, rfl, by decide +kernel, by decide +kernel⟩
abbrev s__law_word : Stmt := topS 36
abbrev N__law_word : List Str := ["pool", "kind", "edges"]
theorem sc__law_word : FnScope ["pool", "kind", "edges"] ["pool"] (defScope s__law_word) := ⟨rfl, rfl, rfl, by decide +kernel, rfl, by decide +kernel, by decide +kernel⟩
abbrev s__law_spots : Stmt := topS 46
abbrev N__law_spots : List Str := ["pool", "spots", "k", "word"]
theorem sc__law_spots : FnScope ["pool", "spots", "k", "word"] ["pool"] (defScope s__law_spots) := ⟨rfl, rfl, rfl, by decide +kernel, rfl, by decide +kernel, by decide +kernel⟩
abbrev s__law_good : Stmt := topS 47
abbrev N__law_good : List Str := ["pool", "letter", "box", "at", "first"]
theorem sc__law_good : FnScope ["pool", "letter", "box", "at", "first"] ["pool", "letter", "box", "at"] (defScope s__law_good) := ⟨rfl, rfl, rfl, by decide +kernel, rfl, by decide +kernel, by decide +kernel⟩
abbrev s__law_deed : Stmt := topS 50
abbrev N__law_deed : List Str := ["pool", "box", "at", "last", "kind", "deed", "letter"]
theorem sc__law_deed : FnScope ["pool", "box", "at", "last", "kind", "deed", "letter"] ["pool", "box", "at", "last"] (defScope s__law_deed) := ⟨rfl, rfl, rfl, by decide +kernel, rfl, by decide +kernel, by decide +kernel⟩
abbrev s__law_grid : Stmt := topS 51
abbrev N__law_grid : List Str := ["pool", "box", "grid", "at", "deeds", "k"]
theorem sc__law_grid : FnScope ["pool", "box", "grid", "at", "deeds", "k"] ["pool", "box"] (defScope s__law_grid) := ⟨rfl, rfl, rfl, by decide +kernel, rfl, by decide +kernel, by decide +kernel⟩
abbrev s__law_whole : Stmt := topS 38
abbrev N__law_whole : List Str := ["x"]
theorem sc__law_whole : FnScope ["x"] ["x"] (defScope s__law_whole) := ⟨rfl, rfl, rfl, by decide +kernel, rfl, by decide +kernel, by decide +kernel⟩
abbrev s__law_chain : Stmt := topS 39
abbrev N__law_chain : List Str := ["x", "spot"]
theorem sc__law_chain : FnScope ["x", "spot"] ["x"] (defScope s__law_chain) := ⟨rfl, rfl, rfl, by decide +kernel, rfl, by decide +kernel, by decide +kernel⟩
abbrev s__law_entry : Stmt := topS 40
abbrev N__law_entry : List Str := ["kind", "x", "box", "at", "first", "y"]
theorem sc__law_entry : FnScope ["kind", "x", "box", "at", "first", "y"] ["kind", "x", "box", "at"] (defScope s__law_entry) := ⟨rfl, rfl, rfl, by decide +kernel, rfl, by decide +kernel, by decide +kernel⟩
abbrev s__law_fits : Stmt := topS 42
abbrev N__law_fits : List Str := ["deed", "box", "at", "form", "k", "row", "twice"]
theorem sc__law_fits : FnScope ["deed", "box", "at", "form", "k", "row", "twice"] ["deed", "box", "at"] (defScope s__law_fits) := ⟨rfl, rfl, rfl, by decide +kernel, rfl, by decide +kernel, by decide +kernel⟩
abbrev s__law_fault : Stmt := topS 43
abbrev N__law_fault : List Str := ["heads", "wide", "rows", "grid", "box", "k", "v", "at", "deed"]
theorem sc__law_fault : FnScope ["heads", "wide", "rows", "grid", "box", "k", "v", "at", "deed"] ["heads", "wide", "rows", "grid"] (defScope s__law_fault) := ⟨rfl, rfl, rfl, by decide +kernel, rfl, by decide +kernel, by decide +kernel⟩
abbrev s_is_within : Stmt := topS 20
abbrev N_is_within : List Str := ["entry", "least", "greatest"]
theorem sc_is_within : FnScope ["entry", "least", "greatest"] ["entry", "least", "greatest"] (defScope s_is_within) := ⟨rfl, rfl, rfl, by decide +kernel, rfl, by decide +kernel, by decide +kernel⟩
abbrev s_BadFlow___init__ : Stmt := inClass (topS 2) 0
abbrev N_BadFlow___init__ : List Str := ["self", "block", "position"]
theorem sc_BadFlow___init__ : FnScope ["self", "block", "position"] ["self", "block", "position"] (defScope s_BadFlow___init__) := ⟨rfl, rfl, rfl, by decide +kernel, rfl, by decide +kernel, by decide +kernel⟩
abbrev s_check_params : Stmt := topS 17
abbrev N_check_params : List Str := ["params", "count", "index", "param"]
theorem sc_check_params : FnScope ["params", "count", "index", "param"] ["params", "count"] (defScope s_check_params) := ⟨rfl, rfl, rfl, by decide +kernel, rfl, by decide +kernel, by decide +kernel⟩
abbrev s_fits_word : Stmt := topS 23
abbrev N_fits_word : List Str := ["flow", "number", "entry"]
theorem sc_fits_word : FnScope ["flow", "number", "entry"] ["flow", "number", "entry"] (defScope s_fits_word) := ⟨rfl, rfl, rfl, by decide +kernel, rfl, by decide +kernel, by decide +kernel⟩
abbrev s_fits_variables : Stmt := topS 22
abbrev N_fits_variables : List Str := ["flow", "number", "entry", "one"]
theorem sc_fits_variables : FnScope ["flow", "number", "entry", "one"] ["flow", "number", "entry"] (defScope s_fits_variables) := ⟨rfl, rfl, rfl, by decide +kernel, rfl, by decide +kernel, by decide +kernel⟩
abbrev s_fits_variable : Stmt := topS 21
abbrev N_fits_variable : List Str := ["flow", "number", "entry"]
theorem sc_fits_variable : FnScope ["flow", "number", "entry"] ["flow", "number", "entry"] (defScope s_fits_variable) := ⟨rfl, rfl, rfl, by decide +kernel, rfl, by decide +kernel, by decide +kernel⟩
abbrev s_fits_row : Stmt := topS 27
abbrev N_fits_row : List Str := ["flow", "number", "entry"]
theorem sc_fits_row : FnScope ["flow", "number", "entry"] ["flow", "number", "entry"] (defScope s_fits_row) := ⟨rfl, rfl, rfl, by decide +kernel, rfl, by decide +kernel, by decide +kernel⟩
abbrev s_fits_operation : Stmt := topS 25
abbrev N_fits_operation : List Str := ["flow", "number", "entry"]
theorem sc_fits_operation : FnScope ["flow", "number", "entry"] ["flow", "number", "entry"] (defScope s_fits_operation) := ⟨rfl, rfl, rfl, by decide +kernel, rfl, by decide +kernel, by decide +kernel⟩
abbrev s_fits_name : Stmt := topS 26
abbrev N_fits_name : List Str := ["flow", "number", "entry"]
theorem sc_fits_name : FnScope ["flow", "number", "entry"] ["flow", "number", "entry"] (defScope s_fits_name) := ⟨rfl, rfl, rfl, by decide +kernel, rfl, by decide +kernel, by decide +kernel⟩
abbrev s_fits_many : Stmt := topS 24
abbrev N_fits_many : List Str := ["flow", "number", "entry"]
theorem sc_fits_many : FnScope ["flow", "number", "entry"] ["flow", "number", "entry"] (defScope s_fits_many) := ⟨rfl, rfl, rfl, by decide +kernel, rfl, by decide +kernel, by decide +kernel⟩
abbrev s_fits_later : Stmt := topS 30
abbrev N_fits_later : List Str := ["flow", "number", "entry"]
theorem sc_fits_later : FnScope ["flow", "number", "entry"] ["flow", "number", "entry"] (defScope s_fits_later) := ⟨rfl, rfl, rfl, by decide +kernel, rfl, by decide +kernel, by decide +kernel⟩
abbrev s_fits_chain : Stmt := topS 28
abbrev N_fits_chain : List Str := ["flow", "number", "entry"]
theorem sc_fits_chain : FnScope ["flow", "number", "entry"] ["flow", "number", "entry"] (defScope s_fits_chain) := ⟨rfl, rfl, rfl, by decide +kernel, rfl, by decide +kernel, by decide +kernel⟩
abbrev s_fits_block : Stmt := topS 29
abbrev N_fits_block : List Str := ["flow", "number", "entry"]
theorem sc_fits_block : FnScope ["flow", "number", "entry"] ["flow", "number", "entry"] (defScope s_fits_block) := ⟨rfl, rfl, rfl, by decide +kernel, rfl, by decide +kernel, by decide +kernel⟩
abbrev s_keeps_rules : Stmt := topS 19
abbrev N_keeps_rules : List Str := ["flow", "number", "deed", "kind", "entry", "test"]
theorem sc_keeps_rules : FnScope ["flow", "number", "deed", "kind", "entry", "test"] ["flow", "number", "deed"] (defScope s_keeps_rules) := ⟨rfl, rfl, rfl, by decide +kernel, rfl, by decide +kernel, by decide +kernel⟩
abbrev s_is_end : Stmt := topS 13
abbrev N_is_end : List Str := ["deed"]
theorem sc_is_end : FnScope ["deed"] ["deed"] (defScope s_is_end) := ⟨rfl, rfl, rfl, by decide +kernel, rfl, by decide +kernel, by decide +kernel⟩
abbrev s_check_blocks : Stmt := topS 18
abbrev N_check_blocks : List Str := ["flow", "number", "block", "position", "deed"]
theorem sc_check_blocks : FnScope ["flow", "number", "block", "position", "deed"] ["flow"] (defScope s_check_blocks) := ⟨rfl, rfl, rfl, by decide +kernel, rfl, by decide +kernel, by decide +kernel⟩
abbrev s_Flow___init__ : Stmt := inClass (topS 16) 0
abbrev N_Flow___init__ : List Str := ["self", "name", "params", "count", "arrays", "blocks", "block"]
theorem sc_Flow___init__ : FnScope ["self", "name", "params", "count", "arrays", "blocks", "block"] ["self", "name", "params", "count", "arrays", "blocks"] (defScope s_Flow___init__) := ⟨rfl, rfl, rfl, by decide +kernel, rfl, by decide +kernel, by decide +kernel⟩
abbrev s__law_same : Stmt := topS 37
abbrev N__law_same : List Str := ["actual", "due", "k"]
theorem sc__law_same : FnScope ["actual", "due", "k"] ["actual", "due"] (defScope s__law_same) := ⟨rfl, rfl, rfl, by decide +kernel, rfl, by decide +kernel, by decide +kernel⟩
abbrev s_Flow_parts : Stmt := inClass (topS 16) 1
abbrev N_Flow_parts : List Str := ["self"]
theorem sc_Flow_parts : FnScope ["self"] ["self"] (defScope s_Flow_parts) := ⟨rfl, rfl, rfl, by decide +kernel, rfl, by decide +kernel, by decide +kernel⟩
abbrev s__law_tried : Stmt := topS 59
abbrev N__law_tried : List Str := ["heads", "wide", "rows", "grid", "due", "made", "e"]
theorem sc__law_tried : FnScope ["heads", "wide", "rows", "grid", "due", "made", "e"] ["heads", "wide", "rows", "grid"] (defScope s__law_tried) := ⟨rfl, rfl, rfl, by decide +kernel, rfl, by decide +kernel, by decide +kernel⟩
abbrev s__law_odd_row : Stmt := topS 53
abbrev N__law_odd_row : List Str := ["pool", "row", "wide", "v", "spot"]
theorem sc__law_odd_row : FnScope ["pool", "row", "wide", "v", "spot"] ["pool", "row", "wide"] (defScope s__law_odd_row) := ⟨rfl, rfl, rfl, by decide +kernel, rfl, by decide +kernel, by decide +kernel⟩
abbrev s__law_odd : Stmt := topS 54
abbrev N__law_odd : List Str := ["pool", "letter", "x", "box", "at", "menu"]
theorem sc__law_odd : FnScope ["pool", "letter", "x", "box", "at", "menu"] ["pool", "letter", "x", "box", "at"] (defScope s__law_odd) := ⟨rfl, rfl, rfl, by decide +kernel, rfl, by decide +kernel, by decide +kernel⟩
abbrev s__law_entry_bent : Stmt := topS 55
abbrev N__law_entry_bent : List Str := ["pool", "deed", "box", "at", "form", "spot", "bent", "x"]
theorem sc__law_entry_bent : FnScope ["pool", "deed", "box", "at", "form", "spot", "bent", "x"] ["pool", "deed", "box", "at"] (defScope s__law_entry_bent) := ⟨rfl, rfl, rfl, by decide +kernel, rfl, by decide +kernel, by decide +kernel⟩
abbrev s__law_deed_bent : Stmt := topS 56
abbrev N__law_deed_bent : List Str := ["pool", "deed", "box", "at", "kind", "odd"]
theorem sc__law_deed_bent : FnScope ["pool", "deed", "box", "at", "kind", "odd"] ["pool", "deed", "box", "at"] (defScope s__law_deed_bent) := ⟨rfl, rfl, rfl, by decide +kernel, rfl, by decide +kernel, by decide +kernel⟩
abbrev s__law_block_bent : Stmt := topS 57
abbrev N__law_block_bent : List Str := ["pool", "block", "box", "at", "kind", "spot", "more", "bent", "other"]
theorem sc__law_block_bent : FnScope ["pool", "block", "box", "at", "kind", "spot", "more", "bent", "other"] ["pool", "block", "box", "at"] (defScope s__law_block_bent) := ⟨rfl, rfl, rfl, by decide +kernel, rfl, by decide +kernel, by decide +kernel⟩
abbrev s__law_heads_bent : Stmt := topS 58
abbrev N__law_heads_bent : List Str := ["pool", "heads", "wide", "odd", "spot"]
theorem sc__law_heads_bent : FnScope ["pool", "heads", "wide", "odd", "spot"] ["pool", "heads", "wide"] (defScope s__law_heads_bent) := ⟨rfl, rfl, rfl, by decide +kernel, rfl, by decide +kernel, by decide +kernel⟩
abbrev s_law : Stmt := topS 60
abbrev N_law : List Str := ["script", "pool", "wide", "rows", "many", "box", "heads", "grid", "done", "turn", "at", "due"]
theorem sc_law : FnScope ["script", "pool", "wide", "rows", "many", "box", "heads", "grid", "done", "turn", "at", "due"] ["script"] (defScope s_law) := ⟨rfl, rfl, rfl, by decide +kernel, rfl, by decide +kernel, by decide +kernel⟩
/-- a def of the text that keeps its promise, for who calls it -/
structure Callee (P : Program) (w : World) (K : PySem.W.Frag) (mg : Str → Option Value) (base : Heap) (k : Nat) (f : Addr) (fd : FuncData) (nm : Str) (ps : List Str) (sp : Sp) : Prop where
  ok : FnOk P w K mg base CX0 k f fd ps sp
  kp : PySem.W.keepIn K (.ref f) = true
  b : Binds K fd ps []
  g : mg nm = some (.ref f)
structure CalleeM (P : Program) (w : World) (K : PySem.W.Frag) (mg : Str → Option Value) (base : Heap) (k : Nat) (f : Addr) (fd : FuncData) (ps : List Str) (sp : Sp) : Prop where
  ok : FnOk P w K mg base CX0 k f fd ps sp
  b : Binds K fd ps []
structure CalleeX (P : Program) (w : World) (K : PySem.W.Frag) (mg : Str → Option Value) (base : Heap) (k : Nat) (f : Addr) (fd : FuncData) (nm : Str) (ps : List Str) (sp : Sp) : Prop where
  ok : FnOk P w K mg base (L2.CX P w) k f fd ps sp
  kp : PySem.W.keepIn K (.ref f) = true
  b : Binds K fd ps []
  g : mg nm = some (.ref f)
structure CalleeMX (P : Program) (w : World) (K : PySem.W.Frag) (mg : Str → Option Value) (base : Heap) (k : Nat) (f : Addr) (fd : FuncData) (ps : List Str) (sp : Sp) : Prop where
  ok : FnOk P w K mg base (L2.CX P w) k f fd ps sp
  b : Binds K fd ps []
theorem xm_nil {K : PySem.W.Frag} {ca : Str → Addr} {c : Value} : ∀ (n : Str) (b : Bool), List.lookup n ([] : List (Str × Bool)) = some b → PySem.W.exmOne K (.ref (ca n)) c = some b := fun _ _ h => by cases h
theorem xm_cons {K : PySem.W.Frag} {ca : Str → Addr} {c : Value} {n0 : Str} {b0 : Bool} {C : Addr} {r : List (Str × Bool)} (hc : ca n0 = C) (h0 : PySem.W.exmOne K (.ref C) c = some b0) (hr : ∀ (n : Str) (b : Bool), r.lookup n = some b → PySem.W.exmOne K (.ref (ca n)) c = some b) :
    ∀ (n : Str) (b : Bool), List.lookup n ((n0, b0) :: r) = some b → PySem.W.exmOne K (.ref (ca n)) c = some b := fun n b h => by
  rw [List.lookup_cons] at h
  split at h
  · rename_i e
    cases h
    rw [eq_of_beq e, hc]; exact h0
  · exact hr n b h
theorem passT {X : Cx} : Passes CX0 X (fun _ _ _ => True) := fun _ _ _ _ _ _ _ h => h.elim
section
variable {P : Program} {w : World} {K : PySem.W.Frag} {mg : Str → Option Value} {base : Heap} {ca : Str → Addr} {fa : Str → V}
theorem ok__law_pool {f : Addr} {fd : FuncData} (F : Fun K "_law_pool" "_law_pool" s__law_pool f fd) (b_list : mg "list" = none) : FnOk P w K mg base CX0 1 f fd ["script"] (spM (M.Env.mk K ca fa none) 1 m__law_pool) := by
  refine FnOk.imp (F.ok sc__law_pool (sp_len (G := (M.Env.mk K ca fa none)) (m := m__law_pool) rfl) (fun cdv A outer s H vs Q E hr h => ?_)) (fun _ _ _ _ h => h)
  have hu := hu_of hr
  exact ⟨_, (pss_one (ps_ret (pe_lst (pa_cons (pe_callTy (x_list (K := K) rfl) (by rfl) b_list (by decide +kernel) (pa_cons (pe_slice (x_slL (K := K) rfl) (pv 0) po_none (po_some pe_int)) pa_nil)) (pa_cons pe_int (pa_cons pe_int (pa_cons pe_int pa_nil))))))), def_run (N := N__law_pool) (b := b__law_pool)
    (sim_ret (sim_lstO (sim_cons (sim_CB sb_list (sim_cons (sim_sl so_slL sim_var sim_noPart (sim_part sim_int)) sim_nil)) (sim_cons sim_int (sim_cons sim_int (sim_cons sim_int sim_nil)))))) h⟩
theorem ok__law_draw {f : Addr} {fd : FuncData} (F : Fun K "_law_draw" "_law_draw" s__law_draw f fd) (b_len : mg "len" = none) (b_abs : mg "abs" = none) (b_int : mg "int" = none) : FnOk P w K mg base CX0 1 f fd ["pool", "many"] (spM (M.Env.mk K ca fa none) 2 m__law_draw) := by
  refine FnOk.imp (F.ok sc__law_draw (sp_len (G := (M.Env.mk K ca fa none)) (m := m__law_draw) rfl) (fun cdv A outer s H vs Q E hr h => ?_)) (fun _ _ _ _ h => h)
  have hu := hu_of hr
  exact ⟨_, (pss_cons (ps_while PassesOwn.never (PW.pt (pw_and (pt_cmpR (x_eq (K := K) rfl hr.units) (pe_ix (x_ix (K := K) rfl) (pv 0) pe_int (fun _ _ => rfl)) pe_int (nomark _)) (pw_and1 (pt_cmpR op_lt (pe_ix (x_ix (K := K) rfl) (pv 0) pe_int (fun _ _ => rfl)) (pe_callB (x_len (K := K) rfl) (by rfl) b_len (by decide +kernel) (pa_cons (pe_ix (x_ix (K := K) rfl) (pv 0) pe_int (fun _ _ => rfl)) pa_nil)) (nomark _))))) (pss_cons (ps_asg (pe_callB (call_abs) (by rfl) b_abs (by decide +kernel) (pa_cons (pe_ix (x_ix (K := K) rfl) (pe_ix (x_ix (K := K) rfl) (pv 0) pe_int (fun _ _ => rfl)) (pe_ix (x_ix (K := K) rfl) (pv 0) pe_int (fun _ _ => rfl)) (fun _ _ => rfl)) pa_nil)) (pg_sub (pv 0) pe_int set_list))
      (pss_one (ps_asg (pe_op op_add (pe_ix (x_ix (K := K) rfl) (pv 0) pe_int (fun _ _ => rfl)) pe_int) (pg_sub (pv 0) pe_int set_list)))))
      (pss_cons (ps_if (pt_cmpR (x_eq (K := K) rfl hr.units) (pe_ix (x_ix (K := K) rfl) (pv 0) pe_int (fun _ _ => rfl)) pe_int (nomark _)) (pss_cons (ps_asg (pe_op op_add (pe_ix (x_ix (K := K) rfl) (pv 0) pe_int (fun _ _ => rfl)) pe_int) (pg_sub (pv 0) pe_int set_list))
      (pss_one (ps_ret (pe_op op_mod (pe_callTy (call_int1) (by rfl) b_int (by decide +kernel) (pa_cons (pe_op op_fdivW (pe_ix (x_ix (K := K) rfl) (pv 0) pe_int (fun _ _ => rfl)) pe_int) pa_nil)) (pv 1))))) pss_nil)
      (pss_cons (ps_set (i := 2) sc__law_draw.nd rfl (.inl rfl) (pe_op op_mod (pe_callTy (call_int1) (by rfl) b_int (by decide +kernel) (pa_cons (pe_ix (x_ix (K := K) rfl) (pv 0) pe_int (fun _ _ => rfl)) pa_nil)) (pv 1)))
      (pss_cons (ps_asg (pe_op op_fdivW (pe_callTy (call_int1) (by rfl) b_int (by decide +kernel) (pa_cons (pe_ix (x_ix (K := K) rfl) (pv 0) pe_int (fun _ _ => rfl)) pa_nil)) (pv 1)) (pg_sub (pv 0) pe_int set_list))
      (pss_one (ps_ret (pv 2))))))), def_run (N := N__law_draw) (b := b__law_draw)
    (sim_seq (by exact (sim_while FUEL (by exact (sim_and (sim_test (sim_op so_eq (sim_op so_ix sim_var sim_int) sim_int)) (sim_test (sim_op so_lt (sim_op so_ix sim_var sim_int) (sim_CB sb_len (sim_cons (sim_op so_ix sim_var sim_int) sim_nil)))))) (by exact (sim_seq (by exact (sim_setIx (sim_CB sb_abs (sim_cons (sim_op so_ix (sim_op so_ix sim_var sim_int) (sim_op so_ix sim_var sim_int)) sim_nil)) sim_var sim_int))
      (sim_setIx (sim_op so_add (sim_op so_ix sim_var sim_int) sim_int) sim_var sim_int)))))
      (sim_seq (by exact (sim_if (by exact (sim_test (sim_op so_eq (sim_op so_ix sim_var sim_int) sim_int))) (by exact (sim_seq (by exact (sim_setIx (sim_op so_add (sim_op so_ix sim_var sim_int) sim_int) sim_var sim_int))
      (sim_ret (sim_op so_mod (sim_CB sb_int (sim_cons (sim_op so_div (sim_op so_ix sim_var sim_int) sim_int) sim_nil)) sim_var)))) (by exact sim_next)))
      (sim_seq (by exact (sim_set (sim_op so_mod (sim_CB sb_int (sim_cons (sim_op so_ix sim_var sim_int) sim_nil)) sim_var)))
      (sim_seq (by exact (sim_setIx (sim_op so_div (sim_CB sb_int (sim_cons (sim_op so_ix sim_var sim_int) sim_nil)) sim_var) sim_var sim_int))
      (sim_ret sim_var))))) h⟩
theorem ok__law_pick {f : Addr} {fd : FuncData} (F : Fun K "_law_pick" "_law_pick" s__law_pick f fd) {f__law_draw : Addr} {fd__law_draw : FuncData} (C__law_draw : Callee P w K mg base 1 f__law_draw fd__law_draw "_law_draw" ["pool", "many"] (spM (M.Env.mk K ca fa none) 2 m__law_draw)) (b_len : mg "len" = none) : FnOk P w K mg base CX0 2 f fd ["pool", "things"] (spM (M.Env.mk K ca fa none) 2 m__law_pick) := by
  refine FnOk.imp (F.ok sc__law_pick (sp_len (G := (M.Env.mk K ca fa none)) (m := m__law_pick) rfl) (fun cdv A outer s H vs Q E hr h => ?_)) (fun _ _ _ _ h => h)
  have hu := hu_of hr
  exact ⟨_, (pss_one (ps_ret (pe_ix (x_ix (K := K) rfl) (pv 1) (pe_call C__law_draw.ok (hr.mono (by (first | omega | (simp only [Nat.add_eq] at *; omega) | (simp only [Nat.add_eq]; omega)))) (by rfl) C__law_draw.g C__law_draw.kp C__law_draw.b .nil passT (pa_cons (pv 0) (pa_cons (pe_callB (x_len (K := K) rfl) (by rfl) b_len (by decide +kernel) (pa_cons (pv 1) pa_nil)) pa_nil))) (fun _ _ => rfl)))), def_run (N := N__law_pick) (b := b__law_pick)
    (sim_frz (sim_ret (sim_op so_ix sim_var (sim_call (sim_cons sim_var (sim_cons (sim_CB sb_len (sim_cons sim_var sim_nil)) sim_nil)))))) h⟩
theorem ok__law_table {f : Addr} {fd : FuncData} (F : Fun K "_law_table" "_law_table" s__law_table f fd) : FnOk P w K mg base CX0 1 f fd [] (spM (M.Env.mk K ca fa none) 0 m__law_table) := by
  refine FnOk.imp (F.ok sc__law_table (sp_len (G := (M.Env.mk K ca fa none)) (m := m__law_table) rfl) (fun cdv A outer s H vs Q E hr h => ?_)) (fun _ _ _ _ h => h)
  have hu := hu_of hr
  exact ⟨_, (pss_cons (ps_set (i := 0) sc__law_table.nd rfl (.inl rfl) (pe_disp (pps_cons pe_str pe_str (pps_cons pe_str pe_str (pps_cons pe_str pe_str (pps_cons pe_str pe_str (pps_cons pe_str pe_str (pps_cons pe_str pe_str pps_nil)))))) (by rfl) (by rfl) (fun z => by cases z) (by decide)))
      (pss_cons (ps_dput hu (pv 0) pe_str pe_str rfl)
      (pss_cons (ps_dput hu (pv 0) pe_str pe_str rfl)
      (pss_cons (ps_dput hu (pv 0) pe_str pe_str rfl)
      (pss_cons (ps_dput hu (pv 0) pe_str pe_str rfl)
      (pss_cons (ps_dput hu (pv 0) pe_str pe_str rfl)
      (pss_cons (ps_dput hu (pv 0) pe_str pe_str rfl)
      (pss_cons (ps_dput hu (pv 0) pe_str pe_str rfl)
      (pss_cons (ps_dput hu (pv 0) pe_str pe_str rfl)
      (pss_cons (ps_dput hu (pv 0) pe_str pe_str rfl)
      (pss_cons (ps_dput hu (pv 0) pe_str pe_str rfl)
      (pss_cons (ps_dput hu (pv 0) pe_str pe_str rfl)
      (pss_cons (ps_dput hu (pv 0) pe_str pe_str rfl)
      (pss_one (ps_ret (pv 0)))))))))))))))), def_run (N := N__law_table) (b := b__law_table)
    (sim_seq (by exact (sim_set (sim_dispO (.cons sim_str sim_str (.cons sim_str sim_str (.cons sim_str sim_str (.cons sim_str sim_str (.cons sim_str sim_str (.cons sim_str sim_str .nil)))))))))
      (sim_seq (by exact (sim_dput sim_str sim_var sim_str))
      (sim_seq (by exact (sim_dput sim_str sim_var sim_str))
      (sim_seq (by exact (sim_dput sim_str sim_var sim_str))
      (sim_seq (by exact (sim_dput sim_str sim_var sim_str))
      (sim_seq (by exact (sim_dput sim_str sim_var sim_str))
      (sim_seq (by exact (sim_dput sim_str sim_var sim_str))
      (sim_seq (by exact (sim_dput sim_str sim_var sim_str))
      (sim_seq (by exact (sim_dput sim_str sim_var sim_str))
      (sim_seq (by exact (sim_dput sim_str sim_var sim_str))
      (sim_seq (by exact (sim_dput sim_str sim_var sim_str))
      (sim_seq (by exact (sim_dput sim_str sim_var sim_str))
      (sim_seq (by exact (sim_dput sim_str sim_var sim_str))
      (sim_frz (sim_ret sim_var))))))))))))))) h⟩
theorem ok__law_heads {f : Addr} {fd : FuncData} (F : Fun K "_law_heads" "_law_heads" s__law_heads f fd) {f__law_draw : Addr} {fd__law_draw : FuncData} (C__law_draw : Callee P w K mg base 1 f__law_draw fd__law_draw "_law_draw" ["pool", "many"] (spM (M.Env.mk K ca fa none) 2 m__law_draw)) (b_range : mg "range" = none) (b_min : mg "min" = none) (b_tuple : mg "tuple" = none) : FnOk P w K mg base CX0 2 f fd ["pool", "wide"] (spM (M.Env.mk K ca fa none) 2 m__law_heads) := by
  refine FnOk.imp (F.ok sc__law_heads (sp_len (G := (M.Env.mk K ca fa none)) (m := m__law_heads) rfl) (fun cdv A outer s H vs Q E hr h => ?_)) (fun _ _ _ _ h => h)
  have hu := hu_of hr
  exact ⟨_, (pss_cons (ps_set (i := 2) sc__law_heads.nd rfl (.inl rfl) (pe_lst pa_nil))
      (pss_cons (ps_for PassesOwn.never rfl (pi_range1 (by rfl) b_range (pa_cons (pe_call C__law_draw.ok (hr.mono (by (first | omega | (simp only [Nat.add_eq] at *; omega) | (simp only [Nat.add_eq]; omega)))) (by rfl) C__law_draw.g C__law_draw.kp C__law_draw.b .nil passT (pa_cons (pv 0) (pa_cons (pe_op op_add (pe_callB (call_min2 rfl) (by rfl) b_min (by decide +kernel) (pa_cons (pv 1) (pa_cons pe_int pa_nil))) pe_int) pa_nil))) pa_nil)) (pg_name (i := 3) sc__law_heads.nd rfl (.inl rfl)) (pss_cons (ps_set (i := 4) sc__law_heads.nd rfl (.inl rfl) (pe_call C__law_draw.ok (hr.mono (by (first | omega | (simp only [Nat.add_eq] at *; omega) | (simp only [Nat.add_eq]; omega)))) (by rfl) C__law_draw.g C__law_draw.kp C__law_draw.b .nil passT (pa_cons (pv 0) (pa_cons (pv 1) pa_nil))))
      (pss_one (ps_if (pt_cmpR (x_nin (K := K) rfl) (pv 4) (pv 2) rfl) (pss_one (ps_expr (pe_bm PySem.F.plainAttrs_list PySem.F.slot_list_append PySem.F.type_list_append mt_append (pv 2) (pa_cons (pv 4) pa_nil)))) pss_nil))))
      (pss_one (ps_ret (pe_callTy (x_tuple (K := K) rfl) (by rfl) b_tuple (by decide +kernel) (pa_cons (pv 2) pa_nil)))))), def_run (N := N__law_heads) (b := b__law_heads)
    (sim_seq (by exact (sim_set (sim_lstO sim_nil)))
      (sim_seq (by exact (sim_for (by exact (sim_rng1 (sim_cons (sim_call (sim_cons sim_var (sim_cons (sim_op so_add (sim_CB sb_min (sim_cons sim_var (sim_cons sim_int sim_nil))) sim_int) sim_nil))) sim_nil))) sim_gName (by exact (sim_seq (by exact (sim_set (sim_call (sim_cons sim_var (sim_cons sim_var sim_nil)))))
      (sim_if (by exact (sim_test (sim_op so_nin sim_var sim_var))) (by exact (sim_drop (sim_LM sm_append sim_var (sim_cons sim_var sim_nil)))) (by exact sim_next))))))
      (sim_frz (sim_ret (sim_CB sb_tuple (sim_cons sim_var sim_nil)))))) h⟩
theorem ok__law_last_kind {f : Addr} {fd : FuncData} (F : Fun K "_law_last_kind" "_law_last_kind" s__law_last_kind f fd) {f__law_pick : Addr} {fd__law_pick : FuncData} (C__law_pick : Callee P w K mg base 2 f__law_pick fd__law_pick "_law_pick" ["pool", "things"] (spM (M.Env.mk K ca fa none) 2 m__law_pick)) : FnOk P w K mg base CX0 3 f fd ["pool", "box", "at"] (spM (M.Env.mk K ca fa none) 3 m__law_last_kind) := by
  refine FnOk.imp (F.ok sc__law_last_kind (sp_len (G := (M.Env.mk K ca fa none)) (m := m__law_last_kind) rfl) (fun cdv A outer s H vs Q E hr h => ?_)) (fun _ _ _ _ h => h)
  have hu := hu_of hr
  exact ⟨_, (pss_cons (ps_if (pt_cmpR (x_eq (K := K) rfl hr.units) (pe_dget hu (pv 1) pe_str (fun _ _ => rfl)) pe_int (nomark _)) (pss_one (ps_ret pe_str)) pss_nil)
      (pss_cons (ps_if (pt_cmpR op_lt (pv 2) (pe_op op_sub (pe_dget hu (pv 1) pe_str (fun _ _ => rfl)) pe_int) (nomark _)) (pss_one (ps_ret (pe_call C__law_pick.ok (hr.mono (by (first | omega | (simp only [Nat.add_eq] at *; omega) | (simp only [Nat.add_eq]; omega)))) (by rfl) C__law_pick.g C__law_pick.kp C__law_pick.b .nil passT (pa_cons (pv 0) (pa_cons (pe_lst (pa_cons pe_str (pa_cons pe_str (pa_cons pe_str pa_nil)))) pa_nil))))) pss_nil)
      (pss_one (ps_ret (pe_call C__law_pick.ok (hr.mono (by (first | omega | (simp only [Nat.add_eq] at *; omega) | (simp only [Nat.add_eq]; omega)))) (by rfl) C__law_pick.g C__law_pick.kp C__law_pick.b .nil passT (pa_cons (pv 0) (pa_cons (pe_lst (pa_cons pe_str (pa_cons pe_str pa_nil))) pa_nil))))))), def_run (N := N__law_last_kind) (b := b__law_last_kind)
    (sim_seq (by exact (sim_frz (sim_if (by exact (sim_test (sim_op so_eq (sim_dget sim_var sim_str) sim_int))) (by exact (sim_ret sim_str)) (by exact sim_next))))
      (sim_seq (by exact (sim_if (by exact (sim_test (sim_op so_lt sim_var (sim_op so_sub (sim_dget sim_var sim_str) sim_int)))) (by exact (sim_ret (sim_call (sim_cons sim_var (sim_cons (sim_lst (sim_cons sim_str (sim_cons sim_str (sim_cons sim_str sim_nil)))) sim_nil))))) (by exact sim_next)))
      (sim_ret (sim_call (sim_cons sim_var (sim_cons (sim_lst (sim_cons sim_str (sim_cons sim_str sim_nil))) sim_nil)))))) h⟩
theorem ok__law_kind {f : Addr} {fd : FuncData} (F : Fun K "_law_kind" "_law_kind" s__law_kind f fd) {f__law_pick : Addr} {fd__law_pick : FuncData} (C__law_pick : Callee P w K mg base 2 f__law_pick fd__law_pick "_law_pick" ["pool", "things"] (spM (M.Env.mk K ca fa none) 2 m__law_pick)) : FnOk P w K mg base CX0 3 f fd ["pool", "box"] (spM (M.Env.mk K ca fa none) 2 m__law_kind) := by
  refine FnOk.imp (F.ok sc__law_kind (sp_len (G := (M.Env.mk K ca fa none)) (m := m__law_kind) rfl) (fun cdv A outer s H vs Q E hr h => ?_)) (fun _ _ _ _ h => h)
  have hu := hu_of hr
  exact ⟨_, (pss_cons (ps_if (pt_cmpR (x_eq (K := K) rfl hr.units) (pe_dget hu (pv 1) pe_str (fun _ _ => rfl)) pe_int (nomark _)) (pss_one (ps_ret (pe_call C__law_pick.ok (hr.mono (by (first | omega | (simp only [Nat.add_eq] at *; omega) | (simp only [Nat.add_eq]; omega)))) (by rfl) C__law_pick.g C__law_pick.kp C__law_pick.b .nil passT (pa_cons (pv 0) (pa_cons (pe_lst (pa_cons pe_str (pa_cons pe_str pa_nil))) pa_nil))))) pss_nil)
      (pss_cons (ps_set (i := 2) sc__law_kind.nd rfl (.inl rfl) (pe_lst (pa_cons pe_str (pa_cons pe_str (pa_cons pe_str (pa_cons pe_str (pa_cons pe_str (pa_cons pe_str (pa_cons pe_str (pa_cons pe_str pa_nil))))))))))
      (pss_cons (ps_set (i := 2) sc__law_kind.nd rfl (.inl rfl) (pe_op op_cat (pv 2) (pe_lst (pa_cons pe_str (pa_cons pe_str (pa_cons pe_str (pa_cons pe_str pa_nil)))))))
      (pss_one (ps_ret (pe_call C__law_pick.ok (hr.mono (by (first | omega | (simp only [Nat.add_eq] at *; omega) | (simp only [Nat.add_eq]; omega)))) (by rfl) C__law_pick.g C__law_pick.kp C__law_pick.b .nil passT (pa_cons (pv 0) (pa_cons (pe_op op_cat (pv 2) (pe_lst (pa_cons pe_str (pa_cons pe_str (pa_cons pe_str pa_nil))))) pa_nil)))))))), def_run (N := N__law_kind) (b := b__law_kind)
    (sim_seq (by exact (sim_frz (sim_if (by exact (sim_test (sim_op so_eq (sim_dget sim_var sim_str) sim_int))) (by exact (sim_ret (sim_call (sim_cons sim_var (sim_cons (sim_lst (sim_cons sim_str (sim_cons sim_str sim_nil))) sim_nil))))) (by exact sim_next))))
      (sim_seq (by exact (sim_set (sim_lst (sim_cons sim_str (sim_cons sim_str (sim_cons sim_str (sim_cons sim_str (sim_cons sim_str (sim_cons sim_str (sim_cons sim_str (sim_cons sim_str sim_nil)))))))))))
      (sim_seq (by exact (sim_frz (sim_set (sim_op so_cat sim_var (sim_lst (sim_cons sim_str (sim_cons sim_str (sim_cons sim_str (sim_cons sim_str sim_nil)))))))))
      (sim_frz (sim_ret (sim_call (sim_cons sim_var (sim_cons (sim_op so_cat sim_var (sim_lst (sim_cons sim_str (sim_cons sim_str (sim_cons sim_str sim_nil))))) sim_nil)))))))) h⟩
theorem ok__law_some {f : Addr} {fd : FuncData} (F : Fun K "_law_some" "_law_some" s__law_some f fd) {f__law_draw : Addr} {fd__law_draw : FuncData} (C__law_draw : Callee P w K mg base 1 f__law_draw fd__law_draw "_law_draw" ["pool", "many"] (spM (M.Env.mk K ca fa none) 2 m__law_draw)) (b_range : mg "range" = none) (b_tuple : mg "tuple" = none) : FnOk P w K mg base CX0 2 f fd ["pool", "box", "many"] (spM (M.Env.mk K ca fa none) 3 m__law_some) := by
  refine FnOk.imp (F.ok sc__law_some (sp_len (G := (M.Env.mk K ca fa none)) (m := m__law_some) rfl) (fun cdv A outer s H vs Q E hr h => ?_)) (fun _ _ _ _ h => h)
  have hu := hu_of hr
  exact ⟨_, (pss_one (ps_ret (pe_callTy (x_tuple (K := K) rfl) (by rfl) b_tuple (by decide +kernel) (pa_cons (pe_lc (own := [("k", 3)]) (g := gName 3) (tt := tYes) rfl sc__law_some.nd (pi_range1 (by rfl) b_range (pa_cons (pv 2) pa_nil)) (blkOk_by (own := [("k", 3)]) (N := N__law_some) (sc := defScope s__law_some) (by decide +kernel)) (fun _ _ _ _ _ => (pg_name (i := 3) sc__law_some.nd rfl (.inl rfl))) (fun _ _ _ _ _ => pts_nil) (fun _ _ _ _ _ => (pe_call C__law_draw.ok (hr.mono (by (first | omega | (simp only [Nat.add_eq] at *; omega) | (simp only [Nat.add_eq]; omega)))) (by rfl) C__law_draw.g C__law_draw.kp C__law_draw.b .nil passT (pa_cons (pv 0) (pa_cons (pe_dget hu (pv 1) pe_str (fun _ _ => rfl)) pa_nil))))) pa_nil)))), def_run (N := N__law_some) (b := b__law_some)
    (sim_frz (sim_ret (sim_CB sb_tuple (sim_cons (sim_lc (vs := [3]) (by exact (sim_rng1 (sim_cons sim_var sim_nil))) (sim_wName (by decide)) (by exact sim_yes) (by exact (sim_call (sim_cons sim_var (sim_cons (sim_dget sim_var sim_str) sim_nil))))) sim_nil)))) h⟩
theorem ok__law_moves {f : Addr} {fd : FuncData} (F : Fun K "_law_moves" "_law_moves" s__law_moves f fd) {f__law_draw : Addr} {fd__law_draw : FuncData} (C__law_draw : Callee P w K mg base 1 f__law_draw fd__law_draw "_law_draw" ["pool", "many"] (spM (M.Env.mk K ca fa none) 2 m__law_draw)) {f__law_some : Addr} {fd__law_some : FuncData} (C__law_some : Callee P w K mg base 2 f__law_some fd__law_some "_law_some" ["pool", "box", "many"] (spM (M.Env.mk K ca fa none) 3 m__law_some)) (b_min : mg "min" = none) (b_range : mg "range" = none) (b_int : mg "int" = none) (b_tuple : mg "tuple" = none) : FnOk P w K mg base CX0 3 f fd ["pool", "box"] (spM (M.Env.mk K ca fa none) 2 m__law_moves) := by
  refine FnOk.imp (F.ok sc__law_moves (sp_len (G := (M.Env.mk K ca fa none)) (m := m__law_moves) rfl) (fun cdv A outer s H vs Q E hr h => ?_)) (fun _ _ _ _ h => h)
  have hu := hu_of hr
  exact ⟨_, (pss_cons (ps_set (i := 2) sc__law_moves.nd rfl (.inl rfl) (pe_callB (call_min2 rfl) (by rfl) b_min (by decide +kernel) (pa_cons (pe_dget hu (pv 1) pe_str (fun _ _ => rfl)) (pa_cons (pe_ifExp (pt_cmpR (x_eq (K := K) rfl hr.units) (pe_call C__law_draw.ok (hr.mono (by (first | omega | (simp only [Nat.add_eq] at *; omega) | (simp only [Nat.add_eq]; omega)))) (by rfl) C__law_draw.g C__law_draw.kp C__law_draw.b .nil passT (pa_cons (pv 0) (pa_cons pe_int pa_nil))) pe_int (nomark _)) pe_int pe_int) pa_nil))))
      (pss_cons (ps_set (i := 3) sc__law_moves.nd rfl (.inl rfl) (pe_call C__law_draw.ok (hr.mono (by (first | omega | (simp only [Nat.add_eq] at *; omega) | (simp only [Nat.add_eq]; omega)))) (by rfl) C__law_draw.g C__law_draw.kp C__law_draw.b .nil passT (pa_cons (pv 0) (pa_cons (pe_op op_add (pv 2) pe_int) pa_nil))))
      (pss_cons (ps_set (i := 4) sc__law_moves.nd rfl (.inr rfl) (pe_call C__law_draw.ok (hr.mono (by (first | omega | (simp only [Nat.add_eq] at *; omega) | (simp only [Nat.add_eq]; omega)))) (by rfl) C__law_draw.g C__law_draw.kp C__law_draw.b .nil passT (pa_cons (pv 0) (pa_cons (pe_dget hu (pv 1) pe_str (fun _ _ => rfl)) pa_nil))))
      (pss_cons (ps_setLc (i := 5) (own := [("k", 6)]) (g := gName 6) (tt := tYes) rfl sc__law_moves.nd rfl rfl (sw_true rfl rfl rfl (by decide +kernel)) (pi_range1 (by rfl) b_range (pa_cons (pv 3) pa_nil)) (blkOk_by (own := [("k", 6)]) (N := N__law_moves) (sc := defScope s__law_moves) (by decide +kernel)) (fun _ _ _ _ _ => (pg_name (i := 6) sc__law_moves.nd rfl (.inl rfl))) (fun _ _ _ _ _ => pts_nil) (fun _ _ _ _ _ => (pe_op op_mod (pe_callTy (call_int1) (by rfl) b_int (by decide +kernel) (pa_cons (pe_op op_add (pv 4) (pv 6)) pa_nil)) (pe_dget hu (pv 1) pe_str (fun _ _ => rfl)))))
      (pss_one (ps_ret (pe_tup (pa_cons pe_str (pa_cons (pe_callTy (x_tuple (K := K) rfl) (by rfl) b_tuple (by decide +kernel) (pa_cons (pv 5) pa_nil)) (pa_cons (pe_call C__law_some.ok (hr.mono (by (first | omega | (simp only [Nat.add_eq] at *; omega) | (simp only [Nat.add_eq]; omega)))) (by rfl) C__law_some.g C__law_some.kp C__law_some.b .nil passT (pa_cons (pv 0) (pa_cons (pv 1) (pa_cons (pv 3) pa_nil)))) pa_nil)))))))))), def_run (N := N__law_moves) (b := b__law_moves)
    (sim_seq (by exact (sim_frz (sim_set (sim_CB sb_min (sim_cons (sim_dget sim_var sim_str) (sim_cons (sim_ifE (sim_test (sim_op so_eq (sim_call (sim_cons sim_var (sim_cons sim_int sim_nil))) sim_int)) sim_int sim_int) sim_nil))))))
      (sim_seq (by exact (sim_set (sim_call (sim_cons sim_var (sim_cons (sim_op so_add sim_var sim_int) sim_nil)))))
      (sim_seq (by exact (sim_set (sim_call (sim_cons sim_var (sim_cons (sim_dget sim_var sim_str) sim_nil)))))
      (sim_seq (by exact (sim_set (sim_lc (vs := [6]) (by exact (sim_rng1 (sim_cons sim_var sim_nil))) (sim_wName (by decide)) (by exact sim_yes) (by exact (sim_op so_mod (sim_CB sb_int (sim_cons (sim_op so_add sim_var sim_var) sim_nil)) (sim_dget sim_var sim_str))))))
      (sim_frz (sim_ret (sim_tup (sim_cons sim_str (sim_cons (sim_CB sb_tuple (sim_cons sim_var sim_nil)) (sim_cons (sim_call (sim_cons sim_var (sim_cons sim_var (sim_cons sim_var sim_nil)))) sim_nil)))))))))) h⟩
theorem ok__law_word {f : Addr} {fd : FuncData} (F : Fun K "_law_word" "_law_word" s__law_word f fd) {f__law_draw : Addr} {fd__law_draw : FuncData} (C__law_draw : Callee P w K mg base 1 f__law_draw fd__law_draw "_law_draw" ["pool", "many"] (spM (M.Env.mk K ca fa none) 2 m__law_draw)) : FnOk P w K mg base CX0 2 f fd ["pool"] (spM (M.Env.mk K ca fa none) 1 m__law_word) := by
  refine FnOk.imp (F.ok sc__law_word (sp_len (G := (M.Env.mk K ca fa none)) (m := m__law_word) rfl) (fun cdv A outer s H vs Q E hr h => ?_)) (fun _ _ _ _ h => h)
  have hu := hu_of hr
  exact ⟨_, (pss_cons (ps_set (i := 1) sc__law_word.nd rfl (.inl rfl) (pe_call C__law_draw.ok (hr.mono (by (first | omega | (simp only [Nat.add_eq] at *; omega) | (simp only [Nat.add_eq]; omega)))) (by rfl) C__law_draw.g C__law_draw.kp C__law_draw.b .nil passT (pa_cons (pv 0) (pa_cons pe_int pa_nil))))
      (pss_cons (ps_if (pt_cmpR op_lt (pv 1) pe_int (nomark _)) (pss_one (ps_ret (pe_op op_sub (pe_call C__law_draw.ok (hr.mono (by (first | omega | (simp only [Nat.add_eq] at *; omega) | (simp only [Nat.add_eq]; omega)))) (by rfl) C__law_draw.g C__law_draw.kp C__law_draw.b .nil passT (pa_cons (pv 0) (pa_cons pe_int pa_nil))) pe_int))) pss_nil)
      (pss_cons (ps_set (i := 2) sc__law_word.nd rfl (.inl rfl) (pe_lst (pa_cons (pe_un un_neg pe_int) (pa_cons (pe_un un_neg pe_int) (pa_cons (pe_un un_neg pe_int) (pa_cons (pe_un un_neg pe_int) (pa_cons (pe_un un_neg pe_int) (pa_cons pe_int (pa_cons pe_int (pa_cons pe_int (pa_cons pe_int (pa_cons pe_int (pa_cons pe_int (pa_cons pe_int (pa_cons pe_int (pa_cons pe_int pa_nil))))))))))))))))
      (pss_cons (ps_if (pt_cmpR (x_eq (K := K) rfl hr.units) (pv 1) pe_int (nomark _)) (pss_one (ps_ret (pe_ix (x_ix (K := K) rfl) (pv 2) (pe_call C__law_draw.ok (hr.mono (by (first | omega | (simp only [Nat.add_eq] at *; omega) | (simp only [Nat.add_eq]; omega)))) (by rfl) C__law_draw.g C__law_draw.kp C__law_draw.b .nil passT (pa_cons (pv 0) (pa_cons pe_int pa_nil))) (fun _ _ => rfl)))) pss_nil)
      (pss_one (ps_ret (pe_op op_sub (pe_call C__law_draw.ok (hr.mono (by (first | omega | (simp only [Nat.add_eq] at *; omega) | (simp only [Nat.add_eq]; omega)))) (by rfl) C__law_draw.g C__law_draw.kp C__law_draw.b .nil passT (pa_cons (pv 0) (pa_cons pe_int pa_nil))) pe_int))))))), def_run (N := N__law_word) (b := b__law_word)
    (sim_seq (by exact (sim_set (sim_call (sim_cons sim_var (sim_cons sim_int sim_nil)))))
      (sim_seq (by exact (sim_if (by exact (sim_test (sim_op so_lt sim_var sim_int))) (by exact (sim_ret (sim_op so_sub (sim_call (sim_cons sim_var (sim_cons sim_int sim_nil))) sim_int))) (by exact sim_next)))
      (sim_seq (by exact (sim_set (sim_lst (sim_cons (sim_un so_neg sim_int) (sim_cons (sim_un so_neg sim_int) (sim_cons (sim_un so_neg sim_int) (sim_cons (sim_un so_neg sim_int) (sim_cons (sim_un so_neg sim_int) (sim_cons sim_int (sim_cons sim_int (sim_cons sim_int (sim_cons sim_int (sim_cons sim_int (sim_cons sim_int (sim_cons sim_int (sim_cons sim_int (sim_cons sim_int sim_nil)))))))))))))))))
      (sim_seq (by exact (sim_if (by exact (sim_test (sim_op so_eq sim_var sim_int))) (by exact (sim_frz (sim_ret (sim_op so_ix sim_var (sim_call (sim_cons sim_var (sim_cons sim_int sim_nil))))))) (by exact sim_next)))
      (sim_ret (sim_op so_sub (sim_call (sim_cons sim_var (sim_cons sim_int sim_nil))) sim_int)))))) h⟩
theorem ok__law_spots {f : Addr} {fd : FuncData} (F : Fun K "_law_spots" "_law_spots" s__law_spots f fd) {f__law_draw : Addr} {fd__law_draw : FuncData} (C__law_draw : Callee P w K mg base 1 f__law_draw fd__law_draw "_law_draw" ["pool", "many"] (spM (M.Env.mk K ca fa none) 2 m__law_draw)) {f__law_pick : Addr} {fd__law_pick : FuncData} (C__law_pick : Callee P w K mg base 2 f__law_pick fd__law_pick "_law_pick" ["pool", "things"] (spM (M.Env.mk K ca fa none) 2 m__law_pick)) (b_range : mg "range" = none) (b_tuple : mg "tuple" = none) : FnOk P w K mg base CX0 3 f fd ["pool"] (spM (M.Env.mk K ca fa none) 1 m__law_spots) := by
  refine FnOk.imp (F.ok sc__law_spots (sp_len (G := (M.Env.mk K ca fa none)) (m := m__law_spots) rfl) (fun cdv A outer s H vs Q E hr h => ?_)) (fun _ _ _ _ h => h)
  have hu := hu_of hr
  exact ⟨_, (pss_cons (ps_set (i := 1) sc__law_spots.nd rfl (.inl rfl) (pe_lst pa_nil))
      (pss_cons (ps_for PassesOwn.never rfl (pi_range1 (by rfl) b_range (pa_cons (pe_op op_add pe_int (pe_call C__law_draw.ok (hr.mono (by (first | omega | (simp only [Nat.add_eq] at *; omega) | (simp only [Nat.add_eq]; omega)))) (by rfl) C__law_draw.g C__law_draw.kp C__law_draw.b .nil passT (pa_cons (pv 0) (pa_cons pe_int pa_nil)))) pa_nil)) (pg_name (i := 2) sc__law_spots.nd rfl (.inl rfl)) (pss_cons (ps_set (i := 3) sc__law_spots.nd rfl (.inl rfl) (pe_call C__law_pick.ok (hr.mono (by (first | omega | (simp only [Nat.add_eq] at *; omega) | (simp only [Nat.add_eq]; omega)))) (by rfl) C__law_pick.g C__law_pick.kp C__law_pick.b .nil passT (pa_cons (pv 0) (pa_cons (pe_lst (pa_cons pe_str (pa_cons pe_str pa_nil))) pa_nil))))
      (pss_one (ps_expr (pe_bm PySem.F.plainAttrs_list PySem.F.slot_list_append PySem.F.type_list_append mt_append (pv 1) (pa_cons (pe_tup (pa_cons (pv 3) (pa_cons (pe_call C__law_draw.ok (hr.mono (by (first | omega | (simp only [Nat.add_eq] at *; omega) | (simp only [Nat.add_eq]; omega)))) (by rfl) C__law_draw.g C__law_draw.kp C__law_draw.b .nil passT (pa_cons (pv 0) (pa_cons pe_int pa_nil))) pa_nil))) pa_nil))))))
      (pss_one (ps_ret (pe_callTy (x_tuple (K := K) rfl) (by rfl) b_tuple (by decide +kernel) (pa_cons (pv 1) pa_nil)))))), def_run (N := N__law_spots) (b := b__law_spots)
    (sim_seq (by exact (sim_set (sim_lstO sim_nil)))
      (sim_seq (by exact (sim_for (by exact (sim_rng1 (sim_cons (sim_op so_add sim_int (sim_call (sim_cons sim_var (sim_cons sim_int sim_nil)))) sim_nil))) sim_gName (by exact (sim_seq (by exact (sim_set (sim_call (sim_cons sim_var (sim_cons (sim_lst (sim_cons sim_str (sim_cons sim_str sim_nil))) sim_nil)))))
      (sim_drop (sim_LM sm_append sim_var (sim_cons (sim_tup (sim_cons sim_var (sim_cons (sim_call (sim_cons sim_var (sim_cons sim_int sim_nil))) sim_nil))) sim_nil)))))))
      (sim_frz (sim_ret (sim_CB sb_tuple (sim_cons sim_var sim_nil)))))) h⟩
theorem ok__law_good {f : Addr} {fd : FuncData} (F : Fun K "_law_good" "_law_good" s__law_good f fd) {f__law_draw : Addr} {fd__law_draw : FuncData} (C__law_draw : Callee P w K mg base 1 f__law_draw fd__law_draw "_law_draw" ["pool", "many"] (spM (M.Env.mk K ca fa none) 2 m__law_draw)) {f__law_word : Addr} {fd__law_word : FuncData} (C__law_word : Callee P w K mg base 2 f__law_word fd__law_word "_law_word" ["pool"] (spM (M.Env.mk K ca fa none) 1 m__law_word)) {f__law_pick : Addr} {fd__law_pick : FuncData} (C__law_pick : Callee P w K mg base 2 f__law_pick fd__law_pick "_law_pick" ["pool", "things"] (spM (M.Env.mk K ca fa none) 2 m__law_pick)) {f__law_some : Addr} {fd__law_some : FuncData} (C__law_some : Callee P w K mg base 2 f__law_some fd__law_some "_law_some" ["pool", "box", "many"] (spM (M.Env.mk K ca fa none) 3 m__law_some)) {f__law_spots : Addr} {fd__law_spots : FuncData} (C__law_spots : Callee P w K mg base 3 f__law_spots fd__law_spots "_law_spots" ["pool"] (spM (M.Env.mk K ca fa none) 1 m__law_spots)) : FnOk P w K mg base CX0 4 f fd ["pool", "letter", "box", "at"] (spM (M.Env.mk K ca fa none) 4 m__law_good) := by
  refine FnOk.imp (F.ok sc__law_good (sp_len (G := (M.Env.mk K ca fa none)) (m := m__law_good) rfl) (fun cdv A outer s H vs Q E hr h => ?_)) (fun _ _ _ _ h => h)
  have hu := hu_of hr
  exact ⟨_, (pss_cons (ps_if (pt_cmpR (x_eq (K := K) rfl hr.units) (pv 1) pe_str (nomark _)) (pss_one (ps_ret (pe_call C__law_draw.ok (hr.mono (by (first | omega | (simp only [Nat.add_eq] at *; omega) | (simp only [Nat.add_eq]; omega)))) (by rfl) C__law_draw.g C__law_draw.kp C__law_draw.b .nil passT (pa_cons (pv 0) (pa_cons (pe_dget hu (pv 2) pe_str (fun _ _ => rfl)) pa_nil))))) pss_nil)
      (pss_cons (ps_if (pt_cmpR (x_eq (K := K) rfl hr.units) (pv 1) pe_str (nomark _)) (pss_one (ps_ret (pe_call C__law_word.ok (hr.mono (by (first | omega | (simp only [Nat.add_eq] at *; omega) | (simp only [Nat.add_eq]; omega)))) (by rfl) C__law_word.g C__law_word.kp C__law_word.b .nil passT (pa_cons (pv 0) pa_nil)))) pss_nil)
      (pss_cons (ps_if (pt_cmpR (x_eq (K := K) rfl hr.units) (pv 1) pe_str (nomark _)) (pss_one (ps_ret (pe_call C__law_pick.ok (hr.mono (by (first | omega | (simp only [Nat.add_eq] at *; omega) | (simp only [Nat.add_eq]; omega)))) (by rfl) C__law_pick.g C__law_pick.kp C__law_pick.b .nil passT (pa_cons (pv 0) (pa_cons (pe_lst (pa_cons pe_int (pa_cons pe_int (pa_cons pe_int (pa_cons (pe_op op_add pe_int (pe_call C__law_draw.ok (hr.mono (by (first | omega | (simp only [Nat.add_eq] at *; omega) | (simp only [Nat.add_eq]; omega)))) (by rfl) C__law_draw.g C__law_draw.kp C__law_draw.b .nil passT (pa_cons (pv 0) (pa_cons pe_int pa_nil)))) pa_nil))))) pa_nil))))) pss_nil)
      (pss_cons (ps_if (pt_cmpR (x_eq (K := K) rfl hr.units) (pv 1) pe_str (nomark _)) (pss_one (ps_ret (pe_call C__law_draw.ok (hr.mono (by (first | omega | (simp only [Nat.add_eq] at *; omega) | (simp only [Nat.add_eq]; omega)))) (by rfl) C__law_draw.g C__law_draw.kp C__law_draw.b .nil passT (pa_cons (pv 0) (pa_cons (pe_dget hu (pv 2) pe_str (fun _ _ => rfl)) pa_nil))))) pss_nil)
      (pss_cons (ps_if (pt_cmpR (x_eq (K := K) rfl hr.units) (pv 1) pe_str (nomark _)) (pss_one (ps_ret (pe_op op_add (pe_op op_add (pv 3) pe_int) (pe_call C__law_draw.ok (hr.mono (by (first | omega | (simp only [Nat.add_eq] at *; omega) | (simp only [Nat.add_eq]; omega)))) (by rfl) C__law_draw.g C__law_draw.kp C__law_draw.b .nil passT (pa_cons (pv 0) (pa_cons (pe_op op_sub (pe_op op_sub (pe_dget hu (pv 2) pe_str (fun _ _ => rfl)) (pv 3)) pe_int) pa_nil)))))) pss_nil)
      (pss_cons (ps_if (pt_cmpR (x_eq (K := K) rfl hr.units) (pv 1) pe_str (nomark _)) (pss_cons (ps_set (i := 4) sc__law_good.nd rfl (.inl rfl) (pe_lst (pa_cons pe_str (pa_cons pe_str (pa_cons pe_str (pa_cons pe_str (pa_cons pe_str (pa_cons pe_str (pa_cons pe_str pa_nil)))))))))
      (pss_one (ps_ret (pe_call C__law_pick.ok (hr.mono (by (first | omega | (simp only [Nat.add_eq] at *; omega) | (simp only [Nat.add_eq]; omega)))) (by rfl) C__law_pick.g C__law_pick.kp C__law_pick.b .nil passT (pa_cons (pv 0) (pa_cons (pe_op op_cat (pv 4) (pe_lst (pa_cons pe_str (pa_cons pe_str (pa_cons pe_str (pa_cons pe_str (pa_cons pe_str (pa_cons pe_str (pa_cons pe_str pa_nil))))))))) pa_nil)))))) pss_nil)
      (pss_cons (ps_if (PW.pt (pw_and (pt_cmpR (x_eq (K := K) rfl hr.units) (pv 1) pe_str (nomark _)) (pw_and (pt_cmpR op_gt (pe_dget hu (pv 2) pe_str (fun _ _ => rfl)) pe_int (nomark _)) (pw_and1 (pt_cmpR (x_eq (K := K) rfl hr.units) (pe_call C__law_draw.ok (hr.mono (by (first | omega | (simp only [Nat.add_eq] at *; omega) | (simp only [Nat.add_eq]; omega)))) (by rfl) C__law_draw.g C__law_draw.kp C__law_draw.b .nil passT (pa_cons (pv 0) (pa_cons pe_int pa_nil))) pe_int (nomark _)))))) (pss_one (ps_ret (pe_call C__law_draw.ok (hr.mono (by (first | omega | (simp only [Nat.add_eq] at *; omega) | (simp only [Nat.add_eq]; omega)))) (by rfl) C__law_draw.g C__law_draw.kp C__law_draw.b .nil passT (pa_cons (pv 0) (pa_cons (pe_dget hu (pv 2) pe_str (fun _ _ => rfl)) pa_nil))))) pss_nil)
      (pss_cons (ps_if (pt_cmpR (x_eq (K := K) rfl hr.units) (pv 1) pe_str (nomark _)) (pss_one (ps_ret (pe_call C__law_some.ok (hr.mono (by (first | omega | (simp only [Nat.add_eq] at *; omega) | (simp only [Nat.add_eq]; omega)))) (by rfl) C__law_some.g C__law_some.kp C__law_some.b .nil passT (pa_cons (pv 0) (pa_cons (pv 2) (pa_cons (pe_call C__law_draw.ok (hr.mono (by (first | omega | (simp only [Nat.add_eq] at *; omega) | (simp only [Nat.add_eq]; omega)))) (by rfl) C__law_draw.g C__law_draw.kp C__law_draw.b .nil passT (pa_cons (pv 0) (pa_cons pe_int pa_nil))) pa_nil)))))) pss_nil)
      (pss_cons (ps_if (pt_cmpR (x_eq (K := K) rfl hr.units) (pv 1) pe_str (nomark _)) (pss_one (ps_ret (pe_call C__law_spots.ok (hr.mono (by (first | omega | (simp only [Nat.add_eq] at *; omega) | (simp only [Nat.add_eq]; omega)))) (by rfl) C__law_spots.g C__law_spots.kp C__law_spots.b .nil passT (pa_cons (pv 0) pa_nil)))) pss_nil)
      (pss_one (ps_ret (pe_call C__law_pick.ok (hr.mono (by (first | omega | (simp only [Nat.add_eq] at *; omega) | (simp only [Nat.add_eq]; omega)))) (by rfl) C__law_pick.g C__law_pick.kp C__law_pick.b .nil passT (pa_cons (pv 0) (pa_cons (pe_lst (pa_cons pe_str (pa_cons pe_str (pa_cons pe_str (pa_cons pe_str pa_nil))))) pa_nil)))))))))))))), def_run (N := N__law_good) (b := b__law_good)
    (sim_seq (by exact (sim_if (by exact (sim_test (sim_op so_eq sim_var sim_str))) (by exact (sim_frz (sim_ret (sim_call (sim_cons sim_var (sim_cons (sim_dget sim_var sim_str) sim_nil)))))) (by exact sim_next)))
      (sim_seq (by exact (sim_if (by exact (sim_test (sim_op so_eq sim_var sim_str))) (by exact (sim_ret (sim_call (sim_cons sim_var sim_nil)))) (by exact sim_next)))
      (sim_seq (by exact (sim_if (by exact (sim_test (sim_op so_eq sim_var sim_str))) (by exact (sim_ret (sim_call (sim_cons sim_var (sim_cons (sim_lst (sim_cons sim_int (sim_cons sim_int (sim_cons sim_int (sim_cons (sim_op so_add sim_int (sim_call (sim_cons sim_var (sim_cons sim_int sim_nil)))) sim_nil))))) sim_nil))))) (by exact sim_next)))
      (sim_seq (by exact (sim_if (by exact (sim_test (sim_op so_eq sim_var sim_str))) (by exact (sim_frz (sim_ret (sim_call (sim_cons sim_var (sim_cons (sim_dget sim_var sim_str) sim_nil)))))) (by exact sim_next)))
      (sim_seq (by exact (sim_if (by exact (sim_test (sim_op so_eq sim_var sim_str))) (by exact (sim_frz (sim_ret (sim_op so_add (sim_op so_add sim_var sim_int) (sim_call (sim_cons sim_var (sim_cons (sim_op so_sub (sim_op so_sub (sim_dget sim_var sim_str) sim_var) sim_int) sim_nil))))))) (by exact sim_next)))
      (sim_seq (by exact (sim_if (by exact (sim_test (sim_op so_eq sim_var sim_str))) (by exact (sim_seq (by exact (sim_set (sim_lst (sim_cons sim_str (sim_cons sim_str (sim_cons sim_str (sim_cons sim_str (sim_cons sim_str (sim_cons sim_str (sim_cons sim_str sim_nil))))))))))
      (sim_frz (sim_ret (sim_call (sim_cons sim_var (sim_cons (sim_op so_cat sim_var (sim_lst (sim_cons sim_str (sim_cons sim_str (sim_cons sim_str (sim_cons sim_str (sim_cons sim_str (sim_cons sim_str (sim_cons sim_str sim_nil))))))))) sim_nil))))))) (by exact sim_next)))
      (sim_seq (by exact (sim_frz (sim_if (by exact (sim_and (sim_test (sim_op so_eq sim_var sim_str)) (sim_and (sim_test (sim_op so_gt (sim_dget sim_var sim_str) sim_int)) (sim_test (sim_op so_eq (sim_call (sim_cons sim_var (sim_cons sim_int sim_nil))) sim_int))))) (by exact (sim_ret (sim_call (sim_cons sim_var (sim_cons (sim_dget sim_var sim_str) sim_nil))))) (by exact sim_next))))
      (sim_seq (by exact (sim_if (by exact (sim_test (sim_op so_eq sim_var sim_str))) (by exact (sim_ret (sim_call (sim_cons sim_var (sim_cons sim_var (sim_cons (sim_call (sim_cons sim_var (sim_cons sim_int sim_nil))) sim_nil)))))) (by exact sim_next)))
      (sim_seq (by exact (sim_if (by exact (sim_test (sim_op so_eq sim_var sim_str))) (by exact (sim_ret (sim_call (sim_cons sim_var sim_nil)))) (by exact sim_next)))
      (sim_ret (sim_call (sim_cons sim_var (sim_cons (sim_lst (sim_cons sim_str (sim_cons sim_str (sim_cons sim_str (sim_cons sim_str sim_nil))))) sim_nil))))))))))))) h⟩
theorem ok__law_deed {f : Addr} {fd : FuncData} (F : Fun K "_law_deed" "_law_deed" s__law_deed f fd) {f__law_last_kind : Addr} {fd__law_last_kind : FuncData} (C__law_last_kind : Callee P w K mg base 3 f__law_last_kind fd__law_last_kind "_law_last_kind" ["pool", "box", "at"] (spM (M.Env.mk K ca fa none) 3 m__law_last_kind)) {f__law_kind : Addr} {fd__law_kind : FuncData} (C__law_kind : Callee P w K mg base 3 f__law_kind fd__law_kind "_law_kind" ["pool", "box"] (spM (M.Env.mk K ca fa none) 2 m__law_kind)) {f__law_moves : Addr} {fd__law_moves : FuncData} (C__law_moves : Callee P w K mg base 3 f__law_moves fd__law_moves "_law_moves" ["pool", "box"] (spM (M.Env.mk K ca fa none) 2 m__law_moves)) {f__law_good : Addr} {fd__law_good : FuncData} (C__law_good : Callee P w K mg base 4 f__law_good fd__law_good "_law_good" ["pool", "letter", "box", "at"] (spM (M.Env.mk K ca fa none) 4 m__law_good)) (b_tuple : mg "tuple" = none) : FnOk P w K mg base CX0 5 f fd ["pool", "box", "at", "last"] (spM (M.Env.mk K ca fa none) 4 m__law_deed) := by
  refine FnOk.imp (F.ok sc__law_deed (sp_len (G := (M.Env.mk K ca fa none)) (m := m__law_deed) rfl) (fun cdv A outer s H vs Q E hr h => ?_)) (fun _ _ _ _ h => h)
  have hu := hu_of hr
  exact ⟨_, (pss_cons (ps_set (i := 4) sc__law_deed.nd rfl (.inl rfl) (pe_ifExp (x_tru (K := K) rfl (pv 3) (by intro _; rfl)) (pe_call C__law_last_kind.ok (hr.mono (by (first | omega | (simp only [Nat.add_eq] at *; omega) | (simp only [Nat.add_eq]; omega)))) (by rfl) C__law_last_kind.g C__law_last_kind.kp C__law_last_kind.b .nil passT (pa_cons (pv 0) (pa_cons (pv 1) (pa_cons (pv 2) pa_nil)))) pe_str))
      (pss_cons (ps_if (pt_not (x_tru (K := K) rfl (pv 3) (by intro _; rfl))) (pss_one (ps_set (i := 4) sc__law_deed.nd rfl (.inl rfl) (pe_call C__law_kind.ok (hr.mono (by (first | omega | (simp only [Nat.add_eq] at *; omega) | (simp only [Nat.add_eq]; omega)))) (by rfl) C__law_kind.g C__law_kind.kp C__law_kind.b .nil passT (pa_cons (pv 0) (pa_cons (pv 1) pa_nil))))) pss_nil)
      (pss_cons (ps_if (pt_cmpR (x_eq (K := K) rfl hr.units) (pv 4) pe_str (nomark _)) (pss_one (ps_ret (pe_call C__law_moves.ok (hr.mono (by (first | omega | (simp only [Nat.add_eq] at *; omega) | (simp only [Nat.add_eq]; omega)))) (by rfl) C__law_moves.g C__law_moves.kp C__law_moves.b .nil passT (pa_cons (pv 0) (pa_cons (pv 1) pa_nil))))) pss_nil)
      (pss_cons (ps_set (i := 5) sc__law_deed.nd rfl (.inl rfl) (pe_lst (pa_cons (pv 4) pa_nil)))
      (pss_cons (ps_for PassesOwn.never rfl (pi_str (pe_dget hu (pe_dget hu (pv 1) pe_str (fun _ _ => rfl)) (pv 4) (fun _ _ => rfl))) (pg_name (i := 6) sc__law_deed.nd rfl (.inl rfl)) (pss_one (ps_expr (pe_bm PySem.F.plainAttrs_list PySem.F.slot_list_append PySem.F.type_list_append mt_append (pv 5) (pa_cons (pe_call C__law_good.ok (hr.mono (by (first | omega | (simp only [Nat.add_eq] at *; omega) | (simp only [Nat.add_eq]; omega)))) (by rfl) C__law_good.g C__law_good.kp C__law_good.b .nil passT (pa_cons (pv 0) (pa_cons (pv 6) (pa_cons (pv 1) (pa_cons (pv 2) pa_nil))))) pa_nil)))))
      (pss_one (ps_ret (pe_callTy (x_tuple (K := K) rfl) (by rfl) b_tuple (by decide +kernel) (pa_cons (pv 5) pa_nil))))))))), def_run (N := N__law_deed) (b := b__law_deed)
    (sim_seq (by exact (sim_frz (sim_set (sim_ifE (sim_tru sim_var) (sim_call (sim_cons sim_var (sim_cons sim_var (sim_cons sim_var sim_nil)))) sim_str))))
      (sim_seq (by exact (sim_if (by exact (sim_not (sim_tru sim_var))) (by exact (sim_set (sim_call (sim_cons sim_var (sim_cons sim_var sim_nil))))) (by exact sim_next)))
      (sim_seq (by exact (sim_if (by exact (sim_test (sim_op so_eq sim_var sim_str))) (by exact (sim_ret (sim_call (sim_cons sim_var (sim_cons sim_var sim_nil))))) (by exact sim_next)))
      (sim_seq (by exact (sim_set (sim_lstO (sim_cons sim_var sim_nil))))
      (sim_seq (by exact (sim_for (by exact (sim_iStr (sim_dget (sim_dget sim_var sim_str) sim_var))) sim_gName (by exact (sim_drop (sim_LM sm_append sim_var (sim_cons (sim_call (sim_cons sim_var (sim_cons sim_var (sim_cons sim_var (sim_cons sim_var sim_nil))))) sim_nil))))))
      (sim_frz (sim_ret (sim_CB sb_tuple (sim_cons sim_var sim_nil))))))))) h⟩
theorem ok__law_grid {f : Addr} {fd : FuncData} (F : Fun K "_law_grid" "_law_grid" s__law_grid f fd) {f__law_draw : Addr} {fd__law_draw : FuncData} (C__law_draw : Callee P w K mg base 1 f__law_draw fd__law_draw "_law_draw" ["pool", "many"] (spM (M.Env.mk K ca fa none) 2 m__law_draw)) {f__law_deed : Addr} {fd__law_deed : FuncData} (C__law_deed : Callee P w K mg base 5 f__law_deed fd__law_deed "_law_deed" ["pool", "box", "at", "last"] (spM (M.Env.mk K ca fa none) 4 m__law_deed)) (b_range : mg "range" = none) (b_tuple : mg "tuple" = none) : FnOk P w K mg base CX0 6 f fd ["pool", "box"] (spM (M.Env.mk K ca fa none) 2 m__law_grid) := by
  refine FnOk.imp (F.ok sc__law_grid (sp_len (G := (M.Env.mk K ca fa none)) (m := m__law_grid) rfl) (fun cdv A outer s H vs Q E hr h => ?_)) (fun _ _ _ _ h => h)
  have hu := hu_of hr
  exact ⟨_, (pss_cons (ps_set (i := 2) sc__law_grid.nd rfl (.inl rfl) (pe_lst pa_nil))
      (pss_cons (ps_for PassesOwn.never rfl (pi_range1 (by rfl) b_range (pa_cons (pe_dget hu (pv 1) pe_str (fun _ _ => rfl)) pa_nil)) (pg_name (i := 3) sc__law_grid.nd rfl (.inl rfl)) (pss_cons (ps_set (i := 4) sc__law_grid.nd rfl (.inl rfl) (pe_lst pa_nil))
      (pss_cons (ps_for PassesOwn.never rfl (pi_range1 (by rfl) b_range (pa_cons (pe_call C__law_draw.ok (hr.mono (by (first | omega | (simp only [Nat.add_eq] at *; omega) | (simp only [Nat.add_eq]; omega)))) (by rfl) C__law_draw.g C__law_draw.kp C__law_draw.b .nil passT (pa_cons (pv 0) (pa_cons (pe_ifExp (pt_cmpR op_lt (pe_dget hu (pv 1) pe_str (fun _ _ => rfl)) pe_int (nomark _)) pe_int pe_int) pa_nil))) pa_nil)) (pg_name (i := 5) sc__law_grid.nd rfl (.inl rfl)) (pss_one (ps_expr (pe_bm PySem.F.plainAttrs_list PySem.F.slot_list_append PySem.F.type_list_append mt_append (pv 4) (pa_cons (pe_call C__law_deed.ok (hr.mono (by (first | omega | (simp only [Nat.add_eq] at *; omega) | (simp only [Nat.add_eq]; omega)))) (by rfl) C__law_deed.g C__law_deed.kp C__law_deed.b .nil passT (pa_cons (pv 0) (pa_cons (pv 1) (pa_cons (pv 3) (pa_cons pe_bl pa_nil))))) pa_nil)))))
      (pss_cons (ps_expr (pe_bm PySem.F.plainAttrs_list PySem.F.slot_list_append PySem.F.type_list_append mt_append (pv 4) (pa_cons (pe_call C__law_deed.ok (hr.mono (by (first | omega | (simp only [Nat.add_eq] at *; omega) | (simp only [Nat.add_eq]; omega)))) (by rfl) C__law_deed.g C__law_deed.kp C__law_deed.b .nil passT (pa_cons (pv 0) (pa_cons (pv 1) (pa_cons (pv 3) (pa_cons pe_bl pa_nil))))) pa_nil)))
      (pss_one (ps_expr (pe_bm PySem.F.plainAttrs_list PySem.F.slot_list_append PySem.F.type_list_append mt_append (pv 2) (pa_cons (pe_callTy (x_tuple (K := K) rfl) (by rfl) b_tuple (by decide +kernel) (pa_cons (pv 4) pa_nil)) pa_nil))))))))
      (pss_one (ps_ret (pv 2))))), def_run (N := N__law_grid) (b := b__law_grid)
    (sim_seq (by exact (sim_set (sim_lstO sim_nil)))
      (sim_seq (by exact (sim_frz (sim_for (by exact (sim_rng1 (sim_cons (sim_dget sim_var sim_str) sim_nil))) sim_gName (by exact (sim_seq (by exact (sim_set (sim_lstO sim_nil)))
      (sim_seq (by exact (sim_for (by exact (sim_rng1 (sim_cons (sim_call (sim_cons sim_var (sim_cons (sim_ifE (sim_test (sim_op so_lt (sim_dget sim_var sim_str) sim_int)) sim_int sim_int) sim_nil))) sim_nil))) sim_gName (by exact (sim_drop (sim_LM sm_append sim_var (sim_cons (sim_call (sim_cons sim_var (sim_cons sim_var (sim_cons sim_var (sim_cons sim_bl sim_nil))))) sim_nil))))))
      (sim_seq (by exact (sim_drop (sim_LM sm_append sim_var (sim_cons (sim_call (sim_cons sim_var (sim_cons sim_var (sim_cons sim_var (sim_cons sim_bl sim_nil))))) sim_nil))))
      (sim_frz (sim_drop (sim_LM sm_append sim_var (sim_cons (sim_CB sb_tuple (sim_cons sim_var sim_nil)) sim_nil)))))))))))
      (sim_ret sim_var))) h⟩
theorem ok__law_whole {f : Addr} {fd : FuncData} (F : Fun K "_law_whole" "_law_whole" s__law_whole f fd) (b_isinstance : mg "isinstance" = none) (b_int : mg "int" = none) (b_bool : mg "bool" = none) : FnOk P w K mg base CX0 1 f fd ["x"] (spM (M.Env.mk K ca fa none) 1 m__law_whole) := by
  refine FnOk.imp (F.ok sc__law_whole (sp_len (G := (M.Env.mk K ca fa none)) (m := m__law_whole) rfl) (fun cdv A outer s H vs Q E hr h => ?_)) (fun _ _ _ _ h => h)
  have hu := hu_of hr
  exact ⟨_, (pss_one (ps_ret (pe_and (pe_callB (x_isi (K := K) rfl) (by rfl) b_isinstance (by decide +kernel) (pa_cons (pv 0) (pa_cons (pe_bltn (v := .ty "int") (by rfl) b_int (by decide +kernel) rfl) pa_nil))) (pe_one (pe_not (pe_callB (x_isi (K := K) rfl) (by rfl) b_isinstance (by decide +kernel) (pa_cons (pv 0) (pa_cons (pe_bltn (v := .ty "bool") (by rfl) b_bool (by decide +kernel) rfl) pa_nil)))))))), def_run (N := N__law_whole) (b := b__law_whole)
    (sim_ret (sim_andV (sim_isi sim_var) (sim_notV (sim_isi sim_var)))) h⟩
theorem ok__law_chain {f : Addr} {fd : FuncData} (F : Fun K "_law_chain" "_law_chain" s__law_chain f fd) {f__law_whole : Addr} {fd__law_whole : FuncData} (C__law_whole : Callee P w K mg base 1 f__law_whole fd__law_whole "_law_whole" ["x"] (spM (M.Env.mk K ca fa none) 1 m__law_whole)) (b_isinstance : mg "isinstance" = none) (b_tuple : mg "tuple" = none) (b_len : mg "len" = none) (b_str : mg "str" = none) : FnOk P w K mg base CX0 2 f fd ["x"] (spM (M.Env.mk K ca fa none) 1 m__law_chain) := by
  refine FnOk.imp (F.ok sc__law_chain (sp_len (G := (M.Env.mk K ca fa none)) (m := m__law_chain) rfl) (fun cdv A outer s H vs Q E hr h => ?_)) (fun _ _ _ _ h => h)
  have hu := hu_of hr
  exact ⟨_, (pss_cons (ps_if (PW.pt (pw_or (pt_not (x_tru (K := K) rfl (pe_callB (x_isi (K := K) rfl) (by rfl) b_isinstance (by decide +kernel) (pa_cons (pv 0) (pa_cons (pe_bltn (v := .ty "tuple") (by rfl) b_tuple (by decide +kernel) rfl) pa_nil))) (by intro _; rfl))) (pw_or1 (pt_not (pt_chain op_le op_le pe_int (pe_callB (x_len (K := K) rfl) (by rfl) b_len (by decide +kernel) (pa_cons (pv 0) pa_nil)) pe_int))))) (pss_one (ps_ret pe_bl)) pss_nil)
      (pss_cons (ps_for PassesOwn.never rfl (x_pit (K := K) rfl (pv 0)) (pg_name (i := 1) sc__law_chain.nd rfl (.inl rfl)) (pss_cons (ps_if (PW.pt (pw_or (pt_not (x_tru (K := K) rfl (pe_callB (x_isi (K := K) rfl) (by rfl) b_isinstance (by decide +kernel) (pa_cons (pv 1) (pa_cons (pe_bltn (v := .ty "tuple") (by rfl) b_tuple (by decide +kernel) rfl) pa_nil))) (by intro _; rfl))) (pw_or1 (pt_cmpR (x_ne (K := K) rfl hr.units) (pe_callB (x_len (K := K) rfl) (by rfl) b_len (by decide +kernel) (pa_cons (pv 1) pa_nil)) pe_int (nomark _))))) (pss_one (ps_ret pe_bl)) pss_nil)
      (pss_one (ps_if (PW.pt (pw_or (pt_not (x_tru (K := K) rfl (pe_callB (x_isi (K := K) rfl) (by rfl) b_isinstance (by decide +kernel) (pa_cons (pe_ix (x_ix (K := K) rfl) (pv 1) pe_int (fun _ _ => rfl)) (pa_cons (pe_bltn (v := .ty "str") (by rfl) b_str (by decide +kernel) rfl) pa_nil))) (by intro _; rfl))) (pw_or1 (pt_not (x_tru (K := K) rfl (pe_call C__law_whole.ok (hr.mono (by (first | omega | (simp only [Nat.add_eq] at *; omega) | (simp only [Nat.add_eq]; omega)))) (by rfl) C__law_whole.g C__law_whole.kp C__law_whole.b .nil passT (pa_cons (pe_ix (x_ix (K := K) rfl) (pv 1) pe_int (fun _ _ => rfl)) pa_nil)) (by intro _; rfl)))))) (pss_one (ps_ret pe_bl)) pss_nil))))
      (pss_one (ps_ret pe_bl)))), def_run (N := N__law_chain) (b := b__law_chain)
    (sim_seq (by exact (sim_if (by exact (sim_or (sim_not (sim_tru (sim_isi sim_var))) (sim_not (sim_test (sim_chain so_le so_le sim_int (sim_CB sb_len (sim_cons sim_var sim_nil)) sim_int))))) (by exact (sim_ret sim_bl)) (by exact sim_next)))
      (sim_seq (by exact (sim_for (by exact (sim_iTup sim_var)) sim_gName (by exact (sim_seq (by exact (sim_if (by exact (sim_or (sim_not (sim_tru (sim_isi sim_var))) (sim_test (sim_op so_ne (sim_CB sb_len (sim_cons sim_var sim_nil)) sim_int)))) (by exact (sim_ret sim_bl)) (by exact sim_next)))
      (sim_if (by exact (sim_or (sim_not (sim_tru (sim_isi (sim_op so_ix sim_var sim_int)))) (sim_not (sim_tru (sim_call (sim_cons (sim_op so_ix sim_var sim_int) sim_nil)))))) (by exact (sim_ret sim_bl)) (by exact sim_next))))))
      (sim_ret sim_bl))) h⟩
theorem ok__law_entry {f__law_chain : Addr} {fd__law_chain : FuncData} (C__law_chain : Callee P w K mg base 2 f__law_chain fd__law_chain "_law_chain" ["x"] (spM (M.Env.mk K ca fa none) 1 m__law_chain)) {f__law_whole : Addr} {fd__law_whole : FuncData} (C__law_whole : Callee P w K mg base 1 f__law_whole fd__law_whole "_law_whole" ["x"] (spM (M.Env.mk K ca fa none) 1 m__law_whole)) {f__law_entry : Addr} {fd__law_entry : FuncData} (F__law_entry : Fun K "_law_entry" "_law_entry" s__law_entry f__law_entry fd__law_entry) (B__law_entry : Binds K fd__law_entry ["kind", "x", "box", "at"] []) (kp__law_entry : PySem.W.keepIn K (.ref f__law_entry) = true) (gg__law_entry : mg "_law_entry" = some (.ref f__law_entry)) (b_isinstance : mg "isinstance" = none) (b_tuple : mg "tuple" = none) (b_all : mg "all" = none) (b_str : mg "str" = none) : ∀ n : Nat, FnOk P w K mg base CX0 (3 + n) f__law_entry fd__law_entry ["kind", "x", "box", "at"] (spM (M.Env.mk K ca fa none) 4 (r__law_entry n)) := by
  intro n
  induction n with
  | zero => exact fn_bad rfl
  | succ n ih =>
  have ih__law_entry := ih
  have C__law_entry : Callee P w K mg base (3 + n) f__law_entry fd__law_entry "_law_entry" ["kind", "x", "box", "at"] (spM (M.Env.mk K ca fa none) 4 (r__law_entry n)) := ⟨ih__law_entry, kp__law_entry, B__law_entry, gg__law_entry⟩
  refine FnOk.imp (F__law_entry.ok sc__law_entry (sp_len (G := (M.Env.mk K ca fa none)) (m := r__law_entry (n + 1)) rfl) (fun cdv A outer s H vs Q E hr h => ?_)) (fun _ _ _ _ h => h)
  have hu := hu_of hr
  exact ⟨_, (pss_cons (ps_if (pt_cmpR (x_in (K := K) rfl) (pv 0) (pe_tup (pa_cons pe_str (pa_cons pe_str pa_nil))) rfl) (pss_one (ps_ret (pe_and (pe_callB (x_isi (K := K) rfl) (by rfl) b_isinstance (by decide +kernel) (pa_cons (pv 1) (pa_cons (pe_bltn (v := .ty "tuple") (by rfl) b_tuple (by decide +kernel) rfl) pa_nil))) (pe_one (pe_callB (x_all (K := K) rfl rfl) (by rfl) b_all (by decide +kernel) (pa_cons (pe_lc (own := [("y", 5)]) (g := gName 5) (tt := tYes) rfl sc__law_entry.nd (x_pit (K := K) rfl (pv 1)) (blkOk_by (own := [("y", 5)]) (N := N__law_entry) (sc := defScope s__law_entry) (by decide +kernel)) (fun _ _ _ _ _ => (pg_name (i := 5) sc__law_entry.nd rfl (.inl rfl))) (fun _ _ _ _ _ => pts_nil) (fun _ _ _ _ _ => (pe_call C__law_entry.ok (hr.mono (by (first | omega | (simp only [Nat.add_eq] at *; omega) | (simp only [Nat.add_eq]; omega)))) (by rfl) C__law_entry.g C__law_entry.kp C__law_entry.b .nil passT (pa_cons pe_str (pa_cons (pv 5) (pa_cons (pv 2) (pa_cons (pv 3) pa_nil))))))) pa_nil)))))) pss_nil)
      (pss_cons (ps_if (pt_cmpR (x_eq (K := K) rfl hr.units) (pv 0) pe_str (nomark _)) (pss_one (ps_ret (pe_call C__law_chain.ok (hr.mono (by (first | omega | (simp only [Nat.add_eq] at *; omega) | (simp only [Nat.add_eq]; omega)))) (by rfl) C__law_chain.g C__law_chain.kp C__law_chain.b .nil passT (pa_cons (pv 1) pa_nil)))) pss_nil)
      (pss_cons (ps_if (PW.pt (pw_and (pt_cmpR (x_eq (K := K) rfl hr.units) (pv 0) pe_str (nomark _)) (pw_and1 (x_tru (K := K) rfl (pe_call C__law_whole.ok (hr.mono (by (first | omega | (simp only [Nat.add_eq] at *; omega) | (simp only [Nat.add_eq]; omega)))) (by rfl) C__law_whole.g C__law_whole.kp C__law_whole.b .nil passT (pa_cons (pv 1) pa_nil)) (by intro _; rfl))))) (pss_one (ps_ret (pe_chain op_le op_lt pe_int (pv 1) (pe_dget hu (pv 2) pe_str (fun _ _ => rfl))))) pss_nil)
      (pss_cons (ps_if (pt_cmpR (x_in (K := K) rfl) (pv 0) (pe_tup (pa_cons pe_str (pa_cons pe_str pa_nil))) rfl) (pss_one (ps_ret (pe_callB (x_isi (K := K) rfl) (by rfl) b_isinstance (by decide +kernel) (pa_cons (pv 1) (pa_cons (pe_bltn (v := .ty "str") (by rfl) b_str (by decide +kernel) rfl) pa_nil))))) pss_nil)
      (pss_cons (ps_if (pt_cmpR (x_eq (K := K) rfl hr.units) (pv 0) pe_str (nomark _)) (pss_cons (ps_set (i := 4) sc__law_entry.nd rfl (.inl rfl) (pe_lst (pa_cons pe_str (pa_cons pe_str (pa_cons pe_str (pa_cons pe_str (pa_cons pe_str (pa_cons pe_str (pa_cons pe_str pa_nil)))))))))
      (pss_one (ps_ret (pe_and (pe_callB (x_isi (K := K) rfl) (by rfl) b_isinstance (by decide +kernel) (pa_cons (pv 1) (pa_cons (pe_bltn (v := .ty "str") (by rfl) b_str (by decide +kernel) rfl) pa_nil))) (pe_one (pe_cmpR (x_in (K := K) rfl) (pv 1) (pe_op op_cat (pv 4) (pe_lst (pa_cons pe_str (pa_cons pe_str (pa_cons pe_str (pa_cons pe_str (pa_cons pe_str (pa_cons pe_str (pa_cons pe_str pa_nil))))))))) rfl)))))) pss_nil)
      (pss_cons (ps_if (pt_not (x_tru (K := K) rfl (pe_call C__law_whole.ok (hr.mono (by (first | omega | (simp only [Nat.add_eq] at *; omega) | (simp only [Nat.add_eq]; omega)))) (by rfl) C__law_whole.g C__law_whole.kp C__law_whole.b .nil passT (pa_cons (pv 1) pa_nil)) (by intro _; rfl))) (pss_one (ps_ret pe_bl)) pss_nil)
      (pss_cons (ps_if (pt_cmpR (x_eq (K := K) rfl hr.units) (pv 0) pe_str (nomark _)) (pss_one (ps_ret (pe_chain op_le op_lt pe_int (pv 1) (pe_dget hu (pv 2) pe_str (fun _ _ => rfl))))) pss_nil)
      (pss_cons (ps_if (pt_cmpR (x_eq (K := K) rfl hr.units) (pv 0) pe_str (nomark _)) (pss_one (ps_ret (pe_chain op_le op_le (pe_un un_neg pe_int) (pv 1) pe_int))) pss_nil)
      (pss_cons (ps_if (pt_cmpR (x_eq (K := K) rfl hr.units) (pv 0) pe_str (nomark _)) (pss_one (ps_ret (pe_chain op_le op_le pe_int (pv 1) pe_int))) pss_nil)
      (pss_cons (ps_if (pt_cmpR (x_eq (K := K) rfl hr.units) (pv 0) pe_str (nomark _)) (pss_one (ps_ret (pe_chain op_lt op_lt (pv 3) (pv 1) (pe_dget hu (pv 2) pe_str (fun _ _ => rfl))))) pss_nil)
      (pss_one (ps_ret (pe_chain op_le op_lt pe_int (pv 1) (pe_dget hu (pv 2) pe_str (fun _ _ => rfl))))))))))))))), def_run (N := N__law_entry) (b := b__law_entry (r__law_entry n))
    (sim_seq (by exact (sim_if (by exact (sim_test (sim_op so_in sim_var (sim_tup (sim_cons sim_str (sim_cons sim_str sim_nil)))))) (by exact (sim_frz (sim_ret (sim_andV (sim_isi sim_var) (sim_CB sb_all (sim_cons (sim_lc (vs := [5]) (by exact (sim_iTup sim_var)) (sim_wName (by decide)) (by exact sim_yes) (by exact (sim_call (sim_cons sim_str (sim_cons sim_var (sim_cons sim_var (sim_cons sim_var sim_nil))))))) sim_nil)))))) (by exact sim_next)))
      (sim_seq (by exact (sim_if (by exact (sim_test (sim_op so_eq sim_var sim_str))) (by exact (sim_ret (sim_call (sim_cons sim_var sim_nil)))) (by exact sim_next)))
      (sim_seq (by exact (sim_if (by exact (sim_and (sim_test (sim_op so_eq sim_var sim_str)) (sim_tru (sim_call (sim_cons sim_var sim_nil))))) (by exact (sim_frz (sim_ret (sim_chain so_le so_lt sim_int sim_var (sim_dget sim_var sim_str))))) (by exact sim_next)))
      (sim_seq (by exact (sim_if (by exact (sim_test (sim_op so_in sim_var (sim_tup (sim_cons sim_str (sim_cons sim_str sim_nil)))))) (by exact (sim_ret (sim_isi sim_var))) (by exact sim_next)))
      (sim_seq (by exact (sim_if (by exact (sim_test (sim_op so_eq sim_var sim_str))) (by exact (sim_seq (by exact (sim_set (sim_lst (sim_cons sim_str (sim_cons sim_str (sim_cons sim_str (sim_cons sim_str (sim_cons sim_str (sim_cons sim_str (sim_cons sim_str sim_nil))))))))))
      (sim_frz (sim_ret (sim_andV (sim_isi sim_var) (sim_op so_in sim_var (sim_op so_cat sim_var (sim_lst (sim_cons sim_str (sim_cons sim_str (sim_cons sim_str (sim_cons sim_str (sim_cons sim_str (sim_cons sim_str (sim_cons sim_str sim_nil))))))))))))))) (by exact sim_next)))
      (sim_seq (by exact (sim_if (by exact (sim_not (sim_tru (sim_call (sim_cons sim_var sim_nil))))) (by exact (sim_ret sim_bl)) (by exact sim_next)))
      (sim_seq (by exact (sim_if (by exact (sim_test (sim_op so_eq sim_var sim_str))) (by exact (sim_frz (sim_ret (sim_chain so_le so_lt sim_int sim_var (sim_dget sim_var sim_str))))) (by exact sim_next)))
      (sim_seq (by exact (sim_if (by exact (sim_test (sim_op so_eq sim_var sim_str))) (by exact (sim_ret (sim_chain so_le so_le (sim_un so_neg sim_int) sim_var sim_int))) (by exact sim_next)))
      (sim_seq (by exact (sim_if (by exact (sim_test (sim_op so_eq sim_var sim_str))) (by exact (sim_ret (sim_chain so_le so_le sim_int sim_var sim_int))) (by exact sim_next)))
      (sim_seq (by exact (sim_if (by exact (sim_test (sim_op so_eq sim_var sim_str))) (by exact (sim_frz (sim_ret (sim_chain so_lt so_lt sim_var sim_var (sim_dget sim_var sim_str))))) (by exact sim_next)))
      (sim_frz (sim_ret (sim_chain so_le so_lt sim_int sim_var (sim_dget sim_var sim_str)))))))))))))) h⟩
theorem ok__law_fits {f : Addr} {fd : FuncData} (F : Fun K "_law_fits" "_law_fits" s__law_fits f fd) (nonfa : ∀ a, fa a ≠ .non) {f__law_entry : Addr} {fd__law_entry : FuncData} (C__law_entry : Callee P w K mg base 43 f__law_entry fd__law_entry "_law_entry" ["kind", "x", "box", "at"] (spM (M.Env.mk K ca fa none) 4 m__law_entry)) (b_isinstance : mg "isinstance" = none) (b_tuple : mg "tuple" = none) (b_len : mg "len" = none) (b_str : mg "str" = none) (b_range : mg "range" = none) : FnOk P w K mg base CX0 44 f fd ["deed", "box", "at"] (spM (M.Env.mk K ca fa none) 3 m__law_fits) := by
  refine FnOk.imp (F.ok sc__law_fits (sp_len (G := (M.Env.mk K ca fa none)) (m := m__law_fits) rfl) (fun cdv A outer s H vs Q E hr h => ?_)) (fun _ _ _ _ h => h)
  have hu := hu_of hr
  exact ⟨_, (pss_cons (ps_if (PW.pt (pw_or (pt_not (x_tru (K := K) rfl (pe_callB (x_isi (K := K) rfl) (by rfl) b_isinstance (by decide +kernel) (pa_cons (pv 0) (pa_cons (pe_bltn (v := .ty "tuple") (by rfl) b_tuple (by decide +kernel) rfl) pa_nil))) (by intro _; rfl))) (pw_or (pt_cmpR (x_eq (K := K) rfl hr.units) (pe_callB (x_len (K := K) rfl) (by rfl) b_len (by decide +kernel) (pa_cons (pv 0) pa_nil)) pe_int (nomark _)) (pw_or1 (pt_not (x_tru (K := K) rfl (pe_callB (x_isi (K := K) rfl) (by rfl) b_isinstance (by decide +kernel) (pa_cons (pe_ix (x_ix (K := K) rfl) (pv 0) pe_int (fun _ _ => rfl)) (pa_cons (pe_bltn (v := .ty "str") (by rfl) b_str (by decide +kernel) rfl) pa_nil))) (by intro _; rfl))))))) (pss_one (ps_ret pe_bl)) pss_nil)
      (pss_cons (ps_set (i := 3) sc__law_fits.nd rfl (.inl rfl) (pe_dget2 hu (pe_dget hu (pv 1) pe_str (fun _ _ => rfl)) (pe_ix (x_ix (K := K) rfl) (pv 0) pe_int (fun _ _ => rfl)) pe_non ⟨by rfl, by rfl, by rfl, by rfl⟩))
      (pss_cons (ps_if (PW.pt (pw_or (pt_cmp (pc_isN (pv 3))) (pw_or1 (pt_cmpR (x_ne (K := K) rfl hr.units) (pe_callB (x_len (K := K) rfl) (by rfl) b_len (by decide +kernel) (pa_cons (pv 0) pa_nil)) (pe_op op_add (pe_callB (call_len_str) (by rfl) b_len (by decide +kernel) (pa_cons (pv 3) pa_nil)) pe_int) (nomark _))))) (pss_one (ps_ret pe_bl)) pss_nil)
      (pss_cons (ps_for PassesOwn.never rfl (pi_range1 (by rfl) b_range (pa_cons (pe_callB (call_len_str) (by rfl) b_len (by decide +kernel) (pa_cons (pv 3) pa_nil)) pa_nil)) (pg_name (i := 4) sc__law_fits.nd rfl (.inl rfl)) (pss_one (ps_if (pt_not (x_tru (K := K) rfl (pe_call C__law_entry.ok (hr.mono (by (first | omega | (simp only [Nat.add_eq] at *; omega) | (simp only [Nat.add_eq]; omega)))) (by rfl) C__law_entry.g C__law_entry.kp C__law_entry.b .nil passT (pa_cons (pe_ix ix_str (pv 3) (pv 4) (fun _ _ => rfl)) (pa_cons (pe_ix (x_ix (K := K) rfl) (pv 0) (pe_op op_add (pv 4) pe_int) (fun _ _ => rfl)) (pa_cons (pv 1) (pa_cons (pv 2) pa_nil))))) (by intro _; rfl))) (pss_one (ps_ret pe_bl)) pss_nil)))
      (pss_cons (ps_if (pt_cmpR (x_eq (K := K) rfl hr.units) (pe_ix (x_ix (K := K) rfl) (pv 0) pe_int (fun _ _ => rfl)) pe_str (nomark _)) (pss_cons (ps_set (i := 5) sc__law_fits.nd rfl (.inr rfl) (pe_ix (x_ix (K := K) rfl) (pv 0) pe_int (fun _ _ => rfl)))
      (pss_cons (ps_setLc (i := 6) (own := [("k", 4)]) (g := gName 4) rfl sc__law_fits.nd rfl rfl (sw_true rfl rfl rfl (by decide +kernel)) (pi_range1 (by rfl) b_range (pa_cons (pe_callB (x_len (K := K) rfl) (by rfl) b_len (by decide +kernel) (pa_cons (pv 5) pa_nil)) pa_nil)) (blkOk_by (own := [("k", 4)]) (N := N__law_fits) (sc := defScope s__law_fits) (by decide +kernel)) (fun _ _ _ _ _ => (pg_name (i := 4) sc__law_fits.nd rfl (.inl rfl))) (fun _ _ _ _ _ => (pts_one (pt_cmpR (x_in (K := K) rfl) (pe_ix (x_ix (K := K) rfl) (pv 5) (pv 4) (fun _ _ => rfl)) (pe_slice (x_slT (K := K) rfl) (pv 5) po_none (po_some (pv 4))) rfl))) (fun _ _ _ _ _ => (pv 4)))
      (pss_one (ps_ret (pe_and (pe_cmpR (x_eq (K := K) rfl hr.units) (pe_callB (x_len (K := K) rfl) (by rfl) b_len (by decide +kernel) (pa_cons (pv 5) pa_nil)) (pe_callB (x_len (K := K) rfl) (by rfl) b_len (by decide +kernel) (pa_cons (pe_ix (x_ix (K := K) rfl) (pv 0) pe_int (fun _ _ => rfl)) pa_nil)) (nomark _)) (pe_one (pe_cmpR (x_eq (K := K) rfl hr.units) (pe_callB (x_len (K := K) rfl) (by rfl) b_len (by decide +kernel) (pa_cons (pv 6) pa_nil)) pe_int (nomark _)))))))) pss_nil)
      (pss_one (ps_ret pe_bl))))))), def_run (N := N__law_fits) (b := b__law_fits)
    (sim_seq (by exact (sim_if (by exact (sim_or (sim_not (sim_tru (sim_isi sim_var))) (sim_or (sim_test (sim_op so_eq (sim_CB sb_len (sim_cons sim_var sim_nil)) sim_int)) (sim_not (sim_tru (sim_isi (sim_op so_ix sim_var sim_int))))))) (by exact (sim_ret sim_bl)) (by exact sim_next)))
      (sim_seq (by exact (sim_frz (sim_set (sim_dget2 (sim_dget sim_var sim_str) (sim_op so_ix sim_var sim_int) sim_non))))
      (sim_seq (by exact (sim_if (by exact (sim_or (sim_B (sim_isN nonfa sim_var)) (sim_test (sim_op so_ne (sim_CB sb_len (sim_cons sim_var sim_nil)) (sim_op so_add (sim_CB sb_lenS (sim_cons sim_var sim_nil)) sim_int))))) (by exact (sim_ret sim_bl)) (by exact sim_next)))
      (sim_seq (by exact (sim_for (by exact (sim_rng1 (sim_cons (sim_CB sb_lenS (sim_cons sim_var sim_nil)) sim_nil))) sim_gName (by exact (sim_if (by exact (sim_not (sim_tru (sim_call (sim_cons (sim_op so_ixS sim_var sim_var) (sim_cons (sim_op so_ix sim_var (sim_op so_add sim_var sim_int)) (sim_cons sim_var (sim_cons sim_var sim_nil)))))))) (by exact (sim_ret sim_bl)) (by exact sim_next)))))
      (sim_seq (by exact (sim_if (by exact (sim_test (sim_op so_eq (sim_op so_ix sim_var sim_int) sim_str))) (by exact (sim_seq (by exact (sim_set (sim_op so_ix sim_var sim_int)))
      (sim_seq (by exact (sim_set (sim_lc (vs := [4]) (by exact (sim_rng1 (sim_cons (sim_CB sb_len (sim_cons sim_var sim_nil)) sim_nil))) (sim_wName (by decide)) (by exact (sim_test (sim_op so_in (sim_op so_ix sim_var sim_var) (sim_sl so_slT sim_var sim_noPart (sim_part sim_var))))) (by exact sim_var))))
      (sim_frz (sim_ret (sim_andV (sim_op so_eq (sim_CB sb_len (sim_cons sim_var sim_nil)) (sim_CB sb_len (sim_cons (sim_op so_ix sim_var sim_int) sim_nil))) (sim_op so_eq (sim_CB sb_len (sim_cons sim_var sim_nil)) sim_int))))))) (by exact sim_next)))
      (sim_ret sim_bl)))))) h⟩
theorem ok__law_fault {f : Addr} {fd : FuncData} (F : Fun K "_law_fault" "_law_fault" s__law_fault f fd) {f__law_table : Addr} {fd__law_table : FuncData} (C__law_table : Callee P w K mg base 1 f__law_table fd__law_table "_law_table" [] (spM (M.Env.mk K ca fa none) 0 m__law_table)) {f__law_entry : Addr} {fd__law_entry : FuncData} (C__law_entry : Callee P w K mg base 43 f__law_entry fd__law_entry "_law_entry" ["kind", "x", "box", "at"] (spM (M.Env.mk K ca fa none) 4 m__law_entry)) {f__law_fits : Addr} {fd__law_fits : FuncData} (C__law_fits : Callee P w K mg base 44 f__law_fits fd__law_fits "_law_fits" ["deed", "box", "at"] (spM (M.Env.mk K ca fa none) 3 m__law_fits)) (b_len : mg "len" = none) (b_range : mg "range" = none) : FnOk P w K mg base CX0 45 f fd ["heads", "wide", "rows", "grid"] (spM (M.Env.mk K ca fa none) 4 m__law_fault) := by
  refine FnOk.imp (F.ok sc__law_fault (sp_len (G := (M.Env.mk K ca fa none)) (m := m__law_fault) rfl) (fun cdv A outer s H vs Q E hr h => ?_)) (fun _ _ _ _ h => h)
  have hu := hu_of hr
  exact ⟨_, (pss_cons (ps_set (i := 4) sc__law_fault.nd rfl (.inl rfl) (pe_disp (pps_cons pe_str (pv 1) (pps_cons pe_str (pe_callB (x_len (K := K) rfl) (by rfl) b_len (by decide +kernel) (pa_cons (pv 2) pa_nil)) (pps_cons pe_str (pe_callB (x_len (K := K) rfl) (by rfl) b_len (by decide +kernel) (pa_cons (pv 3) pa_nil)) (pps_cons pe_str (pe_call0 C__law_table.ok (hr.mono (by (first | omega | (simp only [Nat.add_eq] at *; omega) | (simp only [Nat.add_eq]; omega)))) (by rfl) C__law_table.g C__law_table.kp C__law_table.b .nil passT) pps_nil)))) (by rfl) (by rfl) (fun z => by cases z) (by decide)))
      (pss_cons (ps_for PassesOwn.never rfl (pi_range1 (by rfl) b_range (pa_cons (pe_callB (x_len (K := K) rfl) (by rfl) b_len (by decide +kernel) (pa_cons (pv 0) pa_nil)) pa_nil)) (pg_name (i := 5) sc__law_fault.nd rfl (.inl rfl)) (pss_cons (ps_set (i := 6) sc__law_fault.nd rfl (.inl rfl) (pe_ix (x_ix (K := K) rfl) (pv 0) (pv 5) (fun _ _ => rfl)))
      (pss_one (ps_if (PW.pt (pw_or (pt_not (x_tru (K := K) rfl (pe_call C__law_entry.ok (hr.mono (by (first | omega | (simp only [Nat.add_eq] at *; omega) | (simp only [Nat.add_eq]; omega)))) (by rfl) C__law_entry.g C__law_entry.kp C__law_entry.b .nil passT (pa_cons pe_str (pa_cons (pv 6) (pa_cons (pv 4) (pa_cons pe_int pa_nil))))) (by intro _; rfl))) (pw_or1 (pt_cmpR (x_in (K := K) rfl) (pv 6) (pe_slice (x_slT (K := K) rfl) (pv 0) po_none (po_some (pv 5))) rfl)))) (pss_one (ps_ret (pe_tup (pa_cons (pe_un un_neg pe_int) (pa_cons (pv 5) pa_nil))))) pss_nil))))
      (pss_cons (ps_if (pt_cmpR (x_eq (K := K) rfl hr.units) (pe_callB (x_len (K := K) rfl) (by rfl) b_len (by decide +kernel) (pa_cons (pv 3) pa_nil)) pe_int (nomark _)) (pss_one (ps_ret (pe_tup (pa_cons pe_int (pa_cons pe_int pa_nil))))) pss_nil)
      (pss_cons (ps_for PassesOwn.never rfl (pi_range1 (by rfl) b_range (pa_cons (pe_callB (x_len (K := K) rfl) (by rfl) b_len (by decide +kernel) (pa_cons (pv 3) pa_nil)) pa_nil)) (pg_name (i := 7) sc__law_fault.nd rfl (.inl rfl)) (pss_cons (ps_if (pt_cmpR (x_eq (K := K) rfl hr.units) (pe_callB (x_len (K := K) rfl) (by rfl) b_len (by decide +kernel) (pa_cons (pe_ix (x_ix (K := K) rfl) (pv 3) (pv 7) (fun _ _ => rfl)) pa_nil)) pe_int (nomark _)) (pss_one (ps_ret (pe_tup (pa_cons (pv 7) (pa_cons pe_int pa_nil))))) pss_nil)
      (pss_one (ps_for PassesOwn.never rfl (pi_range1 (by rfl) b_range (pa_cons (pe_callB (x_len (K := K) rfl) (by rfl) b_len (by decide +kernel) (pa_cons (pe_ix (x_ix (K := K) rfl) (pv 3) (pv 7) (fun _ _ => rfl)) pa_nil)) pa_nil)) (pg_name (i := 5) sc__law_fault.nd rfl (.inl rfl)) (pss_cons (ps_set (i := 8) sc__law_fault.nd rfl (.inl rfl) (pe_ix (x_ix (K := K) rfl) (pe_ix (x_ix (K := K) rfl) (pv 3) (pv 7) (fun _ _ => rfl)) (pv 5) (fun _ _ => rfl)))
      (pss_cons (ps_if (pt_not (x_tru (K := K) rfl (pe_call C__law_fits.ok (hr.mono (by (first | omega | (simp only [Nat.add_eq] at *; omega) | (simp only [Nat.add_eq]; omega)))) (by rfl) C__law_fits.g C__law_fits.kp C__law_fits.b .nil passT (pa_cons (pv 8) (pa_cons (pv 4) (pa_cons (pv 7) pa_nil)))) (by intro _; rfl))) (pss_one (ps_ret (pe_tup (pa_cons (pv 7) (pa_cons (pv 5) pa_nil))))) pss_nil)
      (pss_one (ps_if (pt_cmpR (x_ne (K := K) rfl hr.units) (pe_cmpR (x_in (K := K) rfl) (pe_ix (x_ix (K := K) rfl) (pv 8) pe_int (fun _ _ => rfl)) (pe_tup (pa_cons pe_str (pa_cons pe_str (pa_cons pe_str pa_nil)))) rfl) (pe_cmpR (x_eq (K := K) rfl hr.units) (pv 5) (pe_op op_sub (pe_callB (x_len (K := K) rfl) (by rfl) b_len (by decide +kernel) (pa_cons (pe_ix (x_ix (K := K) rfl) (pv 3) (pv 7) (fun _ _ => rfl)) pa_nil)) pe_int) (nomark _)) (nomark _)) (pss_one (ps_ret (pe_tup (pa_cons (pv 7) (pa_cons (pv 5) pa_nil))))) pss_nil))))))))
      (pss_one (ps_ret pe_non)))))), def_run (N := N__law_fault) (b := b__law_fault)
    (sim_seq (by exact (sim_set (sim_disp (.cons sim_str sim_var (.cons sim_str (sim_CB sb_len (sim_cons sim_var sim_nil)) (.cons sim_str (sim_CB sb_len (sim_cons sim_var sim_nil)) (.cons sim_str (sim_call sim_nil) .nil)))))))
      (sim_seq (by exact (sim_for (by exact (sim_rng1 (sim_cons (sim_CB sb_len (sim_cons sim_var sim_nil)) sim_nil))) sim_gName (by exact (sim_seq (by exact (sim_set (sim_op so_ix sim_var sim_var)))
      (sim_frz (sim_if (by exact (sim_or (sim_not (sim_tru (sim_call (sim_cons sim_str (sim_cons sim_var (sim_cons sim_var (sim_cons sim_int sim_nil))))))) (sim_test (sim_op so_in sim_var (sim_sl so_slT sim_var sim_noPart (sim_part sim_var)))))) (by exact (sim_ret (sim_tup (sim_cons (sim_un so_neg sim_int) (sim_cons sim_var sim_nil))))) (by exact sim_next)))))))
      (sim_seq (by exact (sim_if (by exact (sim_test (sim_op so_eq (sim_CB sb_len (sim_cons sim_var sim_nil)) sim_int))) (by exact (sim_ret (sim_tup (sim_cons sim_int (sim_cons sim_int sim_nil))))) (by exact sim_next)))
      (sim_seq (by exact (sim_for (by exact (sim_rng1 (sim_cons (sim_CB sb_len (sim_cons sim_var sim_nil)) sim_nil))) sim_gName (by exact (sim_seq (by exact (sim_if (by exact (sim_test (sim_op so_eq (sim_CB sb_len (sim_cons (sim_op so_ix sim_var sim_var) sim_nil)) sim_int))) (by exact (sim_ret (sim_tup (sim_cons sim_var (sim_cons sim_int sim_nil))))) (by exact sim_next)))
      (sim_for (by exact (sim_rng1 (sim_cons (sim_CB sb_len (sim_cons (sim_op so_ix sim_var sim_var) sim_nil)) sim_nil))) sim_gName (by exact (sim_seq (by exact (sim_set (sim_op so_ix (sim_op so_ix sim_var sim_var) sim_var)))
      (sim_seq (by exact (sim_frz (sim_if (by exact (sim_not (sim_tru (sim_call (sim_cons sim_var (sim_cons sim_var (sim_cons sim_var sim_nil))))))) (by exact (sim_ret (sim_tup (sim_cons sim_var (sim_cons sim_var sim_nil))))) (by exact sim_next))))
      (sim_if (by exact (sim_test (sim_op so_ne (sim_op so_in (sim_op so_ix sim_var sim_int) (sim_tup (sim_cons sim_str (sim_cons sim_str (sim_cons sim_str sim_nil))))) (sim_op so_eq sim_var (sim_op so_sub (sim_CB sb_len (sim_cons (sim_op so_ix sim_var sim_var) sim_nil)) sim_int))))) (by exact (sim_ret (sim_tup (sim_cons sim_var (sim_cons sim_var sim_nil))))) (by exact sim_next))))))))))
      (sim_ret sim_non))))) h⟩
theorem ok_is_within {f : Addr} {fd : FuncData} (F : Fun K "is_within" "is_within" s_is_within f fd) (b_isinstance : mg "isinstance" = none) (b_int : mg "int" = none) : FnOk P w K mg base CX0 1 f fd ["entry", "least", "greatest"] (spM (M.Env.mk K ca fa none) 3 m_is_within) := by
  refine FnOk.imp (F.ok sc_is_within (sp_len (G := (M.Env.mk K ca fa none)) (m := m_is_within) rfl) (fun cdv A outer s H vs Q E hr h => ?_)) (fun _ _ _ _ h => h)
  have hu := hu_of hr
  exact ⟨_, (pss_one (ps_ret (pe_and (pe_callB (x_isi (K := K) rfl) (by rfl) b_isinstance (by decide +kernel) (pa_cons (pv 0) (pa_cons (pe_bltn (v := .ty "int") (by rfl) b_int (by decide +kernel) rfl) pa_nil))) (pe_one (pe_chain op_le op_le (pv 1) (pv 0) (pv 2)))))), def_run (N := N_is_within) (b := b_is_within)
    (sim_ret (sim_andV (sim_isi sim_var) (sim_chain so_le so_le sim_var sim_var sim_var))) h⟩
theorem ok_BadFlow___init__ {f : Addr} {fd : FuncData} (F : Fun K "__init__" "BadFlow.__init__" s_BadFlow___init__ f fd) : FnOk P w K mg base CX0 1 f fd ["self", "block", "position"] (spX2 (M.Env.mk K ca fa none).K "block" "position") := by
  refine F.ok sc_BadFlow___init__ (spX2_len rfl) (fun cdv A outer s H vs Q E hr h => ?_)
  exact ⟨_, (pss_cons (ps_ost (pv 0) (pv 1)) (pss_one (ps_ost (pv 0) (pv 2)))), x2_run h⟩
theorem ok_check_params {f : Addr} {fd : FuncData} (F : Fun K "check_params" "check_params" s_check_params f fd) {C_BadFlow : Addr} (hc_BadFlow : ca "BadFlow" = C_BadFlow) (g_BadFlow : mg "BadFlow" = some (.ref C_BadFlow)) {C_RunsError : Addr} (hc_RunsError : ca "RunsError" = C_RunsError) (g_RunsError : mg "RunsError" = some (.ref C_RunsError)) {f_is_within : Addr} {fd_is_within : FuncData} (C_is_within : Callee P w K mg base 1 f_is_within fd_is_within "is_within" ["entry", "least", "greatest"] (spM (M.Env.mk K ca fa none) 3 m_is_within)) {f_BadFlow___init__ : Addr} {fd_BadFlow___init__ : FuncData} (C_BadFlow___init__ : CalleeM P w K mg base 1 f_BadFlow___init__ fd_BadFlow___init__ ["self", "block", "position"] (spX2 (M.Env.mk K ca fa none).K "block" "position")) (T_BadFlow : TxE K C_BadFlow ["block", "position"]) (J_BadFlow : MkX K C_BadFlow f_BadFlow___init__) (b_enumerate : mg "enumerate" = none) : FnOk P w K mg base (L2.CX P w) 3 f fd ["params", "count"] (spM (M.Env.mk K ca fa none) 2 m_check_params) := by
  refine FnOk.imp (F.okX sc_check_params (sp_len (G := (M.Env.mk K ca fa none)) (m := m_check_params) rfl) (fun cdv A outer s H vs Q E hr h => ?_)) (fun _ _ _ _ h => h)
  have hu := hu_of hr
  exact ⟨_, (pss_one (ps_for (passes_of rfl) rfl (ENT.pi_enumT (by rfl) b_enumerate (pa_cons (pv 0) pa_nil)) (pg_tup rfl (pgs_cons (pg_name (i := 2) sc_check_params.nd rfl (.inl rfl)) (pgs_cons (pg_name (i := 3) sc_check_params.nd rfl (.inl rfl)) pgs_nil))) (pss_one (ps_if (PW.pt (pw_or (pt_not (x_tru (K := K) rfl (pe_call C_is_within.ok (hr.mono (by (first | omega | (simp only [Nat.add_eq] at *; omega) | (simp only [Nat.add_eq]; omega)))) (by rfl) C_is_within.g C_is_within.kp C_is_within.b .nil passT (pa_cons (pv 3) (pa_cons pe_int (pa_cons (pe_op op_sub (pv 1) pe_int) pa_nil)))) (by intro _; rfl))) (pw_or1 (pt_cmpR (x_in (K := K) rfl) (pv 3) (pe_slice (x_slT (K := K) rfl) (pv 0) po_none (po_some (pv 2))) rfl)))) (pss_one (ps_raise rfl (takes_of rfl rfl rfl rfl) (pmk_oex T_BadFlow.ox J_BadFlow.iC J_BadFlow.tI C_BadFlow___init__.ok (hr.mono (by (first | omega | (simp only [Nat.add_eq] at *; omega) | (simp only [Nat.add_eq]; omega)))) C_BadFlow___init__.b .nil pass0 (by rfl) g_BadFlow (pa_cons (pe_un un_neg pe_int) (pa_cons (pv 2) pa_nil))))) pss_nil)))), def_run (N := N_check_params) (b := b_check_params)
    (sim_for (by exact (sim_enumT (sim_cons sim_var sim_nil))) (sim_gTup (sim_gCons sim_gName (sim_gCons sim_gName sim_gNil))) (by exact (sim_if (by exact (sim_or (sim_not (sim_tru (sim_call (sim_cons sim_var (sim_cons sim_int (sim_cons (sim_op so_sub sim_var sim_int) sim_nil)))))) (sim_test (sim_op so_in sim_var (sim_sl so_slT sim_var sim_noPart (sim_part sim_var)))))) (by exact (sim_raise2 hc_BadFlow T_BadFlow (sim_cons (sim_un so_neg sim_int) (sim_cons sim_var sim_nil)))) (by exact sim_next)))) h⟩
theorem ok_fits_word {f : Addr} {fd : FuncData} (F : Fun K "fits_word" "fits_word" s_fits_word f fd) (g_LEAST : ∃ t, mg "LEAST" = some (.int (-2147483648) t)) (g_GREATEST : ∃ t, mg "GREATEST" = some (.int (2147483647) t)) {f_is_within : Addr} {fd_is_within : FuncData} (C_is_within : Callee P w K mg base 1 f_is_within fd_is_within "is_within" ["entry", "least", "greatest"] (spM (M.Env.mk K ca fa none) 3 m_is_within)) : FnOk P w K mg base CX0 2 f fd ["flow", "number", "entry"] (spM (M.Env.mk K ca fa none) 3 m_fits_word) := by
  refine FnOk.imp (F.ok sc_fits_word (sp_len (G := (M.Env.mk K ca fa none)) (m := m_fits_word) rfl) (fun cdv A outer s H vs Q E hr h => ?_)) (fun _ _ _ _ h => h)
  have hu := hu_of hr
  obtain ⟨t_LEAST, g_LEAST⟩ := g_LEAST
  obtain ⟨t_GREATEST, g_GREATEST⟩ := g_GREATEST
  exact ⟨_, (pss_one (ps_ret (pe_call C_is_within.ok (hr.mono (by (first | omega | (simp only [Nat.add_eq] at *; omega) | (simp only [Nat.add_eq]; omega)))) (by rfl) C_is_within.g C_is_within.kp C_is_within.b .nil passT (pa_cons (pv 2) (pa_cons (pe_glob (v := .int (-2147483648)) (by rfl) g_LEAST ⟨_, rfl⟩) (pa_cons (pe_glob (v := .int (2147483647)) (by rfl) g_GREATEST ⟨_, rfl⟩) pa_nil)))))), def_run (N := N_fits_word) (b := b_fits_word)
    (sim_ret (sim_call (sim_cons sim_var (sim_cons sim_int (sim_cons sim_int sim_nil))))) h⟩
theorem ok_fits_variables {f : Addr} {fd : FuncData} (F : Fun K "fits_variables" "fits_variables" s_fits_variables f fd) {C_Flow : Addr} (hc_Flow : ca "Flow" = C_Flow) (g_Flow : mg "Flow" = some (.ref C_Flow)) (T_Flow : TxC K C_Flow ["name", "params", "count", "arrays", "blocks"]) {f_is_within : Addr} {fd_is_within : FuncData} (C_is_within : Callee P w K mg base 1 f_is_within fd_is_within "is_within" ["entry", "least", "greatest"] (spM (M.Env.mk K ca fa none) 3 m_is_within)) (b_isinstance : mg "isinstance" = none) (b_tuple : mg "tuple" = none) (b_all : mg "all" = none) : FnOk P w K mg base CX0 2 f fd ["flow", "number", "entry"] (spM (M.Env.mk K ca fa none) 3 m_fits_variables) := by
  refine FnOk.imp (F.ok sc_fits_variables (sp_len (G := (M.Env.mk K ca fa none)) (m := m_fits_variables) rfl) (fun cdv A outer s H vs Q E hr h => ?_)) (fun _ _ _ _ h => h)
  have hu := hu_of hr
  exact ⟨_, (pss_one (ps_ret (pe_and (pe_callB (x_isi (K := K) rfl) (by rfl) b_isinstance (by decide +kernel) (pa_cons (pv 2) (pa_cons (pe_bltn (v := .ty "tuple") (by rfl) b_tuple (by decide +kernel) rfl) pa_nil))) (pe_one (pe_callB (x_all (K := K) rfl rfl) (by rfl) b_all (by decide +kernel) (pa_cons (pe_lc (own := [("one", 3)]) (g := gName 3) (tt := tYes) rfl sc_fits_variables.nd (x_pit (K := K) rfl (pv 2)) (blkOk_by (own := [("one", 3)]) (N := N_fits_variables) (sc := defScope s_fits_variables) (by decide +kernel)) (fun _ _ _ _ _ => (pg_name (i := 3) sc_fits_variables.nd rfl (.inl rfl))) (fun _ _ _ _ _ => pts_nil) (fun _ _ _ _ _ => (pe_call C_is_within.ok (hr.mono (by (first | omega | (simp only [Nat.add_eq] at *; omega) | (simp only [Nat.add_eq]; omega)))) (by rfl) C_is_within.g C_is_within.kp C_is_within.b .nil passT (pa_cons (pv 3) (pa_cons pe_int (pa_cons (pe_op op_sub (x_fld (K := K) rfl (pv 0) rfl) pe_int) pa_nil)))))) pa_nil)))))), def_run (N := N_fits_variables) (b := b_fits_variables)
    (sim_ret (sim_andV (sim_isi sim_var) (sim_CB sb_all (sim_cons (sim_lc (vs := [3]) (by exact (sim_iTup sim_var)) (sim_wName (by decide)) (by exact sim_yes) (by exact (sim_call (sim_cons sim_var (sim_cons sim_int (sim_cons (sim_op so_sub (sim_fld (c := "Flow") (cl_at hc_Flow T_Flow) (no_at hc_Flow T_Flow (by simp)) sim_var) sim_int) sim_nil)))))) sim_nil)))) h⟩
theorem ok_fits_variable {f : Addr} {fd : FuncData} (F : Fun K "fits_variable" "fits_variable" s_fits_variable f fd) {C_Flow : Addr} (hc_Flow : ca "Flow" = C_Flow) (g_Flow : mg "Flow" = some (.ref C_Flow)) (T_Flow : TxC K C_Flow ["name", "params", "count", "arrays", "blocks"]) {f_is_within : Addr} {fd_is_within : FuncData} (C_is_within : Callee P w K mg base 1 f_is_within fd_is_within "is_within" ["entry", "least", "greatest"] (spM (M.Env.mk K ca fa none) 3 m_is_within)) : FnOk P w K mg base CX0 2 f fd ["flow", "number", "entry"] (spM (M.Env.mk K ca fa none) 3 m_fits_variable) := by
  refine FnOk.imp (F.ok sc_fits_variable (sp_len (G := (M.Env.mk K ca fa none)) (m := m_fits_variable) rfl) (fun cdv A outer s H vs Q E hr h => ?_)) (fun _ _ _ _ h => h)
  have hu := hu_of hr
  exact ⟨_, (pss_one (ps_ret (pe_call C_is_within.ok (hr.mono (by (first | omega | (simp only [Nat.add_eq] at *; omega) | (simp only [Nat.add_eq]; omega)))) (by rfl) C_is_within.g C_is_within.kp C_is_within.b .nil passT (pa_cons (pv 2) (pa_cons pe_int (pa_cons (pe_op op_sub (x_fld (K := K) rfl (pv 0) rfl) pe_int) pa_nil)))))), def_run (N := N_fits_variable) (b := b_fits_variable)
    (sim_ret (sim_call (sim_cons sim_var (sim_cons sim_int (sim_cons (sim_op so_sub (sim_fld (c := "Flow") (cl_at hc_Flow T_Flow) (no_at hc_Flow T_Flow (by simp)) sim_var) sim_int) sim_nil))))) h⟩
theorem ok_fits_row {f : Addr} {fd : FuncData} (F : Fun K "fits_row" "fits_row" s_fits_row f fd) {C_Flow : Addr} (hc_Flow : ca "Flow" = C_Flow) (g_Flow : mg "Flow" = some (.ref C_Flow)) (T_Flow : TxC K C_Flow ["name", "params", "count", "arrays", "blocks"]) {f_is_within : Addr} {fd_is_within : FuncData} (C_is_within : Callee P w K mg base 1 f_is_within fd_is_within "is_within" ["entry", "least", "greatest"] (spM (M.Env.mk K ca fa none) 3 m_is_within)) (b_isinstance : mg "isinstance" = none) (b_str : mg "str" = none) (b_len : mg "len" = none) : FnOk P w K mg base CX0 2 f fd ["flow", "number", "entry"] (spM (M.Env.mk K ca fa none) 3 m_fits_row) := by
  refine FnOk.imp (F.ok sc_fits_row (sp_len (G := (M.Env.mk K ca fa none)) (m := m_fits_row) rfl) (fun cdv A outer s H vs Q E hr h => ?_)) (fun _ _ _ _ h => h)
  have hu := hu_of hr
  exact ⟨_, (pss_one (ps_ret (pe_or (pe_callB (x_isi (K := K) rfl) (by rfl) b_isinstance (by decide +kernel) (pa_cons (pv 2) (pa_cons (pe_bltn (v := .ty "str") (by rfl) b_str (by decide +kernel) rfl) pa_nil))) (pe_one (pe_call C_is_within.ok (hr.mono (by (first | omega | (simp only [Nat.add_eq] at *; omega) | (simp only [Nat.add_eq]; omega)))) (by rfl) C_is_within.g C_is_within.kp C_is_within.b .nil passT (pa_cons (pv 2) (pa_cons pe_int (pa_cons (pe_op op_sub (pe_callB (x_len (K := K) rfl) (by rfl) b_len (by decide +kernel) (pa_cons (x_fld (K := K) rfl (pv 0) rfl) pa_nil)) pe_int) pa_nil)))))))), def_run (N := N_fits_row) (b := b_fits_row)
    (sim_ret (sim_orV (sim_isi sim_var) (sim_call (sim_cons sim_var (sim_cons sim_int (sim_cons (sim_op so_sub (sim_CB sb_len (sim_cons (sim_fld (c := "Flow") (cl_at hc_Flow T_Flow) (no_at hc_Flow T_Flow (by simp)) sim_var) sim_nil)) sim_int) sim_nil)))))) h⟩
theorem ok_fits_operation {f : Addr} {fd : FuncData} (F : Fun K "fits_operation" "fits_operation" s_fits_operation f fd) {p_OPERATIONS : Addr} (g_OPERATIONS : mg "OPERATIONS" = some (.ref p_OPERATIONS)) (kt_OPERATIONS : ∀ S : Sta, S.G = (M.Env.mk K ca fa none) → Rv S (.ktp c_OPERATIONS) (.ref p_OPERATIONS)) : FnOk P w K mg base CX0 1 f fd ["flow", "number", "entry"] (spM (M.Env.mk K ca fa none) 3 m_fits_operation) := by
  refine FnOk.imp (F.ok sc_fits_operation (sp_len (G := (M.Env.mk K ca fa none)) (m := m_fits_operation) rfl) (fun cdv A outer s H vs Q E hr h => ?_)) (fun _ _ _ _ h => h)
  have hu := hu_of hr
  exact ⟨_, (pss_one (ps_ret (pe_cmpR (x_in (K := K) rfl) (pv 2) (pe_glob (v := .ref p_OPERATIONS) (by rfl) g_OPERATIONS rfl) rfl))), def_run (N := N_fits_operation) (b := b_fits_operation)
    (sim_ret (sim_op so_in sim_var (sim_c kt_OPERATIONS))) h⟩
theorem ok_fits_name {f : Addr} {fd : FuncData} (F : Fun K "fits_name" "fits_name" s_fits_name f fd) (b_isinstance : mg "isinstance" = none) (b_str : mg "str" = none) : FnOk P w K mg base CX0 1 f fd ["flow", "number", "entry"] (spM (M.Env.mk K ca fa none) 3 m_fits_name) := by
  refine FnOk.imp (F.ok sc_fits_name (sp_len (G := (M.Env.mk K ca fa none)) (m := m_fits_name) rfl) (fun cdv A outer s H vs Q E hr h => ?_)) (fun _ _ _ _ h => h)
  have hu := hu_of hr
  exact ⟨_, (pss_one (ps_ret (pe_callB (x_isi (K := K) rfl) (by rfl) b_isinstance (by decide +kernel) (pa_cons (pv 2) (pa_cons (pe_bltn (v := .ty "str") (by rfl) b_str (by decide +kernel) rfl) pa_nil))))), def_run (N := N_fits_name) (b := b_fits_name)
    (sim_ret (sim_isi sim_var)) h⟩
theorem ok_fits_many {f : Addr} {fd : FuncData} (F : Fun K "fits_many" "fits_many" s_fits_many f fd) (b_isinstance : mg "isinstance" = none) (b_int : mg "int" = none) : FnOk P w K mg base CX0 1 f fd ["flow", "number", "entry"] (spM (M.Env.mk K ca fa none) 3 m_fits_many) := by
  refine FnOk.imp (F.ok sc_fits_many (sp_len (G := (M.Env.mk K ca fa none)) (m := m_fits_many) rfl) (fun cdv A outer s H vs Q E hr h => ?_)) (fun _ _ _ _ h => h)
  have hu := hu_of hr
  exact ⟨_, (pss_one (ps_ret (pe_and (pe_callB (x_isi (K := K) rfl) (by rfl) b_isinstance (by decide +kernel) (pa_cons (pv 2) (pa_cons (pe_bltn (v := .ty "int") (by rfl) b_int (by decide +kernel) rfl) pa_nil))) (pe_one (pe_cmpR op_ge (pv 2) pe_int (nomark _)))))), def_run (N := N_fits_many) (b := b_fits_many)
    (sim_ret (sim_andV (sim_isi sim_var) (sim_op so_ge sim_var sim_int))) h⟩
theorem ok_fits_later {f : Addr} {fd : FuncData} (F : Fun K "fits_later" "fits_later" s_fits_later f fd) {C_Flow : Addr} (hc_Flow : ca "Flow" = C_Flow) (g_Flow : mg "Flow" = some (.ref C_Flow)) (T_Flow : TxC K C_Flow ["name", "params", "count", "arrays", "blocks"]) {f_is_within : Addr} {fd_is_within : FuncData} (C_is_within : Callee P w K mg base 1 f_is_within fd_is_within "is_within" ["entry", "least", "greatest"] (spM (M.Env.mk K ca fa none) 3 m_is_within)) (b_len : mg "len" = none) : FnOk P w K mg base CX0 2 f fd ["flow", "number", "entry"] (spM (M.Env.mk K ca fa none) 3 m_fits_later) := by
  refine FnOk.imp (F.ok sc_fits_later (sp_len (G := (M.Env.mk K ca fa none)) (m := m_fits_later) rfl) (fun cdv A outer s H vs Q E hr h => ?_)) (fun _ _ _ _ h => h)
  have hu := hu_of hr
  exact ⟨_, (pss_one (ps_ret (pe_call C_is_within.ok (hr.mono (by (first | omega | (simp only [Nat.add_eq] at *; omega) | (simp only [Nat.add_eq]; omega)))) (by rfl) C_is_within.g C_is_within.kp C_is_within.b .nil passT (pa_cons (pv 2) (pa_cons (pe_op op_add (pv 1) pe_int) (pa_cons (pe_op op_sub (pe_callB (x_len (K := K) rfl) (by rfl) b_len (by decide +kernel) (pa_cons (x_fld (K := K) rfl (pv 0) rfl) pa_nil)) pe_int) pa_nil)))))), def_run (N := N_fits_later) (b := b_fits_later)
    (sim_ret (sim_call (sim_cons sim_var (sim_cons (sim_op so_add sim_var sim_int) (sim_cons (sim_op so_sub (sim_CB sb_len (sim_cons (sim_fld (c := "Flow") (cl_at hc_Flow T_Flow) (no_at hc_Flow T_Flow (by simp)) sim_var) sim_nil)) sim_int) sim_nil))))) h⟩
theorem ok_fits_chain {f : Addr} {fd : FuncData} (F : Fun K "fits_chain" "fits_chain" s_fits_chain f fd) (g_MOST_PLACES : ∃ t, mg "MOST_PLACES" = some (.int (8) t)) (b_isinstance : mg "isinstance" = none) (b_tuple : mg "tuple" = none) (b_len : mg "len" = none) : FnOk P w K mg base CX0 1 f fd ["flow", "number", "entry"] (spM (M.Env.mk K ca fa none) 3 m_fits_chain) := by
  refine FnOk.imp (F.ok sc_fits_chain (sp_len (G := (M.Env.mk K ca fa none)) (m := m_fits_chain) rfl) (fun cdv A outer s H vs Q E hr h => ?_)) (fun _ _ _ _ h => h)
  have hu := hu_of hr
  obtain ⟨t_MOST_PLACES, g_MOST_PLACES⟩ := g_MOST_PLACES
  exact ⟨_, (pss_one (ps_ret (pe_and (pe_callB (x_isi (K := K) rfl) (by rfl) b_isinstance (by decide +kernel) (pa_cons (pv 2) (pa_cons (pe_bltn (v := .ty "tuple") (by rfl) b_tuple (by decide +kernel) rfl) pa_nil))) (pe_one (pe_chain op_le op_le pe_int (pe_callB (x_len (K := K) rfl) (by rfl) b_len (by decide +kernel) (pa_cons (pv 2) pa_nil)) (pe_glob (v := .int (8)) (by rfl) g_MOST_PLACES ⟨_, rfl⟩)))))), def_run (N := N_fits_chain) (b := b_fits_chain)
    (sim_ret (sim_andV (sim_isi sim_var) (sim_chain so_le so_le sim_int (sim_CB sb_len (sim_cons sim_var sim_nil)) sim_int))) h⟩
theorem ok_fits_block {f : Addr} {fd : FuncData} (F : Fun K "fits_block" "fits_block" s_fits_block f fd) {C_Flow : Addr} (hc_Flow : ca "Flow" = C_Flow) (g_Flow : mg "Flow" = some (.ref C_Flow)) (T_Flow : TxC K C_Flow ["name", "params", "count", "arrays", "blocks"]) {f_is_within : Addr} {fd_is_within : FuncData} (C_is_within : Callee P w K mg base 1 f_is_within fd_is_within "is_within" ["entry", "least", "greatest"] (spM (M.Env.mk K ca fa none) 3 m_is_within)) (b_len : mg "len" = none) : FnOk P w K mg base CX0 2 f fd ["flow", "number", "entry"] (spM (M.Env.mk K ca fa none) 3 m_fits_block) := by
  refine FnOk.imp (F.ok sc_fits_block (sp_len (G := (M.Env.mk K ca fa none)) (m := m_fits_block) rfl) (fun cdv A outer s H vs Q E hr h => ?_)) (fun _ _ _ _ h => h)
  have hu := hu_of hr
  exact ⟨_, (pss_one (ps_ret (pe_call C_is_within.ok (hr.mono (by (first | omega | (simp only [Nat.add_eq] at *; omega) | (simp only [Nat.add_eq]; omega)))) (by rfl) C_is_within.g C_is_within.kp C_is_within.b .nil passT (pa_cons (pv 2) (pa_cons pe_int (pa_cons (pe_op op_sub (pe_callB (x_len (K := K) rfl) (by rfl) b_len (by decide +kernel) (pa_cons (x_fld (K := K) rfl (pv 0) rfl) pa_nil)) pe_int) pa_nil)))))), def_run (N := N_fits_block) (b := b_fits_block)
    (sim_ret (sim_call (sim_cons sim_var (sim_cons sim_int (sim_cons (sim_op so_sub (sim_CB sb_len (sim_cons (sim_fld (c := "Flow") (cl_at hc_Flow T_Flow) (no_at hc_Flow T_Flow (by simp)) sim_var) sim_nil)) sim_int) sim_nil))))) h⟩
theorem ok_keeps_rules {f : Addr} {fd : FuncData} (F : Fun K "keeps_rules" "keeps_rules" s_keeps_rules f fd) {d_SHAPES : Addr} {es_SHAPES : Array DictEntry} {n_SHAPES : Nat} (D_SHAPES : KDict K w d_SHAPES es_SHAPES n_SHAPES) (g_SHAPES : mg "SHAPES" = some (.ref d_SHAPES)) (hf_SHAPES : fa "SHAPES" = .ref d_SHAPES) (kr_SHAPES : KRows (M.Env.mk K ca fa none) d_SHAPES rows_SHAPES) {d_TESTS : Addr} {es_TESTS : Array DictEntry} {n_TESTS : Nat} (D_TESTS : KDict K w d_TESTS es_TESTS n_TESTS) (g_TESTS : mg "TESTS" = some (.ref d_TESTS)) (hf_TESTS : fa "TESTS" = .ref d_TESTS) (kr_TESTS : KRows (M.Env.mk K ca fa none) d_TESTS rows_TESTS) {f_fits_word : Addr} {fd_fits_word : FuncData} (C_fits_word : Callee P w K mg base 2 f_fits_word fd_fits_word "fits_word" ["flow", "number", "entry"] (spM (M.Env.mk K ca fa none) 3 m_fits_word)) {f_fits_variables : Addr} {fd_fits_variables : FuncData} (C_fits_variables : Callee P w K mg base 2 f_fits_variables fd_fits_variables "fits_variables" ["flow", "number", "entry"] (spM (M.Env.mk K ca fa none) 3 m_fits_variables)) {f_fits_variable : Addr} {fd_fits_variable : FuncData} (C_fits_variable : Callee P w K mg base 2 f_fits_variable fd_fits_variable "fits_variable" ["flow", "number", "entry"] (spM (M.Env.mk K ca fa none) 3 m_fits_variable)) {f_fits_row : Addr} {fd_fits_row : FuncData} (C_fits_row : Callee P w K mg base 2 f_fits_row fd_fits_row "fits_row" ["flow", "number", "entry"] (spM (M.Env.mk K ca fa none) 3 m_fits_row)) {f_fits_operation : Addr} {fd_fits_operation : FuncData} (C_fits_operation : Callee P w K mg base 1 f_fits_operation fd_fits_operation "fits_operation" ["flow", "number", "entry"] (spM (M.Env.mk K ca fa none) 3 m_fits_operation)) {f_fits_name : Addr} {fd_fits_name : FuncData} (C_fits_name : Callee P w K mg base 1 f_fits_name fd_fits_name "fits_name" ["flow", "number", "entry"] (spM (M.Env.mk K ca fa none) 3 m_fits_name)) {f_fits_many : Addr} {fd_fits_many : FuncData} (C_fits_many : Callee P w K mg base 1 f_fits_many fd_fits_many "fits_many" ["flow", "number", "entry"] (spM (M.Env.mk K ca fa none) 3 m_fits_many)) {f_fits_later : Addr} {fd_fits_later : FuncData} (C_fits_later : Callee P w K mg base 2 f_fits_later fd_fits_later "fits_later" ["flow", "number", "entry"] (spM (M.Env.mk K ca fa none) 3 m_fits_later)) {f_fits_chain : Addr} {fd_fits_chain : FuncData} (C_fits_chain : Callee P w K mg base 1 f_fits_chain fd_fits_chain "fits_chain" ["flow", "number", "entry"] (spM (M.Env.mk K ca fa none) 3 m_fits_chain)) {f_fits_block : Addr} {fd_fits_block : FuncData} (C_fits_block : Callee P w K mg base 2 f_fits_block fd_fits_block "fits_block" ["flow", "number", "entry"] (spM (M.Env.mk K ca fa none) 3 m_fits_block)) (hl_fits_word : fa "fits_word" = .ref f_fits_word) (hl_fits_variables : fa "fits_variables" = .ref f_fits_variables) (hl_fits_variable : fa "fits_variable" = .ref f_fits_variable) (hl_fits_row : fa "fits_row" = .ref f_fits_row) (hl_fits_operation : fa "fits_operation" = .ref f_fits_operation) (hl_fits_name : fa "fits_name" = .ref f_fits_name) (hl_fits_many : fa "fits_many" = .ref f_fits_many) (hl_fits_later : fa "fits_later" = .ref f_fits_later) (hl_fits_chain : fa "fits_chain" = .ref f_fits_chain) (hl_fits_block : fa "fits_block" = .ref f_fits_block) (b_len : mg "len" = none) (b_zip : mg "zip" = none) (b_set : mg "set" = none) : FnOk P w K mg base CX0 3 f fd ["flow", "number", "deed"] (spM (M.Env.mk K ca fa none) 3 m_keeps_rules) := by
  refine FnOk.imp (F.ok sc_keeps_rules (sp_len (G := (M.Env.mk K ca fa none)) (m := m_keeps_rules) rfl) (fun cdv A outer s H vs Q E hr h => ?_)) (fun _ _ _ _ h => h)
  have hu := hu_of hr
  exact ⟨_, (pss_cons (ps_if (PW.pt (pw_or (pt_not (x_tru (K := K) rfl (pv 2) (by intro _; rfl))) (pw_or (pt_cmpR (x_knin (K := K) rfl rfl D_SHAPES) (pe_ix (x_ix (K := K) rfl) (pv 2) pe_int (fun _ _ => rfl)) (pe_glob (v := .ref d_SHAPES) (by rfl) g_SHAPES rfl) rfl) (pw_or1 (pt_cmpR (x_ne (K := K) rfl hr.units) (pe_callB (x_len (K := K) rfl) (by rfl) b_len (by decide +kernel) (pa_cons (pv 2) pa_nil)) (pe_op op_add (pe_callB (x_len (K := K) rfl) (by rfl) b_len (by decide +kernel) (pa_cons (pe_ix (x_kd (K := K) rfl rfl D_SHAPES) (pe_glob (v := .ref d_SHAPES) (by rfl) g_SHAPES rfl) (pe_ix (x_ix (K := K) rfl) (pv 2) pe_int (fun _ _ => rfl)) (fun _ _ => rfl)) pa_nil)) pe_int) (nomark _)))))) (pss_one (ps_ret pe_bl)) pss_nil)
      (pss_cons (ps_for PassesOwn.never rfl (RZ.pi_zipA (by rfl) b_zip (pa_cons (pe_ix (x_kd (K := K) rfl rfl D_SHAPES) (pe_glob (v := .ref d_SHAPES) (by rfl) g_SHAPES rfl) (pe_ix (x_ix (K := K) rfl) (pv 2) pe_int (fun _ _ => rfl)) (fun _ _ => rfl)) (pa_cons (pe_slice (x_slT (K := K) rfl) (pv 2) (po_some pe_int) po_none) pa_nil))) (pg_tup rfl (pgs_cons (pg_name (i := 3) sc_keeps_rules.nd rfl (.inl rfl)) (pgs_cons (pg_name (i := 4) sc_keeps_rules.nd rfl (.inl rfl)) pgs_nil))) (pss_cons (ps_set (i := 5) sc_keeps_rules.nd rfl (.inl rfl) (pe_ix (x_kd (K := K) rfl rfl D_TESTS) (pe_glob (v := .ref d_TESTS) (by rfl) g_TESTS rfl) (pv 3) (fun _ _ => rfl)))
      (pss_one (ps_if (pt_not (x_tru (K := K) rfl (pe_alt (pe_callL (i := 5) C_fits_block.ok (hr.mono (by (first | omega | (simp only [Nat.add_eq] at *; omega) | (simp only [Nat.add_eq]; omega)))) rfl (.inl rfl) C_fits_block.kp C_fits_block.b .nil passT (pa_cons (pv 0) (pa_cons (pv 1) (pa_cons (pv 4) pa_nil)))) (pe_alt (pe_callL (i := 5) C_fits_chain.ok (hr.mono (by (first | omega | (simp only [Nat.add_eq] at *; omega) | (simp only [Nat.add_eq]; omega)))) rfl (.inl rfl) C_fits_chain.kp C_fits_chain.b .nil passT (pa_cons (pv 0) (pa_cons (pv 1) (pa_cons (pv 4) pa_nil)))) (pe_alt (pe_callL (i := 5) C_fits_later.ok (hr.mono (by (first | omega | (simp only [Nat.add_eq] at *; omega) | (simp only [Nat.add_eq]; omega)))) rfl (.inl rfl) C_fits_later.kp C_fits_later.b .nil passT (pa_cons (pv 0) (pa_cons (pv 1) (pa_cons (pv 4) pa_nil)))) (pe_alt (pe_callL (i := 5) C_fits_many.ok (hr.mono (by (first | omega | (simp only [Nat.add_eq] at *; omega) | (simp only [Nat.add_eq]; omega)))) rfl (.inl rfl) C_fits_many.kp C_fits_many.b .nil passT (pa_cons (pv 0) (pa_cons (pv 1) (pa_cons (pv 4) pa_nil)))) (pe_alt (pe_callL (i := 5) C_fits_name.ok (hr.mono (by (first | omega | (simp only [Nat.add_eq] at *; omega) | (simp only [Nat.add_eq]; omega)))) rfl (.inl rfl) C_fits_name.kp C_fits_name.b .nil passT (pa_cons (pv 0) (pa_cons (pv 1) (pa_cons (pv 4) pa_nil)))) (pe_alt (pe_callL (i := 5) C_fits_operation.ok (hr.mono (by (first | omega | (simp only [Nat.add_eq] at *; omega) | (simp only [Nat.add_eq]; omega)))) rfl (.inl rfl) C_fits_operation.kp C_fits_operation.b .nil passT (pa_cons (pv 0) (pa_cons (pv 1) (pa_cons (pv 4) pa_nil)))) (pe_alt (pe_callL (i := 5) C_fits_row.ok (hr.mono (by (first | omega | (simp only [Nat.add_eq] at *; omega) | (simp only [Nat.add_eq]; omega)))) rfl (.inl rfl) C_fits_row.kp C_fits_row.b .nil passT (pa_cons (pv 0) (pa_cons (pv 1) (pa_cons (pv 4) pa_nil)))) (pe_alt (pe_callL (i := 5) C_fits_variable.ok (hr.mono (by (first | omega | (simp only [Nat.add_eq] at *; omega) | (simp only [Nat.add_eq]; omega)))) rfl (.inl rfl) C_fits_variable.kp C_fits_variable.b .nil passT (pa_cons (pv 0) (pa_cons (pv 1) (pa_cons (pv 4) pa_nil)))) (pe_alt (pe_callL (i := 5) C_fits_variables.ok (hr.mono (by (first | omega | (simp only [Nat.add_eq] at *; omega) | (simp only [Nat.add_eq]; omega)))) rfl (.inl rfl) C_fits_variables.kp C_fits_variables.b .nil passT (pa_cons (pv 0) (pa_cons (pv 1) (pa_cons (pv 4) pa_nil)))) (pe_alt (pe_callL (i := 5) C_fits_word.ok (hr.mono (by (first | omega | (simp only [Nat.add_eq] at *; omega) | (simp only [Nat.add_eq]; omega)))) rfl (.inl rfl) C_fits_word.kp C_fits_word.b .nil passT (pa_cons (pv 0) (pa_cons (pv 1) (pa_cons (pv 4) pa_nil)))) pe_nev)))))))))) (by intro _; rfl))) (pss_one (ps_ret pe_bl)) pss_nil))))
      (pss_one (ps_ret (pe_or (pe_cmpR (x_ne (K := K) rfl hr.units) (pe_ix (x_ix (K := K) rfl) (pv 2) pe_int (fun _ _ => rfl)) pe_str (nomark _)) (pe_one (pe_and (pe_cmpR (x_eq (K := K) rfl hr.units) (pe_callB (x_len (K := K) rfl) (by rfl) b_len (by decide +kernel) (pa_cons (pe_ix (x_ix (K := K) rfl) (pv 2) pe_int (fun _ _ => rfl)) pa_nil)) (pe_callB (x_len (K := K) rfl) (by rfl) b_len (by decide +kernel) (pa_cons (pe_ix (x_ix (K := K) rfl) (pv 2) pe_int (fun _ _ => rfl)) pa_nil)) (nomark _)) (pe_one (pe_cmpR (x_eq (K := K) rfl hr.units) (pe_lenSet (by rfl) b_len (by rfl) b_set (pe_ix (x_ix (K := K) rfl) (pv 2) pe_int (fun _ _ => rfl))) (pe_callB (x_len (K := K) rfl) (by rfl) b_len (by decide +kernel) (pa_cons (pe_ix (x_ix (K := K) rfl) (pv 2) pe_int (fun _ _ => rfl)) pa_nil)) (nomark _)))))))))), def_run (N := N_keeps_rules) (b := b_keeps_rules)
    (sim_seq (by exact (sim_if (by exact (sim_or (sim_not (sim_tru sim_var)) (sim_or (sim_test (sim_op (so_knin hf_SHAPES kr_SHAPES) (sim_op so_ix sim_var sim_int) (sim_ref hf_SHAPES))) (sim_test (sim_op so_ne (sim_CB sb_len (sim_cons sim_var sim_nil)) (sim_op so_add (sim_CB sb_len (sim_cons (sim_op (so_kd hf_SHAPES kr_SHAPES) (sim_ref hf_SHAPES) (sim_op so_ix sim_var sim_int)) sim_nil)) sim_int)))))) (by exact (sim_ret sim_bl)) (by exact sim_next)))
      (sim_seq (by exact (sim_for (by exact (sim_zip (sim_cons (sim_op (so_kd hf_SHAPES kr_SHAPES) (sim_ref hf_SHAPES) (sim_op so_ix sim_var sim_int)) (sim_cons (sim_sl so_slT sim_var (sim_part sim_int) sim_noPart) sim_nil)))) (sim_gTup (sim_gCons sim_gName (sim_gCons sim_gName sim_gNil))) (by exact (sim_seq (by exact (sim_set (sim_op (so_kd hf_TESTS kr_TESTS) (sim_ref hf_TESTS) sim_var)))
      (sim_if (by exact (sim_not (sim_tru (sim_callL hl_fits_block (sim_cons sim_var (sim_cons sim_var (sim_cons sim_var sim_nil))) (sim_callL hl_fits_chain (sim_cons sim_var (sim_cons sim_var (sim_cons sim_var sim_nil))) (sim_callL hl_fits_later (sim_cons sim_var (sim_cons sim_var (sim_cons sim_var sim_nil))) (sim_callL hl_fits_many (sim_cons sim_var (sim_cons sim_var (sim_cons sim_var sim_nil))) (sim_callL hl_fits_name (sim_cons sim_var (sim_cons sim_var (sim_cons sim_var sim_nil))) (sim_callL hl_fits_operation (sim_cons sim_var (sim_cons sim_var (sim_cons sim_var sim_nil))) (sim_callL hl_fits_row (sim_cons sim_var (sim_cons sim_var (sim_cons sim_var sim_nil))) (sim_callL hl_fits_variable (sim_cons sim_var (sim_cons sim_var (sim_cons sim_var sim_nil))) (sim_callL hl_fits_variables (sim_cons sim_var (sim_cons sim_var (sim_cons sim_var sim_nil))) (sim_callL hl_fits_word (sim_cons sim_var (sim_cons sim_var (sim_cons sim_var sim_nil))) sim_bad))))))))))))) (by exact (sim_ret sim_bl)) (by exact sim_next))))))
      (sim_ret (sim_orV (sim_op so_ne (sim_op so_ix sim_var sim_int) sim_str) (sim_andV (sim_op so_eq (sim_CB sb_len (sim_cons (sim_op so_ix sim_var sim_int) sim_nil)) (sim_CB sb_len (sim_cons (sim_op so_ix sim_var sim_int) sim_nil))) (sim_op so_eq (sim_lenSet (sim_op so_ix sim_var sim_int)) (sim_CB sb_len (sim_cons (sim_op so_ix sim_var sim_int) sim_nil)))))))) h⟩
theorem ok_is_end {f : Addr} {fd : FuncData} (F : Fun K "is_end" "is_end" s_is_end f fd) {p_ENDS : Addr} (g_ENDS : mg "ENDS" = some (.ref p_ENDS)) (kt_ENDS : ∀ S : Sta, S.G = (M.Env.mk K ca fa none) → Rv S (.ktp c_ENDS) (.ref p_ENDS)) : FnOk P w K mg base CX0 1 f fd ["deed"] (spM (M.Env.mk K ca fa none) 1 m_is_end) := by
  refine FnOk.imp (F.ok sc_is_end (sp_len (G := (M.Env.mk K ca fa none)) (m := m_is_end) rfl) (fun cdv A outer s H vs Q E hr h => ?_)) (fun _ _ _ _ h => h)
  have hu := hu_of hr
  exact ⟨_, (pss_one (ps_ret (pe_cmpR (x_in (K := K) rfl) (pe_ix (x_ix (K := K) rfl) (pv 0) pe_int (fun _ _ => rfl)) (pe_glob (v := .ref p_ENDS) (by rfl) g_ENDS rfl) rfl))), def_run (N := N_is_end) (b := b_is_end)
    (sim_ret (sim_op so_in (sim_op so_ix sim_var sim_int) (sim_c kt_ENDS))) h⟩
theorem ok_check_blocks {f : Addr} {fd : FuncData} (F : Fun K "check_blocks" "check_blocks" s_check_blocks f fd) {C_Flow : Addr} (hc_Flow : ca "Flow" = C_Flow) (g_Flow : mg "Flow" = some (.ref C_Flow)) {C_BadFlow : Addr} (hc_BadFlow : ca "BadFlow" = C_BadFlow) (g_BadFlow : mg "BadFlow" = some (.ref C_BadFlow)) {C_RunsError : Addr} (hc_RunsError : ca "RunsError" = C_RunsError) (g_RunsError : mg "RunsError" = some (.ref C_RunsError)) (T_Flow : TxC K C_Flow ["name", "params", "count", "arrays", "blocks"]) {f_BadFlow___init__ : Addr} {fd_BadFlow___init__ : FuncData} (C_BadFlow___init__ : CalleeM P w K mg base 1 f_BadFlow___init__ fd_BadFlow___init__ ["self", "block", "position"] (spX2 (M.Env.mk K ca fa none).K "block" "position")) {f_keeps_rules : Addr} {fd_keeps_rules : FuncData} (C_keeps_rules : Callee P w K mg base 3 f_keeps_rules fd_keeps_rules "keeps_rules" ["flow", "number", "deed"] (spM (M.Env.mk K ca fa none) 3 m_keeps_rules)) {f_is_end : Addr} {fd_is_end : FuncData} (C_is_end : Callee P w K mg base 1 f_is_end fd_is_end "is_end" ["deed"] (spM (M.Env.mk K ca fa none) 1 m_is_end)) (T_BadFlow : TxE K C_BadFlow ["block", "position"]) (J_BadFlow : MkX K C_BadFlow f_BadFlow___init__) (b_enumerate : mg "enumerate" = none) (b_len : mg "len" = none) : FnOk P w K mg base (L2.CX P w) 4 f fd ["flow"] (spM (M.Env.mk K ca fa none) 1 m_check_blocks) := by
  refine FnOk.imp (F.okX sc_check_blocks (sp_len (G := (M.Env.mk K ca fa none)) (m := m_check_blocks) rfl) (fun cdv A outer s H vs Q E hr h => ?_)) (fun _ _ _ _ h => h)
  have hu := hu_of hr
  exact ⟨_, (pss_cons (ps_if (pt_not (x_tru (K := K) rfl (x_fld (K := K) rfl (pv 0) rfl) (by intro _; rfl))) (pss_one (ps_raise rfl (takes_of rfl rfl rfl rfl) (pmk_oex T_BadFlow.ox J_BadFlow.iC J_BadFlow.tI C_BadFlow___init__.ok (hr.mono (by (first | omega | (simp only [Nat.add_eq] at *; omega) | (simp only [Nat.add_eq]; omega)))) C_BadFlow___init__.b .nil pass0 (by rfl) g_BadFlow (pa_cons pe_int (pa_cons pe_int pa_nil))))) pss_nil)
      (pss_one (ps_for (passes_of rfl) rfl (ENT.pi_enumT (by rfl) b_enumerate (pa_cons (x_fld (K := K) rfl (pv 0) rfl) pa_nil)) (pg_tup rfl (pgs_cons (pg_name (i := 1) sc_check_blocks.nd rfl (.inl rfl)) (pgs_cons (pg_name (i := 2) sc_check_blocks.nd rfl (.inl rfl)) pgs_nil))) (pss_cons (ps_if (pt_not (x_tru (K := K) rfl (pv 2) (by intro _; rfl))) (pss_one (ps_raise rfl (takes_of rfl rfl rfl rfl) (pmk_oex T_BadFlow.ox J_BadFlow.iC J_BadFlow.tI C_BadFlow___init__.ok (hr.mono (by (first | omega | (simp only [Nat.add_eq] at *; omega) | (simp only [Nat.add_eq]; omega)))) C_BadFlow___init__.b .nil pass0 (by rfl) g_BadFlow (pa_cons (pv 1) (pa_cons pe_int pa_nil))))) pss_nil)
      (pss_one (ps_for (passes_of rfl) rfl (ENT.pi_enumT (by rfl) b_enumerate (pa_cons (pv 2) pa_nil)) (pg_tup rfl (pgs_cons (pg_name (i := 3) sc_check_blocks.nd rfl (.inl rfl)) (pgs_cons (pg_name (i := 4) sc_check_blocks.nd rfl (.inl rfl)) pgs_nil))) (pss_one (ps_if (PW.pt (pw_or (pt_not (x_tru (K := K) rfl (pe_call C_keeps_rules.ok (hr.mono (by (first | omega | (simp only [Nat.add_eq] at *; omega) | (simp only [Nat.add_eq]; omega)))) (by rfl) C_keeps_rules.g C_keeps_rules.kp C_keeps_rules.b .nil passT (pa_cons (pv 0) (pa_cons (pv 1) (pa_cons (pv 4) pa_nil)))) (by intro _; rfl))) (pw_or1 (pt_cmpR (x_ne (K := K) rfl hr.units) (pe_call C_is_end.ok (hr.mono (by (first | omega | (simp only [Nat.add_eq] at *; omega) | (simp only [Nat.add_eq]; omega)))) (by rfl) C_is_end.g C_is_end.kp C_is_end.b .nil passT (pa_cons (pv 4) pa_nil)) (pe_cmpR (x_eq (K := K) rfl hr.units) (pv 3) (pe_op op_sub (pe_callB (x_len (K := K) rfl) (by rfl) b_len (by decide +kernel) (pa_cons (pv 2) pa_nil)) pe_int) (nomark _)) (nomark _))))) (pss_one (ps_raise rfl (takes_of rfl rfl rfl rfl) (pmk_oex T_BadFlow.ox J_BadFlow.iC J_BadFlow.tI C_BadFlow___init__.ok (hr.mono (by (first | omega | (simp only [Nat.add_eq] at *; omega) | (simp only [Nat.add_eq]; omega)))) C_BadFlow___init__.b .nil pass0 (by rfl) g_BadFlow (pa_cons (pv 1) (pa_cons (pv 3) pa_nil))))) pss_nil)))))))), def_run (N := N_check_blocks) (b := b_check_blocks)
    (sim_seq (by exact (sim_if (by exact (sim_not (sim_tru (sim_fld (c := "Flow") (cl_at hc_Flow T_Flow) (no_at hc_Flow T_Flow (by simp)) sim_var)))) (by exact (sim_raise2 hc_BadFlow T_BadFlow (sim_cons sim_int (sim_cons sim_int sim_nil)))) (by exact sim_next)))
      (sim_for (by exact (sim_enumT (sim_cons (sim_fld (c := "Flow") (cl_at hc_Flow T_Flow) (no_at hc_Flow T_Flow (by simp)) sim_var) sim_nil))) (sim_gTup (sim_gCons sim_gName (sim_gCons sim_gName sim_gNil))) (by exact (sim_seq (by exact (sim_if (by exact (sim_not (sim_tru sim_var))) (by exact (sim_raise2 hc_BadFlow T_BadFlow (sim_cons sim_var (sim_cons sim_int sim_nil)))) (by exact sim_next)))
      (sim_for (by exact (sim_enumT (sim_cons sim_var sim_nil))) (sim_gTup (sim_gCons sim_gName (sim_gCons sim_gName sim_gNil))) (by exact (sim_if (by exact (sim_or (sim_not (sim_tru (sim_call (sim_cons sim_var (sim_cons sim_var (sim_cons sim_var sim_nil)))))) (sim_test (sim_op so_ne (sim_call (sim_cons sim_var sim_nil)) (sim_op so_eq sim_var (sim_op so_sub (sim_CB sb_len (sim_cons sim_var sim_nil)) sim_int)))))) (by exact (sim_raise2 hc_BadFlow T_BadFlow (sim_cons sim_var (sim_cons sim_var sim_nil)))) (by exact sim_next)))))))) h⟩
theorem ok_Flow___init__ {f : Addr} {fd : FuncData} (F : Fun K "__init__" "Flow.__init__" s_Flow___init__ f fd) {C_Flow : Addr} (hc_Flow : ca "Flow" = C_Flow) (g_Flow : mg "Flow" = some (.ref C_Flow)) (T_Flow : TxC K C_Flow ["name", "params", "count", "arrays", "blocks"]) {f_check_params : Addr} {fd_check_params : FuncData} (C_check_params : CalleeX P w K mg base 3 f_check_params fd_check_params "check_params" ["params", "count"] (spM (M.Env.mk K ca fa none) 2 m_check_params)) {f_check_blocks : Addr} {fd_check_blocks : FuncData} (C_check_blocks : CalleeX P w K mg base 4 f_check_blocks fd_check_blocks "check_blocks" ["flow"] (spM (M.Env.mk K ca fa none) 1 m_check_blocks)) (b_tuple : mg "tuple" = none) : FnOk P w K mg base (L2.CX P w) 5 f fd ["self", "name", "params", "count", "arrays", "blocks"] (spM (M.Env.mk K ca fa none) 6 m_Flow___init__) := by
  refine FnOk.imp (F.okX sc_Flow___init__ (sp_len (G := (M.Env.mk K ca fa none)) (m := m_Flow___init__) rfl) (fun cdv A outer s H vs Q E hr h => ?_)) (fun _ _ _ _ h => h)
  have hu := hu_of hr
  exact ⟨_, (pss_cons (ps_fld (pv 0) (pv 1) rfl)
      (pss_cons (ps_fld (pv 0) (pe_callTy (x_tuple (K := K) rfl) (by rfl) b_tuple (by decide +kernel) (pa_cons (pv 2) pa_nil)) rfl)
      (pss_cons (ps_fld (pv 0) (pv 3) rfl)
      (pss_cons (ps_fld (pv 0) (pe_callTy (x_tuple (K := K) rfl) (by rfl) b_tuple (by decide +kernel) (pa_cons (pv 4) pa_nil)) rfl)
      (pss_cons (ps_fld (pv 0) (pe_callTy (x_tuple (K := K) rfl) (by rfl) b_tuple (by decide +kernel) (pa_cons (pe_lc (own := [("block", 6)]) (g := gName 6) (tt := tYes) rfl sc_Flow___init__.nd (x_pit (K := K) rfl (pv 5)) (blkOk_by (own := [("block", 6)]) (N := N_Flow___init__) (sc := defScope s_Flow___init__) (by decide +kernel)) (fun _ _ _ _ _ => (pg_name (i := 6) sc_Flow___init__.nd rfl (.inl rfl))) (fun _ _ _ _ _ => pts_nil) (fun _ _ _ _ _ => (pe_callTy (x_tuple (K := K) rfl) (by rfl) b_tuple (by decide +kernel) (pa_cons (pv 6) pa_nil)))) pa_nil)) rfl)
      (pss_cons (ps_expr (pe_callS C_check_params.ok (hr.mono (by (first | omega | (simp only [Nat.add_eq] at *; omega) | (simp only [Nat.add_eq]; omega)))) (by rfl) C_check_params.g C_check_params.kp C_check_params.b (fun σ => passAt (takes_of rfl rfl rfl rfl) σ) (pa_cons (x_fld (K := K) rfl (pv 0) rfl) (pa_cons (pv 3) pa_nil))))
      (pss_one (ps_expr (pe_callS C_check_blocks.ok (hr.mono (by (first | omega | (simp only [Nat.add_eq] at *; omega) | (simp only [Nat.add_eq]; omega)))) (by rfl) C_check_blocks.g C_check_blocks.kp C_check_blocks.b (fun σ => passAt (takes_of rfl rfl rfl rfl) σ) (pa_cons (pv 0) pa_nil)))))))))), def_run (N := N_Flow___init__) (b := b_Flow___init__)
    (sim_seq (by exact (sim_sfld (c := "Flow") (cl_at hc_Flow T_Flow) (no_at hc_Flow T_Flow (by simp)) sim_var sim_var))
      (sim_seq (by exact (sim_sfld (c := "Flow") (cl_at hc_Flow T_Flow) (no_at hc_Flow T_Flow (by simp)) sim_var (sim_CB sb_tuple (sim_cons sim_var sim_nil))))
      (sim_seq (by exact (sim_sfld (c := "Flow") (cl_at hc_Flow T_Flow) (no_at hc_Flow T_Flow (by simp)) sim_var sim_var))
      (sim_seq (by exact (sim_sfld (c := "Flow") (cl_at hc_Flow T_Flow) (no_at hc_Flow T_Flow (by simp)) sim_var (sim_CB sb_tuple (sim_cons sim_var sim_nil))))
      (sim_seq (by exact (sim_sfld (c := "Flow") (cl_at hc_Flow T_Flow) (no_at hc_Flow T_Flow (by simp)) sim_var (sim_CB sb_tuple (sim_cons (sim_lc (vs := [6]) (by exact (sim_iTup sim_var)) (sim_wName (by decide)) (by exact sim_yes) (by exact (sim_CB sb_tuple (sim_cons sim_var sim_nil)))) sim_nil))))
      (sim_seq (by exact (sim_drop (sim_callS (sim_cons (sim_fld (c := "Flow") (cl_at hc_Flow T_Flow) (no_at hc_Flow T_Flow (by simp)) sim_var) (sim_cons sim_var sim_nil)))))
      (sim_drop (sim_callS (sim_cons sim_var sim_nil))))))))) h⟩
theorem ok__law_same (nonfa : ∀ a, fa a ≠ .non) {f__law_same : Addr} {fd__law_same : FuncData} (F__law_same : Fun K "_law_same" "_law_same" s__law_same f__law_same fd__law_same) (B__law_same : Binds K fd__law_same ["actual", "due"] []) (kp__law_same : PySem.W.keepIn K (.ref f__law_same) = true) (gg__law_same : mg "_law_same" = some (.ref f__law_same)) (b_isinstance : mg "isinstance" = none) (b_tuple : mg "tuple" = none) (b_len : mg "len" = none) (b_range : mg "range" = none) (b_all : mg "all" = none) (b_str : mg "str" = none) (b_int : mg "int" = none) (b_bool : mg "bool" = none) : ∀ n : Nat, FnOk P w K mg base CX0 (1 + n) f__law_same fd__law_same ["actual", "due"] (spM (M.Env.mk K ca fa none) 2 (r__law_same n)) := by
  intro n
  induction n with
  | zero => exact fn_bad rfl
  | succ n ih =>
  have ih__law_same := ih
  have C__law_same : Callee P w K mg base (1 + n) f__law_same fd__law_same "_law_same" ["actual", "due"] (spM (M.Env.mk K ca fa none) 2 (r__law_same n)) := ⟨ih__law_same, kp__law_same, B__law_same, gg__law_same⟩
  refine FnOk.imp (F__law_same.ok sc__law_same (sp_len (G := (M.Env.mk K ca fa none)) (m := r__law_same (n + 1)) rfl) (fun cdv A outer s H vs Q E hr h => ?_)) (fun _ _ _ _ h => h)
  have hu := hu_of hr
  exact ⟨_, (pss_cons (ps_if (pt_cmp (pc_isN (pv 1))) (pss_one (ps_ret (pe_cmp (pc_isN (pv 0))))) pss_nil)
      (pss_cons (ps_if (x_tru (K := K) rfl (pe_callB (x_isi (K := K) rfl) (by rfl) b_isinstance (by decide +kernel) (pa_cons (pv 1) (pa_cons (pe_bltn (v := .ty "tuple") (by rfl) b_tuple (by decide +kernel) rfl) pa_nil))) (by intro _; rfl)) (pss_cons (ps_if (PW.pt (pw_or (pt_not (x_tru (K := K) rfl (pe_callB (x_isi (K := K) rfl) (by rfl) b_isinstance (by decide +kernel) (pa_cons (pv 0) (pa_cons (pe_bltn (v := .ty "tuple") (by rfl) b_tuple (by decide +kernel) rfl) pa_nil))) (by intro _; rfl))) (pw_or1 (pt_cmpR (x_ne (K := K) rfl hr.units) (pe_callB (x_len (K := K) rfl) (by rfl) b_len (by decide +kernel) (pa_cons (pv 0) pa_nil)) (pe_callB (x_len (K := K) rfl) (by rfl) b_len (by decide +kernel) (pa_cons (pv 1) pa_nil)) (nomark _))))) (pss_one (ps_ret pe_bl)) pss_nil)
      (pss_one (ps_ret (pe_callB (x_all (K := K) rfl rfl) (by rfl) b_all (by decide +kernel) (pa_cons (pe_lc (own := [("k", 2)]) (g := gName 2) (tt := tYes) rfl sc__law_same.nd (pi_range1 (by rfl) b_range (pa_cons (pe_callB (x_len (K := K) rfl) (by rfl) b_len (by decide +kernel) (pa_cons (pv 1) pa_nil)) pa_nil)) (blkOk_by (own := [("k", 2)]) (N := N__law_same) (sc := defScope s__law_same) (by decide +kernel)) (fun _ _ _ _ _ => (pg_name (i := 2) sc__law_same.nd rfl (.inl rfl))) (fun _ _ _ _ _ => pts_nil) (fun _ _ _ _ _ => (pe_call C__law_same.ok (hr.mono (by (first | omega | (simp only [Nat.add_eq] at *; omega) | (simp only [Nat.add_eq]; omega)))) (by rfl) C__law_same.g C__law_same.kp C__law_same.b .nil passT (pa_cons (pe_ix (x_ix (K := K) rfl) (pv 0) (pv 2) (fun _ _ => rfl)) (pa_cons (pe_ix (x_ix (K := K) rfl) (pv 1) (pv 2) (fun _ _ => rfl)) pa_nil))))) pa_nil))))) pss_nil)
      (pss_cons (ps_if (x_tru (K := K) rfl (pe_callB (x_isi (K := K) rfl) (by rfl) b_isinstance (by decide +kernel) (pa_cons (pv 1) (pa_cons (pe_bltn (v := .ty "str") (by rfl) b_str (by decide +kernel) rfl) pa_nil))) (by intro _; rfl)) (pss_one (ps_ret (pe_and (pe_callB (x_isi (K := K) rfl) (by rfl) b_isinstance (by decide +kernel) (pa_cons (pv 0) (pa_cons (pe_bltn (v := .ty "str") (by rfl) b_str (by decide +kernel) rfl) pa_nil))) (pe_one (pe_cmpR (x_eq (K := K) rfl hr.units) (pv 0) (pv 1) (nomark _)))))) pss_nil)
      (pss_one (ps_ret (pe_and (pe_callB (x_isi (K := K) rfl) (by rfl) b_isinstance (by decide +kernel) (pa_cons (pv 0) (pa_cons (pe_bltn (v := .ty "int") (by rfl) b_int (by decide +kernel) rfl) pa_nil))) (pe_and (pe_not (pe_callB (x_isi (K := K) rfl) (by rfl) b_isinstance (by decide +kernel) (pa_cons (pv 0) (pa_cons (pe_bltn (v := .ty "bool") (by rfl) b_bool (by decide +kernel) rfl) pa_nil)))) (pe_one (pe_cmpR (x_eq (K := K) rfl hr.units) (pv 0) (pv 1) (nomark _)))))))))), def_run (N := N__law_same) (b := b__law_same (r__law_same n))
    (sim_seq (by exact (sim_if (by exact (sim_B (sim_isN nonfa sim_var))) (by exact (sim_ret (sim_isN nonfa sim_var))) (by exact sim_next)))
      (sim_seq (by exact (sim_if (by exact (sim_tru (sim_isi sim_var))) (by exact (sim_seq (by exact (sim_if (by exact (sim_or (sim_not (sim_tru (sim_isi sim_var))) (sim_test (sim_op so_ne (sim_CB sb_len (sim_cons sim_var sim_nil)) (sim_CB sb_len (sim_cons sim_var sim_nil)))))) (by exact (sim_ret sim_bl)) (by exact sim_next)))
      (sim_ret (sim_CB sb_all (sim_cons (sim_lc (vs := [2]) (by exact (sim_rng1 (sim_cons (sim_CB sb_len (sim_cons sim_var sim_nil)) sim_nil))) (sim_wName (by decide)) (by exact sim_yes) (by exact (sim_call (sim_cons (sim_op so_ix sim_var sim_var) (sim_cons (sim_op so_ix sim_var sim_var) sim_nil))))) sim_nil))))) (by exact sim_next)))
      (sim_seq (by exact (sim_if (by exact (sim_tru (sim_isi sim_var))) (by exact (sim_ret (sim_andV (sim_isi sim_var) (sim_op so_eq sim_var sim_var)))) (by exact sim_next)))
      (sim_ret (sim_andV (sim_isi sim_var) (sim_andV (sim_notV (sim_isi sim_var)) (sim_op so_eq sim_var sim_var))))))) h⟩
theorem ok_Flow_parts {f : Addr} {fd : FuncData} (F : Fun K "parts" "Flow.parts" s_Flow_parts f fd) {C_Flow : Addr} (hc_Flow : ca "Flow" = C_Flow) (g_Flow : mg "Flow" = some (.ref C_Flow)) (T_Flow : TxC K C_Flow ["name", "params", "count", "arrays", "blocks"]) : FnOk P w K mg base CX0 1 f fd ["self"] (spM (M.Env.mk K ca fa none) 1 m_Flow_parts) := by
  refine FnOk.imp (F.ok sc_Flow_parts (sp_len (G := (M.Env.mk K ca fa none)) (m := m_Flow_parts) rfl) (fun cdv A outer s H vs Q E hr h => ?_)) (fun _ _ _ _ h => h)
  have hu := hu_of hr
  exact ⟨_, (pss_one (ps_ret (pe_tup (pa_cons (x_fld (K := K) rfl (pv 0) rfl) (pa_cons (x_fld (K := K) rfl (pv 0) rfl) (pa_cons (x_fld (K := K) rfl (pv 0) rfl) (pa_cons (x_fld (K := K) rfl (pv 0) rfl) (pa_cons (x_fld (K := K) rfl (pv 0) rfl) pa_nil)))))))), def_run (N := N_Flow_parts) (b := b_Flow_parts)
    (sim_frz (sim_ret (sim_tup (sim_cons (sim_fld (c := "Flow") (cl_at hc_Flow T_Flow) (no_at hc_Flow T_Flow (by simp)) sim_var) (sim_cons (sim_fld (c := "Flow") (cl_at hc_Flow T_Flow) (no_at hc_Flow T_Flow (by simp)) sim_var) (sim_cons (sim_fld (c := "Flow") (cl_at hc_Flow T_Flow) (no_at hc_Flow T_Flow (by simp)) sim_var) (sim_cons (sim_fld (c := "Flow") (cl_at hc_Flow T_Flow) (no_at hc_Flow T_Flow (by simp)) sim_var) (sim_cons (sim_fld (c := "Flow") (cl_at hc_Flow T_Flow) (no_at hc_Flow T_Flow (by simp)) sim_var) sim_nil)))))))) h⟩
theorem ok__law_tried {f : Addr} {fd : FuncData} (F : Fun K "_law_tried" "_law_tried" s__law_tried f fd) {C_BadFlow : Addr} (hc_BadFlow : ca "BadFlow" = C_BadFlow) (g_BadFlow : mg "BadFlow" = some (.ref C_BadFlow)) {C_Flow : Addr} (hc_Flow : ca "Flow" = C_Flow) (g_Flow : mg "Flow" = some (.ref C_Flow)) {C_RunsError : Addr} (hc_RunsError : ca "RunsError" = C_RunsError) (g_RunsError : mg "RunsError" = some (.ref C_RunsError)) {C_BadSpot : Addr} (hc_BadSpot : ca "BadSpot" = C_BadSpot) (g_BadSpot : mg "BadSpot" = some (.ref C_BadSpot)) {C_BadSite : Addr} (hc_BadSite : ca "BadSite" = C_BadSite) (g_BadSite : mg "BadSite" = some (.ref C_BadSite)) {C_BadRow : Addr} (hc_BadRow : ca "BadRow" = C_BadRow) (g_BadRow : mg "BadRow" = some (.ref C_BadRow)) {C_BadLine : Addr} (hc_BadLine : ca "BadLine" = C_BadLine) (g_BadLine : mg "BadLine" = some (.ref C_BadLine)) (T_Flow : TxC K C_Flow ["name", "params", "count", "arrays", "blocks"]) {f_Flow___init__ : Addr} {fd_Flow___init__ : FuncData} (C_Flow___init__ : CalleeMX P w K mg base 5 f_Flow___init__ fd_Flow___init__ ["self", "name", "params", "count", "arrays", "blocks"] (spM (M.Env.mk K ca fa none) 6 m_Flow___init__)) {f__law_same : Addr} {fd__law_same : FuncData} (C__law_same : Callee P w K mg base 41 f__law_same fd__law_same "_law_same" ["actual", "due"] (spM (M.Env.mk K ca fa none) 2 m__law_same)) {f_Flow_parts : Addr} {fd_Flow_parts : FuncData} (C_Flow_parts : CalleeM P w K mg base 1 f_Flow_parts fd_Flow_parts ["self"] (spM (M.Env.mk K ca fa none) 1 m_Flow_parts)) (K_Flow : Mk K C_Flow f_Flow___init__) (exm_BadFlow_BadFlow : PySem.W.exmOne K (.ref C_BadFlow) (.ref C_BadFlow) = some true) (T_BadFlow : TxE K C_BadFlow ["block", "position"]) (kit_BadFlow_RunsError : PySem.W.kitOne K (.ref C_BadFlow) (.ref C_RunsError) = some true) (kit_BadFlow_ValueError : PySem.W.kitOne K (.ref C_BadFlow) (.type "ValueError") = some true) (kit_BadFlow_BadSpot : PySem.W.kitOne K (.ref C_BadFlow) (.ref C_BadSpot) = some false) (kit_BadFlow_BadSite : PySem.W.kitOne K (.ref C_BadFlow) (.ref C_BadSite) = some false) (kit_BadFlow_BadRow : PySem.W.kitOne K (.ref C_BadFlow) (.ref C_BadRow) = some false) (kit_BadFlow_BadLine : PySem.W.kitOne K (.ref C_BadFlow) (.ref C_BadLine) = some false) (M_Flow_parts : Meth K C_Flow "parts" f_Flow_parts) (b_tuple : mg "tuple" = none) (b_isinstance : mg "isinstance" = none) (b_ValueError : mg "ValueError" = none) : FnOk P w K mg base CX0 42 f fd ["heads", "wide", "rows", "grid"] (spM (M.Env.mk K ca fa none) 4 m__law_tried) := by
  refine FnOk.imp (F.ok sc__law_tried (sp_len (G := (M.Env.mk K ca fa none)) (m := m__law_tried) rfl) (fun cdv A outer s H vs Q E hr h => ?_)) (fun _ _ _ _ h => h)
  have hu := hu_of hr
  exact ⟨_, (pss_cons (ps_set (i := 4) sc__law_tried.nd rfl (.inl rfl) (pe_tup (pa_cons pe_str (pa_cons (pv 0) (pa_cons (pv 1) (pa_cons (pv 2) (pa_cons (pe_callTy (x_tuple (K := K) rfl) (by rfl) b_tuple (by decide +kernel) (pa_cons (pv 3) pa_nil)) pa_nil)))))))
      (pss_cons (ps_tryT (i := 6) (K := K) rfl rfl rfl sc__law_tried.nd rfl rfl ⟨rfl, by decide, .inl g_BadFlow⟩ takes0 (fun W pn xe tk po => (pss_one (ps_set (i := 5) sc__law_tried.nd rfl (.inl rfl) (pe_makeS K_Flow C_Flow___init__.ok (hr.mono (by (first | omega | (simp only [Nat.add_eq] at *; omega) | (simp only [Nat.add_eq]; omega)))) (by rfl) g_Flow C_Flow___init__.b .nil (fun σ => passAt tk σ) (pa_cons pe_str (pa_cons (pv 0) (pa_cons (pv 1) (pa_cons (pv 2) (pa_cons (pe_callTy (x_tuple (K := K) rfl) (by rfl) b_tuple (by decide +kernel) (pa_cons (pv 3) pa_nil)) pa_nil))))))))) (fun a oe cls d pn hz hf => (pss_cons (ps_if (PW.pt (pw_or (pt_not (x_tru (K := K) rfl (pe_callB (call_isX T_BadFlow.ie hz hf) (by rfl) b_isinstance (by decide +kernel) (pa_cons (pv 6) (pa_cons (pe_glob (v := .ref C_RunsError) (by rfl) g_RunsError rfl) pa_nil))) (by intro _; rfl))) (pw_or1 (pt_not (x_tru (K := K) rfl (pe_callB (call_isX T_BadFlow.ie hz hf) (by rfl) b_isinstance (by decide +kernel) (pa_cons (pv 6) (pa_cons (pe_bltn (v := .ty "ValueError") (by rfl) b_ValueError (by decide +kernel) rfl) pa_nil))) (by intro _; rfl)))))) (pss_one (ps_ret (pe_tup (pa_cons pe_str pa_nil)))) pss_nil)
      (pss_cons (ps_if (x_tru (K := K) rfl (pe_callB (call_isX T_BadFlow.ie hz hf) (by rfl) b_isinstance (by decide +kernel) (pa_cons (pv 6) (pa_cons (pe_tup (pa_cons (pe_glob (v := .ref C_BadLine) (by rfl) g_BadLine rfl) (pa_cons (pe_glob (v := .ref C_BadRow) (by rfl) g_BadRow rfl) (pa_cons (pe_glob (v := .ref C_BadSite) (by rfl) g_BadSite rfl) (pa_cons (pe_glob (v := .ref C_BadSpot) (by rfl) g_BadSpot rfl) pa_nil))))) pa_nil))) (by intro _; rfl)) (pss_one (ps_ret (pe_tup (pa_cons pe_str pa_nil)))) pss_nil)
      (pss_one (ps_ret (pe_tup (pa_cons (pe_xf T_BadFlow.xf (T_BadFlow.no _ (by simp)) hz hf (pv 6)) (pa_cons (pe_xf T_BadFlow.xf (T_BadFlow.no _ (by simp)) hz hf (pv 6)) pa_nil)))))))))
      (pss_cons (ps_if (pt_not (x_tru (K := K) rfl (pe_call C__law_same.ok (hr.mono (by (first | omega | (simp only [Nat.add_eq] at *; omega) | (simp only [Nat.add_eq]; omega)))) (by rfl) C__law_same.g C__law_same.kp C__law_same.b .nil passT (pa_cons (pe_tup (pa_cons (x_fld (K := K) rfl (pv 5) rfl) (pa_cons (x_fld (K := K) rfl (pv 5) rfl) (pa_cons (x_fld (K := K) rfl (pv 5) rfl) pa_nil)))) (pa_cons (pe_slice (x_slT (K := K) rfl) (pv 4) po_none (po_some pe_int)) pa_nil))) (by intro _; rfl))) (pss_one (ps_ret (pe_tup (pa_cons pe_str pa_nil)))) pss_nil)
      (pss_cons (ps_if (pt_not (x_tru (K := K) rfl (pe_call C__law_same.ok (hr.mono (by (first | omega | (simp only [Nat.add_eq] at *; omega) | (simp only [Nat.add_eq]; omega)))) (by rfl) C__law_same.g C__law_same.kp C__law_same.b .nil passT (pa_cons (pe_tup (pa_cons (x_fld (K := K) rfl (pv 5) rfl) (pa_cons (x_fld (K := K) rfl (pv 5) rfl) pa_nil))) (pa_cons (pe_slice (x_slT (K := K) rfl) (pv 4) (po_some pe_int) po_none) pa_nil))) (by intro _; rfl))) (pss_one (ps_ret (pe_tup (pa_cons pe_str pa_nil)))) pss_nil)
      (pss_one (ps_ret (pe_ifExp (x_tru (K := K) rfl (pe_call C__law_same.ok (hr.mono (by (first | omega | (simp only [Nat.add_eq] at *; omega) | (simp only [Nat.add_eq]; omega)))) (by rfl) C__law_same.g C__law_same.kp C__law_same.b .nil passT (pa_cons (pe_meth0 (pv 5) T_Flow.cl M_Flow_parts C_Flow_parts.ok (hr.mono (by (first | omega | (simp only [Nat.add_eq] at *; omega) | (simp only [Nat.add_eq]; omega)))) C_Flow_parts.b .nil passT) (pa_cons (pv 4) pa_nil))) (by intro _; rfl)) pe_non (pe_tup (pa_cons pe_str pa_nil))))))))), def_run (N := N__law_tried) (b := b__law_tried)
    (sim_seq (by exact (sim_set (sim_tup (sim_cons sim_str (sim_cons sim_var (sim_cons sim_var (sim_cons sim_var (sim_cons (sim_CB sb_tuple (sim_cons sim_var sim_nil)) sim_nil))))))))
      (sim_seq (by exact (sim_try0 (W0 := fun _ _ _ _ => True) (xm_cons hc_BadFlow exm_BadFlow_BadFlow xm_nil) (fun W' => by exact (sim_set (sim_makeS hc_Flow (sim_cons sim_str (sim_cons sim_var (sim_cons sim_var (sim_cons sim_var (sim_cons (sim_CB sb_tuple (sim_cons sim_var sim_nil)) sim_nil)))))))) (fun a cls d e => by exact (sim_seq (by exact (sim_if (by exact (sim_or (sim_not (sim_tru (sim_isX1 hc_BadFlow (.own _) kit_BadFlow_RunsError))) (sim_not (sim_tru (sim_isX1 hc_BadFlow (.ty _) kit_BadFlow_ValueError))))) (by exact (sim_ret (sim_tup (sim_cons sim_str sim_nil)))) (by exact sim_next)))
      (sim_seq (by exact (sim_if (by exact (sim_tru (sim_isXt hc_BadFlow (.cons (.cons (.cons (.cons .nil)))) (Nat.le_of_ble_eq_true rfl) (.cons (.own _) (.cons (.own _) (.cons (.own _) (.cons (.own _) .nil)))) (kitAny_cons kit_BadFlow_BadLine (fun _ => (kitAny_cons kit_BadFlow_BadRow (fun _ => (kitAny_cons kit_BadFlow_BadSite (fun _ => (kitAny_cons kit_BadFlow_BadSpot (fun _ => kitAny_nil) (fun z => Bool.noConfusion z))) (fun z => Bool.noConfusion z))) (fun z => Bool.noConfusion z))) (fun z => Bool.noConfusion z))))) (by exact (sim_ret (sim_tup (sim_cons sim_str sim_nil)))) (by exact sim_next)))
      (sim_ret (sim_tup (sim_cons (sim_xf hc_BadFlow) (sim_cons (sim_xf hc_BadFlow) sim_nil)))))))))
      (sim_seq (by exact (sim_frz (sim_if (by exact (sim_not (sim_tru (sim_call (sim_cons (sim_tup (sim_cons (sim_fld (c := "Flow") (cl_at hc_Flow T_Flow) (no_at hc_Flow T_Flow (by simp)) sim_var) (sim_cons (sim_fld (c := "Flow") (cl_at hc_Flow T_Flow) (no_at hc_Flow T_Flow (by simp)) sim_var) (sim_cons (sim_fld (c := "Flow") (cl_at hc_Flow T_Flow) (no_at hc_Flow T_Flow (by simp)) sim_var) sim_nil)))) (sim_cons (sim_sl so_slT sim_var sim_noPart (sim_part sim_int)) sim_nil)))))) (by exact (sim_ret (sim_tup (sim_cons sim_str sim_nil)))) (by exact sim_next))))
      (sim_seq (by exact (sim_if (by exact (sim_not (sim_tru (sim_call (sim_cons (sim_tup (sim_cons (sim_fld (c := "Flow") (cl_at hc_Flow T_Flow) (no_at hc_Flow T_Flow (by simp)) sim_var) (sim_cons (sim_fld (c := "Flow") (cl_at hc_Flow T_Flow) (no_at hc_Flow T_Flow (by simp)) sim_var) sim_nil))) (sim_cons (sim_sl so_slT sim_var (sim_part sim_int) sim_noPart) sim_nil)))))) (by exact (sim_ret (sim_tup (sim_cons sim_str sim_nil)))) (by exact sim_next)))
      (sim_ret (sim_ifE (sim_tru (sim_call (sim_cons (sim_meth hc_Flow sim_var sim_nil) (sim_cons sim_var sim_nil)))) sim_non (sim_tup (sim_cons sim_str sim_nil)))))))) h⟩
theorem ok__law_odd_row {f : Addr} {fd : FuncData} (F : Fun K "_law_odd_row" "_law_odd_row" s__law_odd_row f fd) {f__law_pick : Addr} {fd__law_pick : FuncData} (C__law_pick : Callee P w K mg base 2 f__law_pick fd__law_pick "_law_pick" ["pool", "things"] (spM (M.Env.mk K ca fa none) 2 m__law_pick)) {f__law_draw : Addr} {fd__law_draw : FuncData} (C__law_draw : Callee P w K mg base 1 f__law_draw fd__law_draw "_law_draw" ["pool", "many"] (spM (M.Env.mk K ca fa none) 2 m__law_draw)) (b_len : mg "len" = none) (b_max : mg "max" = none) : FnOk P w K mg base CX0 3 f fd ["pool", "row", "wide"] (spM (M.Env.mk K ca fa none) 3 m__law_odd_row) := by
  refine FnOk.imp (F.ok sc__law_odd_row (sp_len (G := (M.Env.mk K ca fa none)) (m := m__law_odd_row) rfl) (fun cdv A outer s H vs Q E hr h => ?_)) (fun _ _ _ _ h => h)
  have hu := hu_of hr
  exact ⟨_, (pss_cons (ps_set (i := 3) sc__law_odd_row.nd rfl (.inl rfl) (pe_call C__law_pick.ok (hr.mono (by (first | omega | (simp only [Nat.add_eq] at *; omega) | (simp only [Nat.add_eq]; omega)))) (by rfl) C__law_pick.g C__law_pick.kp C__law_pick.b .nil passT (pa_cons (pv 0) (pa_cons (pe_lst (pa_cons (pv 2) (pa_cons (pe_un un_neg pe_int) (pa_cons (pe_op op_add (pv 2) pe_int) (pa_cons (pe_op op_sub (pv 2) pe_int) pa_nil))))) pa_nil))))
      (pss_cons (ps_if (PW.pt (pw_and (pt_cmpR op_lt (pe_callB (x_len (K := K) rfl) (by rfl) b_len (by decide +kernel) (pa_cons (pv 1) pa_nil)) pe_int (nomark _)) (pw_and1 (pt_cmpR (x_eq (K := K) rfl hr.units) (pe_call C__law_draw.ok (hr.mono (by (first | omega | (simp only [Nat.add_eq] at *; omega) | (simp only [Nat.add_eq]; omega)))) (by rfl) C__law_draw.g C__law_draw.kp C__law_draw.b .nil passT (pa_cons (pv 0) (pa_cons pe_int pa_nil))) pe_int (nomark _))))) (pss_cons (ps_set (i := 4) sc__law_odd_row.nd rfl (.inl rfl) (pe_call C__law_draw.ok (hr.mono (by (first | omega | (simp only [Nat.add_eq] at *; omega) | (simp only [Nat.add_eq]; omega)))) (by rfl) C__law_draw.g C__law_draw.kp C__law_draw.b .nil passT (pa_cons (pv 0) (pa_cons (pe_op op_add (pe_callB (x_len (K := K) rfl) (by rfl) b_len (by decide +kernel) (pa_cons (pv 1) pa_nil)) pe_int) pa_nil))))
      (pss_one (ps_ret (pe_op (x_catA (K := K) rfl) (pe_op (x_catA (K := K) rfl) (pe_slice (x_slT (K := K) rfl) (pv 1) po_none (po_some (pv 4))) (pe_tup (pa_cons (pv 3) pa_nil))) (pe_slice (x_slT (K := K) rfl) (pv 1) (po_some (pv 4)) po_none))))) pss_nil)
      (pss_cons (ps_set (i := 4) sc__law_odd_row.nd rfl (.inl rfl) (pe_call C__law_draw.ok (hr.mono (by (first | omega | (simp only [Nat.add_eq] at *; omega) | (simp only [Nat.add_eq]; omega)))) (by rfl) C__law_draw.g C__law_draw.kp C__law_draw.b .nil passT (pa_cons (pv 0) (pa_cons (pe_callB (call_max2 rfl) (by rfl) b_max (by decide +kernel) (pa_cons pe_int (pa_cons (pe_callB (x_len (K := K) rfl) (by rfl) b_len (by decide +kernel) (pa_cons (pv 1) pa_nil)) pa_nil))) pa_nil))))
      (pss_one (ps_ret (pe_op (x_catA (K := K) rfl) (pe_op (x_catA (K := K) rfl) (pe_slice (x_slT (K := K) rfl) (pv 1) po_none (po_some (pv 4))) (pe_tup (pa_cons (pv 3) pa_nil))) (pe_slice (x_slT (K := K) rfl) (pv 1) (po_some (pe_op op_add (pv 4) pe_int)) po_none))))))), def_run (N := N__law_odd_row) (b := b__law_odd_row)
    (sim_seq (by exact (sim_set (sim_call (sim_cons sim_var (sim_cons (sim_lst (sim_cons sim_var (sim_cons (sim_un so_neg sim_int) (sim_cons (sim_op so_add sim_var sim_int) (sim_cons (sim_op so_sub sim_var sim_int) sim_nil))))) sim_nil)))))
      (sim_seq (by exact (sim_if (by exact (sim_and (sim_test (sim_op so_lt (sim_CB sb_len (sim_cons sim_var sim_nil)) sim_int)) (sim_test (sim_op so_eq (sim_call (sim_cons sim_var (sim_cons sim_int sim_nil))) sim_int)))) (by exact (sim_seq (by exact (sim_set (sim_call (sim_cons sim_var (sim_cons (sim_op so_add (sim_CB sb_len (sim_cons sim_var sim_nil)) sim_int) sim_nil)))))
      (sim_ret (sim_op so_catA (sim_op so_catA (sim_sl so_slT sim_var sim_noPart (sim_part sim_var)) (sim_tup (sim_cons sim_var sim_nil))) (sim_sl so_slT sim_var (sim_part sim_var) sim_noPart))))) (by exact sim_next)))
      (sim_seq (by exact (sim_set (sim_call (sim_cons sim_var (sim_cons (sim_CB sb_max (sim_cons sim_int (sim_cons (sim_CB sb_len (sim_cons sim_var sim_nil)) sim_nil))) sim_nil)))))
      (sim_ret (sim_op so_catA (sim_op so_catA (sim_sl so_slT sim_var sim_noPart (sim_part sim_var)) (sim_tup (sim_cons sim_var sim_nil))) (sim_sl so_slT sim_var (sim_part (sim_op so_add sim_var sim_int)) sim_noPart)))))) h⟩
theorem ok__law_odd {f : Addr} {fd : FuncData} (F : Fun K "_law_odd" "_law_odd" s__law_odd f fd) {f__law_pick : Addr} {fd__law_pick : FuncData} (C__law_pick : Callee P w K mg base 2 f__law_pick fd__law_pick "_law_pick" ["pool", "things"] (spM (M.Env.mk K ca fa none) 2 m__law_pick)) : FnOk P w K mg base CX0 3 f fd ["pool", "letter", "x", "box", "at"] (spM (M.Env.mk K ca fa none) 5 m__law_odd) := by
  refine FnOk.imp (F.ok sc__law_odd (sp_len (G := (M.Env.mk K ca fa none)) (m := m__law_odd) rfl) (fun cdv A outer s H vs Q E hr h => ?_)) (fun _ _ _ _ h => h)
  have hu := hu_of hr
  exact ⟨_, (pss_cons (ps_set (i := 5) sc__law_odd.nd rfl (.inl rfl) (pe_lst (pa_cons (pv 2) pa_nil)))
      (pss_cons (ps_if (pt_cmpR (x_eq (K := K) rfl hr.units) (pv 1) pe_str (nomark _)) (pss_one (ps_set (i := 5) sc__law_odd.nd rfl (.inl rfl) (pe_lst (pa_cons (pe_dget hu (pv 3) pe_str (fun _ _ => rfl)) (pa_cons (pe_un un_neg pe_int) (pa_cons (pe_op op_add (pe_dget hu (pv 3) pe_str (fun _ _ => rfl)) pe_int) (pa_cons pe_int (pa_cons (pe_un un_neg pe_int) pa_nil)))))))) pss_nil)
      (pss_cons (ps_if (pt_cmpR (x_eq (K := K) rfl hr.units) (pv 1) pe_str (nomark _)) (pss_one (ps_set (i := 5) sc__law_odd.nd rfl (.inl rfl) (pe_lst (pa_cons pe_int (pa_cons (pe_un un_neg pe_int) (pa_cons pe_int (pa_cons (pe_un un_neg pe_int) pa_nil))))))) pss_nil)
      (pss_cons (ps_if (pt_cmpR (x_eq (K := K) rfl hr.units) (pv 1) pe_str (nomark _)) (pss_one (ps_set (i := 5) sc__law_odd.nd rfl (.inl rfl) (pe_lst (pa_cons pe_int (pa_cons (pe_un un_neg pe_int) (pa_cons (pe_un un_neg pe_int) pa_nil)))))) pss_nil)
      (pss_cons (ps_if (pt_cmpR (x_eq (K := K) rfl hr.units) (pv 1) pe_str (nomark _)) (pss_one (ps_set (i := 5) sc__law_odd.nd rfl (.inl rfl) (pe_lst (pa_cons (pe_dget hu (pv 3) pe_str (fun _ _ => rfl)) (pa_cons (pe_un un_neg pe_int) (pa_cons (pe_op op_add (pe_dget hu (pv 3) pe_str (fun _ _ => rfl)) pe_int) pa_nil)))))) pss_nil)
      (pss_cons (ps_if (pt_cmpR (x_eq (K := K) rfl hr.units) (pv 1) pe_str (nomark _)) (pss_one (ps_set (i := 5) sc__law_odd.nd rfl (.inl rfl) (pe_lst (pa_cons (pv 4) (pa_cons (pe_dget hu (pv 3) pe_str (fun _ _ => rfl)) (pa_cons (pe_un un_neg pe_int) (pa_cons pe_int (pa_cons (pe_op op_add (pe_dget hu (pv 3) pe_str (fun _ _ => rfl)) pe_int) pa_nil)))))))) pss_nil)
      (pss_cons (ps_if (pt_cmpR (x_eq (K := K) rfl hr.units) (pv 1) pe_str (nomark _)) (pss_one (ps_set (i := 5) sc__law_odd.nd rfl (.inl rfl) (pe_lst (pa_cons pe_str (pa_cons pe_str (pa_cons pe_str (pa_cons pe_str (pa_cons pe_str (pa_cons pe_str pa_nil))))))))) pss_nil)
      (pss_cons (ps_if (pt_cmpR (x_eq (K := K) rfl hr.units) (pv 1) pe_str (nomark _)) (pss_one (ps_set (i := 5) sc__law_odd.nd rfl (.inl rfl) (pe_lst (pa_cons (pe_dget hu (pv 3) pe_str (fun _ _ => rfl)) (pa_cons (pe_un un_neg pe_int) (pa_cons (pe_op op_add (pe_dget hu (pv 3) pe_str (fun _ _ => rfl)) pe_int) pa_nil)))))) pss_nil)
      (pss_cons (ps_if (pt_cmpR (x_eq (K := K) rfl hr.units) (pv 1) pe_str (nomark _)) (pss_one (ps_set (i := 5) sc__law_odd.nd rfl (.inl rfl) (pe_lst (pa_cons (pe_tup pa_nil) (pa_cons (pe_op (x_repT (K := K) rfl) (pe_tup (pa_cons (pe_tup (pa_cons pe_str (pa_cons pe_int pa_nil))) pa_nil)) pe_int) pa_nil))))) pss_nil)
      (pss_one (ps_ret (pe_call C__law_pick.ok (hr.mono (by (first | omega | (simp only [Nat.add_eq] at *; omega) | (simp only [Nat.add_eq]; omega)))) (by rfl) C__law_pick.g C__law_pick.kp C__law_pick.b .nil passT (pa_cons (pv 0) (pa_cons (pv 5) pa_nil)))))))))))))), def_run (N := N__law_odd) (b := b__law_odd)
    (sim_seq (by exact (sim_set (sim_lst (sim_cons sim_var sim_nil))))
      (sim_seq (by exact (sim_if (by exact (sim_test (sim_op so_eq sim_var sim_str))) (by exact (sim_frz (sim_set (sim_lst (sim_cons (sim_dget sim_var sim_str) (sim_cons (sim_un so_neg sim_int) (sim_cons (sim_op so_add (sim_dget sim_var sim_str) sim_int) (sim_cons sim_int (sim_cons (sim_un so_neg sim_int) sim_nil))))))))) (by exact sim_next)))
      (sim_seq (by exact (sim_if (by exact (sim_test (sim_op so_eq sim_var sim_str))) (by exact (sim_set (sim_lst (sim_cons sim_int (sim_cons (sim_un so_neg sim_int) (sim_cons sim_int (sim_cons (sim_un so_neg sim_int) sim_nil))))))) (by exact sim_next)))
      (sim_seq (by exact (sim_if (by exact (sim_test (sim_op so_eq sim_var sim_str))) (by exact (sim_set (sim_lst (sim_cons sim_int (sim_cons (sim_un so_neg sim_int) (sim_cons (sim_un so_neg sim_int) sim_nil)))))) (by exact sim_next)))
      (sim_seq (by exact (sim_if (by exact (sim_test (sim_op so_eq sim_var sim_str))) (by exact (sim_frz (sim_set (sim_lst (sim_cons (sim_dget sim_var sim_str) (sim_cons (sim_un so_neg sim_int) (sim_cons (sim_op so_add (sim_dget sim_var sim_str) sim_int) sim_nil))))))) (by exact sim_next)))
      (sim_seq (by exact (sim_if (by exact (sim_test (sim_op so_eq sim_var sim_str))) (by exact (sim_frz (sim_set (sim_lst (sim_cons sim_var (sim_cons (sim_dget sim_var sim_str) (sim_cons (sim_un so_neg sim_int) (sim_cons sim_int (sim_cons (sim_op so_add (sim_dget sim_var sim_str) sim_int) sim_nil))))))))) (by exact sim_next)))
      (sim_seq (by exact (sim_if (by exact (sim_test (sim_op so_eq sim_var sim_str))) (by exact (sim_set (sim_lst (sim_cons sim_str (sim_cons sim_str (sim_cons sim_str (sim_cons sim_str (sim_cons sim_str (sim_cons sim_str sim_nil))))))))) (by exact sim_next)))
      (sim_seq (by exact (sim_if (by exact (sim_test (sim_op so_eq sim_var sim_str))) (by exact (sim_frz (sim_set (sim_lst (sim_cons (sim_dget sim_var sim_str) (sim_cons (sim_un so_neg sim_int) (sim_cons (sim_op so_add (sim_dget sim_var sim_str) sim_int) sim_nil))))))) (by exact sim_next)))
      (sim_seq (by exact (sim_if (by exact (sim_test (sim_op so_eq sim_var sim_str))) (by exact (sim_set (sim_lst (sim_cons (sim_tup sim_nil) (sim_cons (sim_op so_repT (sim_tup (sim_cons (sim_tup (sim_cons sim_str (sim_cons sim_int sim_nil))) sim_nil)) sim_int) sim_nil))))) (by exact sim_next)))
      (sim_frz (sim_ret (sim_call (sim_cons sim_var (sim_cons sim_var sim_nil)))))))))))))) h⟩
theorem ok__law_entry_bent {f : Addr} {fd : FuncData} (F : Fun K "_law_entry_bent" "_law_entry_bent" s__law_entry_bent f fd) {f__law_draw : Addr} {fd__law_draw : FuncData} (C__law_draw : Callee P w K mg base 1 f__law_draw fd__law_draw "_law_draw" ["pool", "many"] (spM (M.Env.mk K ca fa none) 2 m__law_draw)) {f__law_odd_row : Addr} {fd__law_odd_row : FuncData} (C__law_odd_row : Callee P w K mg base 3 f__law_odd_row fd__law_odd_row "_law_odd_row" ["pool", "row", "wide"] (spM (M.Env.mk K ca fa none) 3 m__law_odd_row)) {f__law_odd : Addr} {fd__law_odd : FuncData} (C__law_odd : Callee P w K mg base 3 f__law_odd fd__law_odd "_law_odd" ["pool", "letter", "x", "box", "at"] (spM (M.Env.mk K ca fa none) 5 m__law_odd)) (b_len : mg "len" = none) (b_list : mg "list" = none) (b_tuple : mg "tuple" = none) : FnOk P w K mg base CX0 4 f fd ["pool", "deed", "box", "at"] (spM (M.Env.mk K ca fa none) 4 m__law_entry_bent) := by
  refine FnOk.imp (F.ok sc__law_entry_bent (sp_len (G := (M.Env.mk K ca fa none)) (m := m__law_entry_bent) rfl) (fun cdv A outer s H vs Q E hr h => ?_)) (fun _ _ _ _ h => h)
  have hu := hu_of hr
  exact ⟨_, (pss_cons (ps_set (i := 4) sc__law_entry_bent.nd rfl (.inl rfl) (pe_dget hu (pe_dget hu (pv 2) pe_str (fun _ _ => rfl)) (pe_ix (x_ix (K := K) rfl) (pv 1) pe_int (fun _ _ => rfl)) (fun _ _ => rfl)))
      (pss_cons (ps_if (pt_cmpR (x_eq (K := K) rfl hr.units) (pe_callB (call_len_str) (by rfl) b_len (by decide +kernel) (pa_cons (pv 4) pa_nil)) pe_int (nomark _)) (pss_one (ps_ret (pe_op (x_catA (K := K) rfl) (pv 1) (pe_tup (pa_cons pe_int pa_nil))))) pss_nil)
      (pss_cons (ps_set (i := 5) sc__law_entry_bent.nd rfl (.inl rfl) (pe_call C__law_draw.ok (hr.mono (by (first | omega | (simp only [Nat.add_eq] at *; omega) | (simp only [Nat.add_eq]; omega)))) (by rfl) C__law_draw.g C__law_draw.kp C__law_draw.b .nil passT (pa_cons (pv 0) (pa_cons (pe_callB (call_len_str) (by rfl) b_len (by decide +kernel) (pa_cons (pv 4) pa_nil)) pa_nil))))
      (pss_cons (ps_set (i := 6) sc__law_entry_bent.nd rfl (.inl rfl) (pe_callTy (x_list (K := K) rfl) (by rfl) b_list (by decide +kernel) (pa_cons (pv 1) pa_nil)))
      (pss_cons (ps_set (i := 7) sc__law_entry_bent.nd rfl (.inl rfl) (pe_ix (x_ix (K := K) rfl) (pv 1) (pe_op op_add (pv 5) pe_int) (fun _ _ => rfl)))
      (pss_cons (ps_if (pt_cmpR (x_in (K := K) rfl) (pe_ix ix_str (pv 4) (pv 5) (fun _ _ => rfl)) (pe_tup (pa_cons pe_str (pa_cons pe_str pa_nil))) rfl) (pss_one (ps_asg (pe_call C__law_odd_row.ok (hr.mono (by (first | omega | (simp only [Nat.add_eq] at *; omega) | (simp only [Nat.add_eq]; omega)))) (by rfl) C__law_odd_row.g C__law_odd_row.kp C__law_odd_row.b .nil passT (pa_cons (pv 0) (pa_cons (pv 7) (pa_cons (pe_dget hu (pv 2) pe_str (fun _ _ => rfl)) pa_nil)))) (pg_sub (pv 6) (pe_op op_add (pv 5) pe_int) set_list))) (pss_one (ps_asg (pe_call C__law_odd.ok (hr.mono (by (first | omega | (simp only [Nat.add_eq] at *; omega) | (simp only [Nat.add_eq]; omega)))) (by rfl) C__law_odd.g C__law_odd.kp C__law_odd.b .nil passT (pa_cons (pv 0) (pa_cons (pe_ix ix_str (pv 4) (pv 5) (fun _ _ => rfl)) (pa_cons (pv 7) (pa_cons (pv 2) (pa_cons (pv 3) pa_nil)))))) (pg_sub (pv 6) (pe_op op_add (pv 5) pe_int) set_list))))
      (pss_one (ps_ret (pe_callTy (x_tuple (K := K) rfl) (by rfl) b_tuple (by decide +kernel) (pa_cons (pv 6) pa_nil)))))))))), def_run (N := N__law_entry_bent) (b := b__law_entry_bent)
    (sim_seq (by exact (sim_frz (sim_set (sim_dget (sim_dget sim_var sim_str) (sim_op so_ix sim_var sim_int)))))
      (sim_seq (by exact (sim_if (by exact (sim_test (sim_op so_eq (sim_CB sb_lenS (sim_cons sim_var sim_nil)) sim_int))) (by exact (sim_ret (sim_op so_catA sim_var (sim_tup (sim_cons sim_int sim_nil))))) (by exact sim_next)))
      (sim_seq (by exact (sim_set (sim_call (sim_cons sim_var (sim_cons (sim_CB sb_lenS (sim_cons sim_var sim_nil)) sim_nil)))))
      (sim_seq (by exact (sim_set (sim_CB sb_listO (sim_cons sim_var sim_nil))))
      (sim_seq (by exact (sim_set (sim_op so_ix sim_var (sim_op so_add sim_var sim_int))))
      (sim_seq (by exact (sim_if (by exact (sim_test (sim_op so_in (sim_op so_ixS sim_var sim_var) (sim_tup (sim_cons sim_str (sim_cons sim_str sim_nil)))))) (by exact (sim_setIx (sim_call (sim_cons sim_var (sim_cons sim_var (sim_cons (sim_dget sim_var sim_str) sim_nil)))) sim_var (sim_op so_add sim_var sim_int))) (by exact (sim_setIx (sim_call (sim_cons sim_var (sim_cons (sim_op so_ixS sim_var sim_var) (sim_cons sim_var (sim_cons sim_var (sim_cons sim_var sim_nil)))))) sim_var (sim_op so_add sim_var sim_int)))))
      (sim_frz (sim_ret (sim_CB sb_tuple (sim_cons sim_var sim_nil)))))))))) h⟩
theorem ok__law_deed_bent {f : Addr} {fd : FuncData} (F : Fun K "_law_deed_bent" "_law_deed_bent" s__law_deed_bent f fd) {f__law_draw : Addr} {fd__law_draw : FuncData} (C__law_draw : Callee P w K mg base 1 f__law_draw fd__law_draw "_law_draw" ["pool", "many"] (spM (M.Env.mk K ca fa none) 2 m__law_draw)) {f__law_pick : Addr} {fd__law_pick : FuncData} (C__law_pick : Callee P w K mg base 2 f__law_pick fd__law_pick "_law_pick" ["pool", "things"] (spM (M.Env.mk K ca fa none) 2 m__law_pick)) {f__law_entry_bent : Addr} {fd__law_entry_bent : FuncData} (C__law_entry_bent : Callee P w K mg base 4 f__law_entry_bent fd__law_entry_bent "_law_entry_bent" ["pool", "deed", "box", "at"] (spM (M.Env.mk K ca fa none) 4 m__law_entry_bent)) (b_len : mg "len" = none) : FnOk P w K mg base CX0 5 f fd ["pool", "deed", "box", "at"] (spM (M.Env.mk K ca fa none) 4 m__law_deed_bent) := by
  refine FnOk.imp (F.ok sc__law_deed_bent (sp_len (G := (M.Env.mk K ca fa none)) (m := m__law_deed_bent) rfl) (fun cdv A outer s H vs Q E hr h => ?_)) (fun _ _ _ _ h => h)
  have hu := hu_of hr
  exact ⟨_, (pss_cons (ps_set (i := 4) sc__law_deed_bent.nd rfl (.inl rfl) (pe_call C__law_draw.ok (hr.mono (by (first | omega | (simp only [Nat.add_eq] at *; omega) | (simp only [Nat.add_eq]; omega)))) (by rfl) C__law_draw.g C__law_draw.kp C__law_draw.b .nil passT (pa_cons (pv 0) (pa_cons pe_int pa_nil))))
      (pss_cons (ps_if (pt_cmpR (x_eq (K := K) rfl hr.units) (pv 4) pe_int (nomark _)) (pss_one (ps_ret (pe_op (x_catA (K := K) rfl) (pv 1) (pe_tup (pa_cons pe_int pa_nil))))) pss_nil)
      (pss_cons (ps_if (PW.pt (pw_and (pt_cmpR (x_eq (K := K) rfl hr.units) (pv 4) pe_int (nomark _)) (pw_and1 (pt_cmpR op_gt (pe_callB (x_len (K := K) rfl) (by rfl) b_len (by decide +kernel) (pa_cons (pv 1) pa_nil)) pe_int (nomark _))))) (pss_one (ps_ret (pe_slice (x_slT (K := K) rfl) (pv 1) po_none (po_some (pe_un un_neg pe_int))))) pss_nil)
      (pss_cons (ps_if (pt_cmpR (x_eq (K := K) rfl hr.units) (pv 4) pe_int (nomark _)) (pss_cons (ps_set (i := 5) sc__law_deed_bent.nd rfl (.inl rfl) (pe_call C__law_pick.ok (hr.mono (by (first | omega | (simp only [Nat.add_eq] at *; omega) | (simp only [Nat.add_eq]; omega)))) (by rfl) C__law_pick.g C__law_pick.kp C__law_pick.b .nil passT (pa_cons (pv 0) (pa_cons (pe_lst (pa_cons pe_str (pa_cons pe_str (pa_cons pe_str (pa_cons pe_str (pa_cons pe_str (pa_cons pe_str (pa_cons pe_str pa_nil)))))))) pa_nil))))
      (pss_one (ps_ret (pe_op (x_catA (K := K) rfl) (pe_tup (pa_cons (pv 5) pa_nil)) (pe_slice (x_slT (K := K) rfl) (pv 1) (po_some pe_int) po_none))))) pss_nil)
      (pss_cons (ps_if (pt_cmpR (x_eq (K := K) rfl hr.units) (pv 4) pe_int (nomark _)) (pss_one (ps_ret (pe_tup (pa_cons pe_str pa_nil)))) pss_nil)
      (pss_one (ps_ret (pe_call C__law_entry_bent.ok (hr.mono (by (first | omega | (simp only [Nat.add_eq] at *; omega) | (simp only [Nat.add_eq]; omega)))) (by rfl) C__law_entry_bent.g C__law_entry_bent.kp C__law_entry_bent.b .nil passT (pa_cons (pv 0) (pa_cons (pv 1) (pa_cons (pv 2) (pa_cons (pv 3) pa_nil)))))))))))), def_run (N := N__law_deed_bent) (b := b__law_deed_bent)
    (sim_seq (by exact (sim_set (sim_call (sim_cons sim_var (sim_cons sim_int sim_nil)))))
      (sim_seq (by exact (sim_if (by exact (sim_test (sim_op so_eq sim_var sim_int))) (by exact (sim_ret (sim_op so_catA sim_var (sim_tup (sim_cons sim_int sim_nil))))) (by exact sim_next)))
      (sim_seq (by exact (sim_if (by exact (sim_and (sim_test (sim_op so_eq sim_var sim_int)) (sim_test (sim_op so_gt (sim_CB sb_len (sim_cons sim_var sim_nil)) sim_int)))) (by exact (sim_ret (sim_sl so_slT sim_var sim_noPart (sim_part (sim_un so_neg sim_int))))) (by exact sim_next)))
      (sim_seq (by exact (sim_if (by exact (sim_test (sim_op so_eq sim_var sim_int))) (by exact (sim_seq (by exact (sim_set (sim_call (sim_cons sim_var (sim_cons (sim_lst (sim_cons sim_str (sim_cons sim_str (sim_cons sim_str (sim_cons sim_str (sim_cons sim_str (sim_cons sim_str (sim_cons sim_str sim_nil)))))))) sim_nil)))))
      (sim_ret (sim_op so_catA (sim_tup (sim_cons sim_var sim_nil)) (sim_sl so_slT sim_var (sim_part sim_int) sim_noPart))))) (by exact sim_next)))
      (sim_seq (by exact (sim_if (by exact (sim_test (sim_op so_eq sim_var sim_int))) (by exact (sim_ret (sim_tup (sim_cons sim_str sim_nil)))) (by exact sim_next)))
      (sim_frz (sim_ret (sim_call (sim_cons sim_var (sim_cons sim_var (sim_cons sim_var (sim_cons sim_var sim_nil)))))))))))) h⟩
theorem ok__law_block_bent {f : Addr} {fd : FuncData} (F : Fun K "_law_block_bent" "_law_block_bent" s__law_block_bent f fd) {f__law_draw : Addr} {fd__law_draw : FuncData} (C__law_draw : Callee P w K mg base 1 f__law_draw fd__law_draw "_law_draw" ["pool", "many"] (spM (M.Env.mk K ca fa none) 2 m__law_draw)) {f__law_deed : Addr} {fd__law_deed : FuncData} (C__law_deed : Callee P w K mg base 5 f__law_deed fd__law_deed "_law_deed" ["pool", "box", "at", "last"] (spM (M.Env.mk K ca fa none) 4 m__law_deed)) {f__law_deed_bent : Addr} {fd__law_deed_bent : FuncData} (C__law_deed_bent : Callee P w K mg base 5 f__law_deed_bent fd__law_deed_bent "_law_deed_bent" ["pool", "deed", "box", "at"] (spM (M.Env.mk K ca fa none) 4 m__law_deed_bent)) (b_len : mg "len" = none) (b_list : mg "list" = none) (b_tuple : mg "tuple" = none) : FnOk P w K mg base CX0 6 f fd ["pool", "block", "box", "at"] (spM (M.Env.mk K ca fa none) 4 m__law_block_bent) := by
  refine FnOk.imp (F.ok sc__law_block_bent (sp_len (G := (M.Env.mk K ca fa none)) (m := m__law_block_bent) rfl) (fun cdv A outer s H vs Q E hr h => ?_)) (fun _ _ _ _ h => h)
  have hu := hu_of hr
  exact ⟨_, (pss_cons (ps_set (i := 4) sc__law_block_bent.nd rfl (.inl rfl) (pe_call C__law_draw.ok (hr.mono (by (first | omega | (simp only [Nat.add_eq] at *; omega) | (simp only [Nat.add_eq]; omega)))) (by rfl) C__law_draw.g C__law_draw.kp C__law_draw.b .nil passT (pa_cons (pv 0) (pa_cons pe_int pa_nil))))
      (pss_cons (ps_if (pt_cmpR (x_eq (K := K) rfl hr.units) (pv 4) pe_int (nomark _)) (pss_one (ps_ret (pe_tup pa_nil))) pss_nil)
      (pss_cons (ps_if (pt_cmpR (x_eq (K := K) rfl hr.units) (pv 4) pe_int (nomark _)) (pss_one (ps_ret (pe_slice (x_slT (K := K) rfl) (pv 1) po_none (po_some (pe_un un_neg pe_int))))) pss_nil)
      (pss_cons (ps_if (pt_cmpR (x_eq (K := K) rfl hr.units) (pv 4) pe_int (nomark _)) (pss_one (ps_ret (pe_op (x_catA (K := K) rfl) (pv 1) (pe_tup (pa_cons (pe_call C__law_deed.ok (hr.mono (by (first | omega | (simp only [Nat.add_eq] at *; omega) | (simp only [Nat.add_eq]; omega)))) (by rfl) C__law_deed.g C__law_deed.kp C__law_deed.b .nil passT (pa_cons (pv 0) (pa_cons (pv 2) (pa_cons (pv 3) (pa_cons pe_bl pa_nil))))) pa_nil))))) pss_nil)
      (pss_cons (ps_set (i := 5) sc__law_block_bent.nd rfl (.inl rfl) (pe_call C__law_draw.ok (hr.mono (by (first | omega | (simp only [Nat.add_eq] at *; omega) | (simp only [Nat.add_eq]; omega)))) (by rfl) C__law_draw.g C__law_draw.kp C__law_draw.b .nil passT (pa_cons (pv 0) (pa_cons (pe_callB (x_len (K := K) rfl) (by rfl) b_len (by decide +kernel) (pa_cons (pv 1) pa_nil)) pa_nil))))
      (pss_cons (ps_if (pt_cmpR (x_eq (K := K) rfl hr.units) (pv 4) pe_int (nomark _)) (pss_cons (ps_set (i := 6) sc__law_block_bent.nd rfl (.inl rfl) (pe_call C__law_deed.ok (hr.mono (by (first | omega | (simp only [Nat.add_eq] at *; omega) | (simp only [Nat.add_eq]; omega)))) (by rfl) C__law_deed.g C__law_deed.kp C__law_deed.b .nil passT (pa_cons (pv 0) (pa_cons (pv 2) (pa_cons (pv 3) (pa_cons pe_bl pa_nil))))))
      (pss_one (ps_ret (pe_op (x_catA (K := K) rfl) (pe_op (x_catA (K := K) rfl) (pe_slice (x_slT (K := K) rfl) (pv 1) po_none (po_some (pv 5))) (pe_tup (pa_cons (pv 6) pa_nil))) (pe_slice (x_slT (K := K) rfl) (pv 1) (po_some (pv 5)) po_none))))) pss_nil)
      (pss_cons (ps_set (i := 7) sc__law_block_bent.nd rfl (.inl rfl) (pe_callTy (x_list (K := K) rfl) (by rfl) b_list (by decide +kernel) (pa_cons (pv 1) pa_nil)))
      (pss_cons (ps_asg (pe_call C__law_deed_bent.ok (hr.mono (by (first | omega | (simp only [Nat.add_eq] at *; omega) | (simp only [Nat.add_eq]; omega)))) (by rfl) C__law_deed_bent.g C__law_deed_bent.kp C__law_deed_bent.b .nil passT (pa_cons (pv 0) (pa_cons (pe_ix (x_ix (K := K) rfl) (pv 1) (pv 5) (fun _ _ => rfl)) (pa_cons (pv 2) (pa_cons (pv 3) pa_nil))))) (pg_sub (pv 7) (pv 5) set_list))
      (pss_cons (ps_set (i := 8) sc__law_block_bent.nd rfl (.inl rfl) (pe_call C__law_draw.ok (hr.mono (by (first | omega | (simp only [Nat.add_eq] at *; omega) | (simp only [Nat.add_eq]; omega)))) (by rfl) C__law_draw.g C__law_draw.kp C__law_draw.b .nil passT (pa_cons (pv 0) (pa_cons (pe_callB (x_len (K := K) rfl) (by rfl) b_len (by decide +kernel) (pa_cons (pv 1) pa_nil)) pa_nil))))
      (pss_cons (ps_if (PW.pt (pw_and (pt_cmpR (x_eq (K := K) rfl hr.units) (pv 4) pe_int (nomark _)) (pw_and1 (pt_cmpR (x_ne (K := K) rfl hr.units) (pv 8) (pv 5) (nomark _))))) (pss_one (ps_asg (pe_call C__law_deed_bent.ok (hr.mono (by (first | omega | (simp only [Nat.add_eq] at *; omega) | (simp only [Nat.add_eq]; omega)))) (by rfl) C__law_deed_bent.g C__law_deed_bent.kp C__law_deed_bent.b .nil passT (pa_cons (pv 0) (pa_cons (pe_ix (x_ix (K := K) rfl) (pv 1) (pv 8) (fun _ _ => rfl)) (pa_cons (pv 2) (pa_cons (pv 3) pa_nil))))) (pg_sub (pv 7) (pv 8) set_list))) pss_nil)
      (pss_one (ps_ret (pe_callTy (x_tuple (K := K) rfl) (by rfl) b_tuple (by decide +kernel) (pa_cons (pv 7) pa_nil)))))))))))))), def_run (N := N__law_block_bent) (b := b__law_block_bent)
    (sim_seq (by exact (sim_set (sim_call (sim_cons sim_var (sim_cons sim_int sim_nil)))))
      (sim_seq (by exact (sim_if (by exact (sim_test (sim_op so_eq sim_var sim_int))) (by exact (sim_ret (sim_tup sim_nil))) (by exact sim_next)))
      (sim_seq (by exact (sim_if (by exact (sim_test (sim_op so_eq sim_var sim_int))) (by exact (sim_ret (sim_sl so_slT sim_var sim_noPart (sim_part (sim_un so_neg sim_int))))) (by exact sim_next)))
      (sim_seq (by exact (sim_if (by exact (sim_test (sim_op so_eq sim_var sim_int))) (by exact (sim_frz (sim_ret (sim_op so_catA sim_var (sim_tup (sim_cons (sim_call (sim_cons sim_var (sim_cons sim_var (sim_cons sim_var (sim_cons sim_bl sim_nil))))) sim_nil)))))) (by exact sim_next)))
      (sim_seq (by exact (sim_set (sim_call (sim_cons sim_var (sim_cons (sim_CB sb_len (sim_cons sim_var sim_nil)) sim_nil)))))
      (sim_seq (by exact (sim_if (by exact (sim_test (sim_op so_eq sim_var sim_int))) (by exact (sim_seq (by exact (sim_frz (sim_set (sim_call (sim_cons sim_var (sim_cons sim_var (sim_cons sim_var (sim_cons sim_bl sim_nil))))))))
      (sim_ret (sim_op so_catA (sim_op so_catA (sim_sl so_slT sim_var sim_noPart (sim_part sim_var)) (sim_tup (sim_cons sim_var sim_nil))) (sim_sl so_slT sim_var (sim_part sim_var) sim_noPart))))) (by exact sim_next)))
      (sim_seq (by exact (sim_set (sim_CB sb_listO (sim_cons sim_var sim_nil))))
      (sim_seq (by exact (sim_frz (sim_setIx (sim_call (sim_cons sim_var (sim_cons (sim_op so_ix sim_var sim_var) (sim_cons sim_var (sim_cons sim_var sim_nil))))) sim_var sim_var)))
      (sim_seq (by exact (sim_set (sim_call (sim_cons sim_var (sim_cons (sim_CB sb_len (sim_cons sim_var sim_nil)) sim_nil)))))
      (sim_seq (by exact (sim_if (by exact (sim_and (sim_test (sim_op so_eq sim_var sim_int)) (sim_test (sim_op so_ne sim_var sim_var)))) (by exact (sim_setIx (sim_call (sim_cons sim_var (sim_cons (sim_op so_ix sim_var sim_var) (sim_cons sim_var (sim_cons sim_var sim_nil))))) sim_var sim_var)) (by exact sim_next)))
      (sim_frz (sim_ret (sim_CB sb_tuple (sim_cons sim_var sim_nil)))))))))))))) h⟩
theorem ok__law_heads_bent {f : Addr} {fd : FuncData} (F : Fun K "_law_heads_bent" "_law_heads_bent" s__law_heads_bent f fd) {f__law_pick : Addr} {fd__law_pick : FuncData} (C__law_pick : Callee P w K mg base 2 f__law_pick fd__law_pick "_law_pick" ["pool", "things"] (spM (M.Env.mk K ca fa none) 2 m__law_pick)) {f__law_draw : Addr} {fd__law_draw : FuncData} (C__law_draw : Callee P w K mg base 1 f__law_draw fd__law_draw "_law_draw" ["pool", "many"] (spM (M.Env.mk K ca fa none) 2 m__law_draw)) (b_list : mg "list" = none) (b_len : mg "len" = none) : FnOk P w K mg base CX0 3 f fd ["pool", "heads", "wide"] (spM (M.Env.mk K ca fa none) 3 m__law_heads_bent) := by
  refine FnOk.imp (F.ok sc__law_heads_bent (sp_len (G := (M.Env.mk K ca fa none)) (m := m__law_heads_bent) rfl) (fun cdv A outer s H vs Q E hr h => ?_)) (fun _ _ _ _ h => h)
  have hu := hu_of hr
  exact ⟨_, (pss_cons (ps_set (i := 3) sc__law_heads_bent.nd rfl (.inl rfl) (pe_call C__law_pick.ok (hr.mono (by (first | omega | (simp only [Nat.add_eq] at *; omega) | (simp only [Nat.add_eq]; omega)))) (by rfl) C__law_pick.g C__law_pick.kp C__law_pick.b .nil passT (pa_cons (pv 0) (pa_cons (pe_op op_cat (pe_lst (pa_cons (pv 2) (pa_cons (pe_un un_neg pe_int) (pa_cons (pe_op op_add (pv 2) pe_int) (pa_cons pe_int pa_nil))))) (pe_callTy (x_list (K := K) rfl) (by rfl) b_list (by decide +kernel) (pa_cons (pv 1) pa_nil))) pa_nil))))
      (pss_cons (ps_set (i := 4) sc__law_heads_bent.nd rfl (.inl rfl) (pe_call C__law_draw.ok (hr.mono (by (first | omega | (simp only [Nat.add_eq] at *; omega) | (simp only [Nat.add_eq]; omega)))) (by rfl) C__law_draw.g C__law_draw.kp C__law_draw.b .nil passT (pa_cons (pv 0) (pa_cons (pe_op op_add (pe_callB (x_len (K := K) rfl) (by rfl) b_len (by decide +kernel) (pa_cons (pv 1) pa_nil)) pe_int) pa_nil))))
      (pss_cons (ps_if (pt_cmpR op_lt (pe_callB (x_len (K := K) rfl) (by rfl) b_len (by decide +kernel) (pa_cons (pv 1) pa_nil)) pe_int (nomark _)) (pss_one (ps_ret (pe_op (x_catA (K := K) rfl) (pe_op (x_catA (K := K) rfl) (pe_slice (x_slT (K := K) rfl) (pv 1) po_none (po_some (pv 4))) (pe_tup (pa_cons (pv 3) pa_nil))) (pe_slice (x_slT (K := K) rfl) (pv 1) (po_some (pv 4)) po_none)))) pss_nil)
      (pss_one (ps_ret (pe_op (x_catA (K := K) rfl) (pe_slice (x_slT (K := K) rfl) (pv 1) po_none (po_some pe_int)) (pe_tup (pa_cons (pv 3) pa_nil)))))))), def_run (N := N__law_heads_bent) (b := b__law_heads_bent)
    (sim_seq (by exact (sim_set (sim_call (sim_cons sim_var (sim_cons (sim_op so_cat (sim_lst (sim_cons sim_var (sim_cons (sim_un so_neg sim_int) (sim_cons (sim_op so_add sim_var sim_int) (sim_cons sim_int sim_nil))))) (sim_CB sb_list (sim_cons sim_var sim_nil))) sim_nil)))))
      (sim_seq (by exact (sim_set (sim_call (sim_cons sim_var (sim_cons (sim_op so_add (sim_CB sb_len (sim_cons sim_var sim_nil)) sim_int) sim_nil)))))
      (sim_seq (by exact (sim_if (by exact (sim_test (sim_op so_lt (sim_CB sb_len (sim_cons sim_var sim_nil)) sim_int))) (by exact (sim_ret (sim_op so_catA (sim_op so_catA (sim_sl so_slT sim_var sim_noPart (sim_part sim_var)) (sim_tup (sim_cons sim_var sim_nil))) (sim_sl so_slT sim_var (sim_part sim_var) sim_noPart)))) (by exact sim_next)))
      (sim_ret (sim_op so_catA (sim_sl so_slT sim_var sim_noPart (sim_part sim_int)) (sim_tup (sim_cons sim_var sim_nil))))))) h⟩
theorem ok_law {f : Addr} {fd : FuncData} (F : Fun K "law" "law" s_law f fd) (nonfa : ∀ a, fa a ≠ .non) {f__law_pool : Addr} {fd__law_pool : FuncData} (C__law_pool : Callee P w K mg base 1 f__law_pool fd__law_pool "_law_pool" ["script"] (spM (M.Env.mk K ca fa none) 1 m__law_pool)) {f__law_pick : Addr} {fd__law_pick : FuncData} (C__law_pick : Callee P w K mg base 2 f__law_pick fd__law_pick "_law_pick" ["pool", "things"] (spM (M.Env.mk K ca fa none) 2 m__law_pick)) {f__law_draw : Addr} {fd__law_draw : FuncData} (C__law_draw : Callee P w K mg base 1 f__law_draw fd__law_draw "_law_draw" ["pool", "many"] (spM (M.Env.mk K ca fa none) 2 m__law_draw)) {f__law_table : Addr} {fd__law_table : FuncData} (C__law_table : Callee P w K mg base 1 f__law_table fd__law_table "_law_table" [] (spM (M.Env.mk K ca fa none) 0 m__law_table)) {f__law_heads : Addr} {fd__law_heads : FuncData} (C__law_heads : Callee P w K mg base 2 f__law_heads fd__law_heads "_law_heads" ["pool", "wide"] (spM (M.Env.mk K ca fa none) 2 m__law_heads)) {f__law_grid : Addr} {fd__law_grid : FuncData} (C__law_grid : Callee P w K mg base 6 f__law_grid fd__law_grid "_law_grid" ["pool", "box"] (spM (M.Env.mk K ca fa none) 2 m__law_grid)) {f__law_fault : Addr} {fd__law_fault : FuncData} (C__law_fault : Callee P w K mg base 45 f__law_fault fd__law_fault "_law_fault" ["heads", "wide", "rows", "grid"] (spM (M.Env.mk K ca fa none) 4 m__law_fault)) {f__law_tried : Addr} {fd__law_tried : FuncData} (C__law_tried : Callee P w K mg base 42 f__law_tried fd__law_tried "_law_tried" ["heads", "wide", "rows", "grid"] (spM (M.Env.mk K ca fa none) 4 m__law_tried)) {f__law_block_bent : Addr} {fd__law_block_bent : FuncData} (C__law_block_bent : Callee P w K mg base 6 f__law_block_bent fd__law_block_bent "_law_block_bent" ["pool", "block", "box", "at"] (spM (M.Env.mk K ca fa none) 4 m__law_block_bent)) {f__law_heads_bent : Addr} {fd__law_heads_bent : FuncData} (C__law_heads_bent : Callee P w K mg base 3 f__law_heads_bent fd__law_heads_bent "_law_heads_bent" ["pool", "heads", "wide"] (spM (M.Env.mk K ca fa none) 3 m__law_heads_bent)) {f__law_same : Addr} {fd__law_same : FuncData} (C__law_same : Callee P w K mg base 41 f__law_same fd__law_same "_law_same" ["actual", "due"] (spM (M.Env.mk K ca fa none) 2 m__law_same)) (b_len : mg "len" = none) (b_range : mg "range" = none) : FnOk P w K mg base CX0 46 f fd ["script"] (spM (M.Env.mk K ca fa none) 1 m_law) := by
  refine FnOk.imp (F.ok sc_law (sp_len (G := (M.Env.mk K ca fa none)) (m := m_law) rfl) (fun cdv A outer s H vs Q E hr h => ?_)) (fun _ _ _ _ h => h)
  have hu := hu_of hr
  exact ⟨_, (pss_cons (ps_set (i := 1) sc_law.nd rfl (.inl rfl) (pe_call C__law_pool.ok (hr.mono (by (first | omega | (simp only [Nat.add_eq] at *; omega) | (simp only [Nat.add_eq]; omega)))) (by rfl) C__law_pool.g C__law_pool.kp C__law_pool.b .nil passT (pa_cons (pv 0) pa_nil)))
      (pss_cons (ps_set (i := 2) sc_law.nd rfl (.inl rfl) (pe_call C__law_pick.ok (hr.mono (by (first | omega | (simp only [Nat.add_eq] at *; omega) | (simp only [Nat.add_eq]; omega)))) (by rfl) C__law_pick.g C__law_pick.kp C__law_pick.b .nil passT (pa_cons (pv 1) (pa_cons (pe_lst (pa_cons pe_int (pa_cons pe_int (pa_cons pe_int (pa_cons pe_int (pa_cons pe_int (pa_cons pe_int (pa_cons pe_int (pa_cons pe_int pa_nil))))))))) pa_nil))))
      (pss_cons (ps_set (i := 3) sc_law.nd rfl (.inl rfl) (pe_call C__law_pick.ok (hr.mono (by (first | omega | (simp only [Nat.add_eq] at *; omega) | (simp only [Nat.add_eq]; omega)))) (by rfl) C__law_pick.g C__law_pick.kp C__law_pick.b .nil passT (pa_cons (pv 1) (pa_cons (pe_lst (pa_cons (pe_tup (pa_cons pe_int pa_nil)) (pa_cons (pe_tup pa_nil) (pa_cons (pe_tup (pa_cons pe_int (pa_cons pe_int pa_nil))) (pa_cons (pe_tup (pa_cons pe_int (pa_cons pe_int (pa_cons pe_int pa_nil)))) (pa_cons (pe_op (x_repT (K := K) rfl) (pe_tup (pa_cons pe_int pa_nil)) pe_int) pa_nil)))))) pa_nil))))
      (pss_cons (ps_set (i := 4) sc_law.nd rfl (.inl rfl) (pe_ifExp (pt_cmpR (x_eq (K := K) rfl hr.units) (pe_call C__law_draw.ok (hr.mono (by (first | omega | (simp only [Nat.add_eq] at *; omega) | (simp only [Nat.add_eq]; omega)))) (by rfl) C__law_draw.g C__law_draw.kp C__law_draw.b .nil passT (pa_cons (pv 1) (pa_cons pe_int pa_nil))) pe_int (nomark _)) pe_int (pe_op op_add pe_int (pe_call C__law_draw.ok (hr.mono (by (first | omega | (simp only [Nat.add_eq] at *; omega) | (simp only [Nat.add_eq]; omega)))) (by rfl) C__law_draw.g C__law_draw.kp C__law_draw.b .nil passT (pa_cons (pv 1) (pa_cons pe_int pa_nil))))))
      (pss_cons (ps_set (i := 5) sc_law.nd rfl (.inl rfl) (pe_disp (pps_cons pe_str (pv 2) (pps_cons pe_str (pe_callB (x_len (K := K) rfl) (by rfl) b_len (by decide +kernel) (pa_cons (pv 3) pa_nil)) (pps_cons pe_str (pv 4) pps_nil))) (by rfl) (by rfl) (fun z => by cases z) (by decide)))
      (pss_cons (ps_dput hu (pv 5) pe_str (pe_call0 C__law_table.ok (hr.mono (by (first | omega | (simp only [Nat.add_eq] at *; omega) | (simp only [Nat.add_eq]; omega)))) (by rfl) C__law_table.g C__law_table.kp C__law_table.b .nil passT) rfl)
      (pss_cons (ps_set (i := 6) sc_law.nd rfl (.inl rfl) (pe_call C__law_heads.ok (hr.mono (by (first | omega | (simp only [Nat.add_eq] at *; omega) | (simp only [Nat.add_eq]; omega)))) (by rfl) C__law_heads.g C__law_heads.kp C__law_heads.b .nil passT (pa_cons (pv 1) (pa_cons (pv 2) pa_nil))))
      (pss_cons (ps_set (i := 7) sc_law.nd rfl (.inl rfl) (pe_call C__law_grid.ok (hr.mono (by (first | omega | (simp only [Nat.add_eq] at *; omega) | (simp only [Nat.add_eq]; omega)))) (by rfl) C__law_grid.g C__law_grid.kp C__law_grid.b .nil passT (pa_cons (pv 1) (pa_cons (pv 5) pa_nil))))
      (pss_cons (ps_if (pt_cmp (pc_notN (pe_call C__law_fault.ok (hr.mono (by (first | omega | (simp only [Nat.add_eq] at *; omega) | (simp only [Nat.add_eq]; omega)))) (by rfl) C__law_fault.g C__law_fault.kp C__law_fault.b .nil passT (pa_cons (pv 6) (pa_cons (pv 2) (pa_cons (pv 3) (pa_cons (pv 7) pa_nil))))))) (pss_one (ps_ret pe_bl)) pss_nil)
      (pss_cons (ps_if (pt_cmp (pc_notN (pe_call C__law_tried.ok (hr.mono (by (first | omega | (simp only [Nat.add_eq] at *; omega) | (simp only [Nat.add_eq]; omega)))) (by rfl) C__law_tried.g C__law_tried.kp C__law_tried.b .nil passT (pa_cons (pv 6) (pa_cons (pv 2) (pa_cons (pv 3) (pa_cons (pv 7) pa_nil))))))) (pss_one (ps_ret pe_bl)) pss_nil)
      (pss_cons (ps_set (i := 8) sc_law.nd rfl (.inl rfl) pe_dnewK)
      (pss_cons (ps_for PassesOwn.never rfl (pi_range1 (by rfl) b_range (pa_cons (pe_call C__law_draw.ok (hr.mono (by (first | omega | (simp only [Nat.add_eq] at *; omega) | (simp only [Nat.add_eq]; omega)))) (by rfl) C__law_draw.g C__law_draw.kp C__law_draw.b .nil passT (pa_cons (pv 1) (pa_cons pe_int pa_nil))) pa_nil)) (pg_name (i := 9) sc_law.nd rfl (.inl rfl)) (pss_cons (ps_set (i := 10) sc_law.nd rfl (.inl rfl) (pe_call C__law_draw.ok (hr.mono (by (first | omega | (simp only [Nat.add_eq] at *; omega) | (simp only [Nat.add_eq]; omega)))) (by rfl) C__law_draw.g C__law_draw.kp C__law_draw.b .nil passT (pa_cons (pv 1) (pa_cons (pv 4) pa_nil))))
      (pss_cons (ps_if (pt_cmp (pc_dnotin hu (pv 10) (pv 8))) (pss_one (ps_asg (pe_call C__law_block_bent.ok (hr.mono (by (first | omega | (simp only [Nat.add_eq] at *; omega) | (simp only [Nat.add_eq]; omega)))) (by rfl) C__law_block_bent.g C__law_block_bent.kp C__law_block_bent.b .nil passT (pa_cons (pv 1) (pa_cons (pe_ix (x_ix (K := K) rfl) (pv 7) (pv 10) (fun _ _ => rfl)) (pa_cons (pv 5) (pa_cons (pv 10) pa_nil))))) (pg_sub (pv 7) (pv 10) set_list))) pss_nil)
      (pss_one (ps_dput hu (pv 8) (pv 10) pe_bl rfl)))))
      (pss_cons (ps_if (pt_cmpR (x_eq (K := K) rfl hr.units) (pe_call C__law_draw.ok (hr.mono (by (first | omega | (simp only [Nat.add_eq] at *; omega) | (simp only [Nat.add_eq]; omega)))) (by rfl) C__law_draw.g C__law_draw.kp C__law_draw.b .nil passT (pa_cons (pv 1) (pa_cons pe_int pa_nil))) pe_int (nomark _)) (pss_one (ps_set (i := 6) sc_law.nd rfl (.inl rfl) (pe_call C__law_heads_bent.ok (hr.mono (by (first | omega | (simp only [Nat.add_eq] at *; omega) | (simp only [Nat.add_eq]; omega)))) (by rfl) C__law_heads_bent.g C__law_heads_bent.kp C__law_heads_bent.b .nil passT (pa_cons (pv 1) (pa_cons (pv 6) (pa_cons (pv 2) pa_nil)))))) pss_nil)
      (pss_cons (ps_if (pt_cmpR (x_eq (K := K) rfl hr.units) (pe_call C__law_draw.ok (hr.mono (by (first | omega | (simp only [Nat.add_eq] at *; omega) | (simp only [Nat.add_eq]; omega)))) (by rfl) C__law_draw.g C__law_draw.kp C__law_draw.b .nil passT (pa_cons (pv 1) (pa_cons pe_int pa_nil))) pe_int (nomark _)) (pss_one (ps_set (i := 7) sc_law.nd rfl (.inl rfl) (pe_lst pa_nil))) pss_nil)
      (pss_cons (ps_set (i := 11) sc_law.nd rfl (.inl rfl) (pe_call C__law_fault.ok (hr.mono (by (first | omega | (simp only [Nat.add_eq] at *; omega) | (simp only [Nat.add_eq]; omega)))) (by rfl) C__law_fault.g C__law_fault.kp C__law_fault.b .nil passT (pa_cons (pv 6) (pa_cons (pv 2) (pa_cons (pv 3) (pa_cons (pv 7) pa_nil))))))
      (pss_one (ps_ret (pe_call C__law_same.ok (hr.mono (by (first | omega | (simp only [Nat.add_eq] at *; omega) | (simp only [Nat.add_eq]; omega)))) (by rfl) C__law_same.g C__law_same.kp C__law_same.b .nil passT (pa_cons (pe_call C__law_tried.ok (hr.mono (by (first | omega | (simp only [Nat.add_eq] at *; omega) | (simp only [Nat.add_eq]; omega)))) (by rfl) C__law_tried.g C__law_tried.kp C__law_tried.b .nil passT (pa_cons (pv 6) (pa_cons (pv 2) (pa_cons (pv 3) (pa_cons (pv 7) pa_nil))))) (pa_cons (pv 11) pa_nil)))))))))))))))))))), def_run (N := N_law) (b := b_law)
    (sim_seq (by exact (sim_set (sim_call (sim_cons sim_var sim_nil))))
      (sim_seq (by exact (sim_set (sim_call (sim_cons sim_var (sim_cons (sim_lst (sim_cons sim_int (sim_cons sim_int (sim_cons sim_int (sim_cons sim_int (sim_cons sim_int (sim_cons sim_int (sim_cons sim_int (sim_cons sim_int sim_nil))))))))) sim_nil)))))
      (sim_seq (by exact (sim_set (sim_call (sim_cons sim_var (sim_cons (sim_lst (sim_cons (sim_tup (sim_cons sim_int sim_nil)) (sim_cons (sim_tup sim_nil) (sim_cons (sim_tup (sim_cons sim_int (sim_cons sim_int sim_nil))) (sim_cons (sim_tup (sim_cons sim_int (sim_cons sim_int (sim_cons sim_int sim_nil)))) (sim_cons (sim_op so_repT (sim_tup (sim_cons sim_int sim_nil)) sim_int) sim_nil)))))) sim_nil)))))
      (sim_seq (by exact (sim_set (sim_ifE (sim_test (sim_op so_eq (sim_call (sim_cons sim_var (sim_cons sim_int sim_nil))) sim_int)) sim_int (sim_op so_add sim_int (sim_call (sim_cons sim_var (sim_cons sim_int sim_nil)))))))
      (sim_seq (by exact (sim_set (sim_dispO (.cons sim_str sim_var (.cons sim_str (sim_CB sb_len (sim_cons sim_var sim_nil)) (.cons sim_str sim_var .nil))))))
      (sim_seq (by exact (sim_dput (sim_call sim_nil) sim_var sim_str))
      (sim_seq (by exact (sim_set (sim_call (sim_cons sim_var (sim_cons sim_var sim_nil)))))
      (sim_seq (by exact (sim_frz (sim_set (sim_call (sim_cons sim_var (sim_cons sim_var sim_nil))))))
      (sim_seq (by exact (sim_if (by exact (sim_B (sim_notN nonfa (sim_call (sim_cons sim_var (sim_cons sim_var (sim_cons sim_var (sim_cons sim_var sim_nil)))))))) (by exact (sim_ret sim_bl)) (by exact sim_next)))
      (sim_seq (by exact (sim_if (by exact (sim_B (sim_notN nonfa (sim_call (sim_cons sim_var (sim_cons sim_var (sim_cons sim_var (sim_cons sim_var sim_nil)))))))) (by exact (sim_ret sim_bl)) (by exact sim_next)))
      (sim_seq (by exact (sim_set sim_dnew))
      (sim_seq (by exact (sim_for (by exact (sim_rng1 (sim_cons (sim_call (sim_cons sim_var (sim_cons sim_int sim_nil))) sim_nil))) sim_gName (by exact (sim_seq (by exact (sim_set (sim_call (sim_cons sim_var (sim_cons sim_var sim_nil)))))
      (sim_seq (by exact (sim_if (by exact (sim_B (sim_dnin sim_var sim_var))) (by exact (sim_setIx (sim_call (sim_cons sim_var (sim_cons (sim_op so_ix sim_var sim_var) (sim_cons sim_var (sim_cons sim_var sim_nil))))) sim_var sim_var)) (by exact sim_next)))
      (sim_dput sim_bl sim_var sim_var))))))
      (sim_seq (by exact (sim_if (by exact (sim_test (sim_op so_eq (sim_call (sim_cons sim_var (sim_cons sim_int sim_nil))) sim_int))) (by exact (sim_set (sim_call (sim_cons sim_var (sim_cons sim_var (sim_cons sim_var sim_nil)))))) (by exact sim_next)))
      (sim_seq (by exact (sim_if (by exact (sim_test (sim_op so_eq (sim_call (sim_cons sim_var (sim_cons sim_int sim_nil))) sim_int))) (by exact (sim_set (sim_lst sim_nil))) (by exact sim_next)))
      (sim_seq (by exact (sim_frz (sim_set (sim_call (sim_cons sim_var (sim_cons sim_var (sim_cons sim_var (sim_cons sim_var sim_nil))))))))
      (sim_ret (sim_call (sim_cons (sim_call (sim_cons sim_var (sim_cons sim_var (sim_cons sim_var (sim_cons sim_var sim_nil))))) (sim_cons sim_var sim_nil))))))))))))))))))) h⟩
end
theorem all_mk {l : PySem.W.OpenLaw} {w : World} {K : PySem.W.Frag} {h : Heap} {mg : Str → Option Value} {fa0 f0 f1 f2 f3 f4 f5 f6 f7 f8 f9 f10 f11 f12 f13 f14 f15 f16 f17 f18 f19 f20 f21 f22 f23 f24 f25 f26 f27 f28 f29 f30 f31 f32 f33 f34 f35 f36 f37 f38 f39 f40 f41 f42 f43 f44 f45 : Addr} (X : K.In h) (G : h.Ns mainGlobals mg) (hfa : mg "law" = some (.ref fa0))
    {od0 an0 od1 an1 od2 an2 od3 an3 od4 an4 od5 an5 od6 an6 od7 an7 od8 an8 od9 an9 od10 an10 od11 an11 od12 an12 od13 an13 od14 an14 od15 an15 od16 an16 od17 an17 od18 an18 od19 an19 od20 an20 od21 an21 od22 an22 od23 an23 od24 an24 od25 an25 od26 an26 od27 an27 od28 an28 od29 an29 od30 an30 od31 an31 od32 an32 od33 an33 od34 an34 od35 an35 od36 an36 od37 an37 od38 an38 od39 an39 od40 an40 od41 an41 od42 an42 od43 an43 od44 an44 od45 an45 : Option Addr} {sl0 sl1 sl2 sl3 sl4 sl5 sl6 sl7 sl8 sl9 sl10 sl11 sl12 sl13 sl14 sl15 sl16 sl17 sl18 sl19 sl20 sl21 sl22 sl23 sl24 sl25 sl26 sl27 sl28 sl29 sl30 sl31 sl32 sl33 sl34 sl35 sl36 sl37 sl38 sl39 sl40 sl41 sl42 sl43 sl44 sl45 : Array (Option Value)} {oc0 kV0 dc0 pm0 cd0 ct0 oc1 kV1 dc1 pm1 cd1 ct1 oc2 kV2 dc2 pm2 cd2 ct2 oc3 kV3 dc3 pm3 cd3 ct3 oc4 kV4 dc4 pm4 cd4 ct4 oc5 kV5 dc5 pm5 cd5 ct5 oc6 kV6 dc6 pm6 cd6 ct6 oc7 kV7 dc7 pm7 cd7 ct7 oc8 kV8 dc8 pm8 cd8 ct8 oc9 kV9 dc9 pm9 cd9 ct9 oc10 kV10 dc10 pm10 cd10 ct10 oc11 kV11 dc11 pm11 cd11 ct11 oc12 kV12 dc12 pm12 cd12 ct12 oc13 kV13 dc13 pm13 cd13 ct13 oc14 kV14 dc14 pm14 cd14 ct14 oc15 kV15 dc15 pm15 cd15 ct15 oc16 kV16 dc16 pm16 cd16 ct16 oc17 kV17 dc17 pm17 cd17 ct17 oc18 kV18 dc18 pm18 cd18 ct18 oc19 kV19 dc19 pm19 cd19 ct19 oc20 kV20 dc20 pm20 cd20 ct20 oc21 kV21 dc21 pm21 cd21 ct21 oc22 kV22 dc22 pm22 cd22 ct22 oc23 kV23 dc23 pm23 cd23 ct23 oc24 kV24 dc24 pm24 cd24 ct24 oc25 kV25 dc25 pm25 cd25 ct25 oc26 kV26 dc26 pm26 cd26 ct26 oc27 kV27 dc27 pm27 cd27 ct27 oc28 kV28 dc28 pm28 cd28 ct28 oc29 kV29 dc29 pm29 cd29 ct29 oc30 kV30 dc30 pm30 cd30 ct30 oc31 kV31 dc31 pm31 cd31 ct31 oc32 kV32 dc32 pm32 cd32 ct32 oc33 kV33 dc33 pm33 cd33 ct33 oc34 kV34 dc34 pm34 cd34 ct34 oc35 kV35 dc35 pm35 cd35 ct35 oc36 kV36 dc36 pm36 cd36 ct36 oc37 kV37 dc37 pm37 cd37 ct37 oc38 kV38 dc38 pm38 cd38 ct38 oc39 kV39 dc39 pm39 cd39 ct39 oc40 kV40 dc40 pm40 cd40 ct40 oc41 kV41 dc41 pm41 cd41 ct41 oc42 kV42 dc42 pm42 cd42 ct42 oc43 kV43 dc43 pm43 cd43 ct43 oc44 kV44 dc44 pm44 cd44 ct44 oc45 kV45 dc45 pm45 cd45 ct45 : Value}
    {C_BadFlow : Addr} (zc_BadFlow : PySem.W.nsIn K mainGlobals "BadFlow" = some (some (.ref C_BadFlow)))
    {C_RunsError : Addr} (zc_RunsError : PySem.W.nsIn K mainGlobals "RunsError" = some (some (.ref C_RunsError)))
    {C_Flow : Addr} (zc_Flow : PySem.W.nsIn K mainGlobals "Flow" = some (some (.ref C_Flow)))
    {C_BadSpot : Addr} (zc_BadSpot : PySem.W.nsIn K mainGlobals "BadSpot" = some (some (.ref C_BadSpot)))
    {C_BadSite : Addr} (zc_BadSite : PySem.W.nsIn K mainGlobals "BadSite" = some (some (.ref C_BadSite)))
    {C_BadRow : Addr} (zc_BadRow : PySem.W.nsIn K mainGlobals "BadRow" = some (some (.ref C_BadRow)))
    {C_BadLine : Addr} (zc_BadLine : PySem.W.nsIn K mainGlobals "BadLine" = some (some (.ref C_BadLine)))
    (a0 : PySem.W.nsIn K mainGlobals "_law_pool" = some (some (.ref f0))) (l0 : K.lookup f0 = some ⟨oc0, od0, .func (PySem.W.fnOf "_law_pool" "_law_pool" (defArgs s__law_pool) (defBody s__law_pool) (defScope s__law_pool) .none kV0 dc0 pm0 an0 cd0 ct0), sl0⟩) (c0 : PySem.W.codeIn K cd0 "_law_pool" = true) (k0 : PySem.W.keepIn K (.ref f0) = true)
    (a1 : PySem.W.nsIn K mainGlobals "_law_draw" = some (some (.ref f1))) (l1 : K.lookup f1 = some ⟨oc1, od1, .func (PySem.W.fnOf "_law_draw" "_law_draw" (defArgs s__law_draw) (defBody s__law_draw) (defScope s__law_draw) .none kV1 dc1 pm1 an1 cd1 ct1), sl1⟩) (c1 : PySem.W.codeIn K cd1 "_law_draw" = true) (k1 : PySem.W.keepIn K (.ref f1) = true)
    (a2 : PySem.W.nsIn K mainGlobals "_law_pick" = some (some (.ref f2))) (l2 : K.lookup f2 = some ⟨oc2, od2, .func (PySem.W.fnOf "_law_pick" "_law_pick" (defArgs s__law_pick) (defBody s__law_pick) (defScope s__law_pick) .none kV2 dc2 pm2 an2 cd2 ct2), sl2⟩) (c2 : PySem.W.codeIn K cd2 "_law_pick" = true) (k2 : PySem.W.keepIn K (.ref f2) = true)
    (a3 : PySem.W.nsIn K mainGlobals "_law_table" = some (some (.ref f3))) (l3 : K.lookup f3 = some ⟨oc3, od3, .func (PySem.W.fnOf "_law_table" "_law_table" (defArgs s__law_table) (defBody s__law_table) (defScope s__law_table) .none kV3 dc3 pm3 an3 cd3 ct3), sl3⟩) (c3 : PySem.W.codeIn K cd3 "_law_table" = true) (k3 : PySem.W.keepIn K (.ref f3) = true)
    (a4 : PySem.W.nsIn K mainGlobals "_law_heads" = some (some (.ref f4))) (l4 : K.lookup f4 = some ⟨oc4, od4, .func (PySem.W.fnOf "_law_heads" "_law_heads" (defArgs s__law_heads) (defBody s__law_heads) (defScope s__law_heads) .none kV4 dc4 pm4 an4 cd4 ct4), sl4⟩) (c4 : PySem.W.codeIn K cd4 "_law_heads" = true) (k4 : PySem.W.keepIn K (.ref f4) = true)
    (a5 : PySem.W.nsIn K mainGlobals "_law_last_kind" = some (some (.ref f5))) (l5 : K.lookup f5 = some ⟨oc5, od5, .func (PySem.W.fnOf "_law_last_kind" "_law_last_kind" (defArgs s__law_last_kind) (defBody s__law_last_kind) (defScope s__law_last_kind) .none kV5 dc5 pm5 an5 cd5 ct5), sl5⟩) (c5 : PySem.W.codeIn K cd5 "_law_last_kind" = true) (k5 : PySem.W.keepIn K (.ref f5) = true)
    (a6 : PySem.W.nsIn K mainGlobals "_law_kind" = some (some (.ref f6))) (l6 : K.lookup f6 = some ⟨oc6, od6, .func (PySem.W.fnOf "_law_kind" "_law_kind" (defArgs s__law_kind) (defBody s__law_kind) (defScope s__law_kind) .none kV6 dc6 pm6 an6 cd6 ct6), sl6⟩) (c6 : PySem.W.codeIn K cd6 "_law_kind" = true) (k6 : PySem.W.keepIn K (.ref f6) = true)
    (a7 : PySem.W.nsIn K mainGlobals "_law_some" = some (some (.ref f7))) (l7 : K.lookup f7 = some ⟨oc7, od7, .func (PySem.W.fnOf "_law_some" "_law_some" (defArgs s__law_some) (defBody s__law_some) (defScope s__law_some) .none kV7 dc7 pm7 an7 cd7 ct7), sl7⟩) (c7 : PySem.W.codeIn K cd7 "_law_some" = true) (k7 : PySem.W.keepIn K (.ref f7) = true)
    (a8 : PySem.W.nsIn K mainGlobals "_law_moves" = some (some (.ref f8))) (l8 : K.lookup f8 = some ⟨oc8, od8, .func (PySem.W.fnOf "_law_moves" "_law_moves" (defArgs s__law_moves) (defBody s__law_moves) (defScope s__law_moves) .none kV8 dc8 pm8 an8 cd8 ct8), sl8⟩) (c8 : PySem.W.codeIn K cd8 "_law_moves" = true) (k8 : PySem.W.keepIn K (.ref f8) = true)
    (a9 : PySem.W.nsIn K mainGlobals "_law_word" = some (some (.ref f9))) (l9 : K.lookup f9 = some ⟨oc9, od9, .func (PySem.W.fnOf "_law_word" "_law_word" (defArgs s__law_word) (defBody s__law_word) (defScope s__law_word) .none kV9 dc9 pm9 an9 cd9 ct9), sl9⟩) (c9 : PySem.W.codeIn K cd9 "_law_word" = true) (k9 : PySem.W.keepIn K (.ref f9) = true)
    (a10 : PySem.W.nsIn K mainGlobals "_law_spots" = some (some (.ref f10))) (l10 : K.lookup f10 = some ⟨oc10, od10, .func (PySem.W.fnOf "_law_spots" "_law_spots" (defArgs s__law_spots) (defBody s__law_spots) (defScope s__law_spots) .none kV10 dc10 pm10 an10 cd10 ct10), sl10⟩) (c10 : PySem.W.codeIn K cd10 "_law_spots" = true) (k10 : PySem.W.keepIn K (.ref f10) = true)
    (a11 : PySem.W.nsIn K mainGlobals "_law_good" = some (some (.ref f11))) (l11 : K.lookup f11 = some ⟨oc11, od11, .func (PySem.W.fnOf "_law_good" "_law_good" (defArgs s__law_good) (defBody s__law_good) (defScope s__law_good) .none kV11 dc11 pm11 an11 cd11 ct11), sl11⟩) (c11 : PySem.W.codeIn K cd11 "_law_good" = true) (k11 : PySem.W.keepIn K (.ref f11) = true)
    (a12 : PySem.W.nsIn K mainGlobals "_law_deed" = some (some (.ref f12))) (l12 : K.lookup f12 = some ⟨oc12, od12, .func (PySem.W.fnOf "_law_deed" "_law_deed" (defArgs s__law_deed) (defBody s__law_deed) (defScope s__law_deed) .none kV12 dc12 pm12 an12 cd12 ct12), sl12⟩) (c12 : PySem.W.codeIn K cd12 "_law_deed" = true) (k12 : PySem.W.keepIn K (.ref f12) = true)
    (a13 : PySem.W.nsIn K mainGlobals "_law_grid" = some (some (.ref f13))) (l13 : K.lookup f13 = some ⟨oc13, od13, .func (PySem.W.fnOf "_law_grid" "_law_grid" (defArgs s__law_grid) (defBody s__law_grid) (defScope s__law_grid) .none kV13 dc13 pm13 an13 cd13 ct13), sl13⟩) (c13 : PySem.W.codeIn K cd13 "_law_grid" = true) (k13 : PySem.W.keepIn K (.ref f13) = true)
    (a14 : PySem.W.nsIn K mainGlobals "_law_whole" = some (some (.ref f14))) (l14 : K.lookup f14 = some ⟨oc14, od14, .func (PySem.W.fnOf "_law_whole" "_law_whole" (defArgs s__law_whole) (defBody s__law_whole) (defScope s__law_whole) .none kV14 dc14 pm14 an14 cd14 ct14), sl14⟩) (c14 : PySem.W.codeIn K cd14 "_law_whole" = true) (k14 : PySem.W.keepIn K (.ref f14) = true)
    (a15 : PySem.W.nsIn K mainGlobals "_law_chain" = some (some (.ref f15))) (l15 : K.lookup f15 = some ⟨oc15, od15, .func (PySem.W.fnOf "_law_chain" "_law_chain" (defArgs s__law_chain) (defBody s__law_chain) (defScope s__law_chain) .none kV15 dc15 pm15 an15 cd15 ct15), sl15⟩) (c15 : PySem.W.codeIn K cd15 "_law_chain" = true) (k15 : PySem.W.keepIn K (.ref f15) = true)
    (a16 : PySem.W.nsIn K mainGlobals "_law_entry" = some (some (.ref f16))) (l16 : K.lookup f16 = some ⟨oc16, od16, .func (PySem.W.fnOf "_law_entry" "_law_entry" (defArgs s__law_entry) (defBody s__law_entry) (defScope s__law_entry) .none kV16 dc16 pm16 an16 cd16 ct16), sl16⟩) (c16 : PySem.W.codeIn K cd16 "_law_entry" = true) (k16 : PySem.W.keepIn K (.ref f16) = true)
    (a17 : PySem.W.nsIn K mainGlobals "_law_fits" = some (some (.ref f17))) (l17 : K.lookup f17 = some ⟨oc17, od17, .func (PySem.W.fnOf "_law_fits" "_law_fits" (defArgs s__law_fits) (defBody s__law_fits) (defScope s__law_fits) .none kV17 dc17 pm17 an17 cd17 ct17), sl17⟩) (c17 : PySem.W.codeIn K cd17 "_law_fits" = true) (k17 : PySem.W.keepIn K (.ref f17) = true)
    (a18 : PySem.W.nsIn K mainGlobals "_law_fault" = some (some (.ref f18))) (l18 : K.lookup f18 = some ⟨oc18, od18, .func (PySem.W.fnOf "_law_fault" "_law_fault" (defArgs s__law_fault) (defBody s__law_fault) (defScope s__law_fault) .none kV18 dc18 pm18 an18 cd18 ct18), sl18⟩) (c18 : PySem.W.codeIn K cd18 "_law_fault" = true) (k18 : PySem.W.keepIn K (.ref f18) = true)
    (a19 : PySem.W.nsIn K mainGlobals "is_within" = some (some (.ref f19))) (l19 : K.lookup f19 = some ⟨oc19, od19, .func (PySem.W.fnOf "is_within" "is_within" (defArgs s_is_within) (defBody s_is_within) (defScope s_is_within) .none kV19 dc19 pm19 an19 cd19 ct19), sl19⟩) (c19 : PySem.W.codeIn K cd19 "is_within" = true) (k19 : PySem.W.keepIn K (.ref f19) = true)
    (a20 : PySem.W.findIn K (.ref C_BadFlow) "__init__" = some (some (.ref f20))) (l20 : K.lookup f20 = some ⟨oc20, od20, .func (PySem.W.fnOf "__init__" "BadFlow.__init__" (defArgs s_BadFlow___init__) (defBody s_BadFlow___init__) (defScope s_BadFlow___init__) .none kV20 dc20 pm20 an20 cd20 ct20), sl20⟩) (c20 : PySem.W.codeIn K cd20 "BadFlow.__init__" = true) (k20 : PySem.W.keepIn K (.ref f20) = true)
    (a21 : PySem.W.nsIn K mainGlobals "check_params" = some (some (.ref f21))) (l21 : K.lookup f21 = some ⟨oc21, od21, .func (PySem.W.fnOf "check_params" "check_params" (defArgs s_check_params) (defBody s_check_params) (defScope s_check_params) .none kV21 dc21 pm21 an21 cd21 ct21), sl21⟩) (c21 : PySem.W.codeIn K cd21 "check_params" = true) (k21 : PySem.W.keepIn K (.ref f21) = true)
    (a22 : PySem.W.nsIn K mainGlobals "fits_word" = some (some (.ref f22))) (l22 : K.lookup f22 = some ⟨oc22, od22, .func (PySem.W.fnOf "fits_word" "fits_word" (defArgs s_fits_word) (defBody s_fits_word) (defScope s_fits_word) .none kV22 dc22 pm22 an22 cd22 ct22), sl22⟩) (c22 : PySem.W.codeIn K cd22 "fits_word" = true) (k22 : PySem.W.keepIn K (.ref f22) = true)
    (a23 : PySem.W.nsIn K mainGlobals "fits_variables" = some (some (.ref f23))) (l23 : K.lookup f23 = some ⟨oc23, od23, .func (PySem.W.fnOf "fits_variables" "fits_variables" (defArgs s_fits_variables) (defBody s_fits_variables) (defScope s_fits_variables) .none kV23 dc23 pm23 an23 cd23 ct23), sl23⟩) (c23 : PySem.W.codeIn K cd23 "fits_variables" = true) (k23 : PySem.W.keepIn K (.ref f23) = true)
    (a24 : PySem.W.nsIn K mainGlobals "fits_variable" = some (some (.ref f24))) (l24 : K.lookup f24 = some ⟨oc24, od24, .func (PySem.W.fnOf "fits_variable" "fits_variable" (defArgs s_fits_variable) (defBody s_fits_variable) (defScope s_fits_variable) .none kV24 dc24 pm24 an24 cd24 ct24), sl24⟩) (c24 : PySem.W.codeIn K cd24 "fits_variable" = true) (k24 : PySem.W.keepIn K (.ref f24) = true)
    (a25 : PySem.W.nsIn K mainGlobals "fits_row" = some (some (.ref f25))) (l25 : K.lookup f25 = some ⟨oc25, od25, .func (PySem.W.fnOf "fits_row" "fits_row" (defArgs s_fits_row) (defBody s_fits_row) (defScope s_fits_row) .none kV25 dc25 pm25 an25 cd25 ct25), sl25⟩) (c25 : PySem.W.codeIn K cd25 "fits_row" = true) (k25 : PySem.W.keepIn K (.ref f25) = true)
    (a26 : PySem.W.nsIn K mainGlobals "fits_operation" = some (some (.ref f26))) (l26 : K.lookup f26 = some ⟨oc26, od26, .func (PySem.W.fnOf "fits_operation" "fits_operation" (defArgs s_fits_operation) (defBody s_fits_operation) (defScope s_fits_operation) .none kV26 dc26 pm26 an26 cd26 ct26), sl26⟩) (c26 : PySem.W.codeIn K cd26 "fits_operation" = true) (k26 : PySem.W.keepIn K (.ref f26) = true)
    (a27 : PySem.W.nsIn K mainGlobals "fits_name" = some (some (.ref f27))) (l27 : K.lookup f27 = some ⟨oc27, od27, .func (PySem.W.fnOf "fits_name" "fits_name" (defArgs s_fits_name) (defBody s_fits_name) (defScope s_fits_name) .none kV27 dc27 pm27 an27 cd27 ct27), sl27⟩) (c27 : PySem.W.codeIn K cd27 "fits_name" = true) (k27 : PySem.W.keepIn K (.ref f27) = true)
    (a28 : PySem.W.nsIn K mainGlobals "fits_many" = some (some (.ref f28))) (l28 : K.lookup f28 = some ⟨oc28, od28, .func (PySem.W.fnOf "fits_many" "fits_many" (defArgs s_fits_many) (defBody s_fits_many) (defScope s_fits_many) .none kV28 dc28 pm28 an28 cd28 ct28), sl28⟩) (c28 : PySem.W.codeIn K cd28 "fits_many" = true) (k28 : PySem.W.keepIn K (.ref f28) = true)
    (a29 : PySem.W.nsIn K mainGlobals "fits_later" = some (some (.ref f29))) (l29 : K.lookup f29 = some ⟨oc29, od29, .func (PySem.W.fnOf "fits_later" "fits_later" (defArgs s_fits_later) (defBody s_fits_later) (defScope s_fits_later) .none kV29 dc29 pm29 an29 cd29 ct29), sl29⟩) (c29 : PySem.W.codeIn K cd29 "fits_later" = true) (k29 : PySem.W.keepIn K (.ref f29) = true)
    (a30 : PySem.W.nsIn K mainGlobals "fits_chain" = some (some (.ref f30))) (l30 : K.lookup f30 = some ⟨oc30, od30, .func (PySem.W.fnOf "fits_chain" "fits_chain" (defArgs s_fits_chain) (defBody s_fits_chain) (defScope s_fits_chain) .none kV30 dc30 pm30 an30 cd30 ct30), sl30⟩) (c30 : PySem.W.codeIn K cd30 "fits_chain" = true) (k30 : PySem.W.keepIn K (.ref f30) = true)
    (a31 : PySem.W.nsIn K mainGlobals "fits_block" = some (some (.ref f31))) (l31 : K.lookup f31 = some ⟨oc31, od31, .func (PySem.W.fnOf "fits_block" "fits_block" (defArgs s_fits_block) (defBody s_fits_block) (defScope s_fits_block) .none kV31 dc31 pm31 an31 cd31 ct31), sl31⟩) (c31 : PySem.W.codeIn K cd31 "fits_block" = true) (k31 : PySem.W.keepIn K (.ref f31) = true)
    (a32 : PySem.W.nsIn K mainGlobals "keeps_rules" = some (some (.ref f32))) (l32 : K.lookup f32 = some ⟨oc32, od32, .func (PySem.W.fnOf "keeps_rules" "keeps_rules" (defArgs s_keeps_rules) (defBody s_keeps_rules) (defScope s_keeps_rules) .none kV32 dc32 pm32 an32 cd32 ct32), sl32⟩) (c32 : PySem.W.codeIn K cd32 "keeps_rules" = true) (k32 : PySem.W.keepIn K (.ref f32) = true)
    (a33 : PySem.W.nsIn K mainGlobals "is_end" = some (some (.ref f33))) (l33 : K.lookup f33 = some ⟨oc33, od33, .func (PySem.W.fnOf "is_end" "is_end" (defArgs s_is_end) (defBody s_is_end) (defScope s_is_end) .none kV33 dc33 pm33 an33 cd33 ct33), sl33⟩) (c33 : PySem.W.codeIn K cd33 "is_end" = true) (k33 : PySem.W.keepIn K (.ref f33) = true)
    (a34 : PySem.W.nsIn K mainGlobals "check_blocks" = some (some (.ref f34))) (l34 : K.lookup f34 = some ⟨oc34, od34, .func (PySem.W.fnOf "check_blocks" "check_blocks" (defArgs s_check_blocks) (defBody s_check_blocks) (defScope s_check_blocks) .none kV34 dc34 pm34 an34 cd34 ct34), sl34⟩) (c34 : PySem.W.codeIn K cd34 "check_blocks" = true) (k34 : PySem.W.keepIn K (.ref f34) = true)
    (a35 : PySem.W.findIn K (.ref C_Flow) "__init__" = some (some (.ref f35))) (l35 : K.lookup f35 = some ⟨oc35, od35, .func (PySem.W.fnOf "__init__" "Flow.__init__" (defArgs s_Flow___init__) (defBody s_Flow___init__) (defScope s_Flow___init__) .none kV35 dc35 pm35 an35 cd35 ct35), sl35⟩) (c35 : PySem.W.codeIn K cd35 "Flow.__init__" = true) (k35 : PySem.W.keepIn K (.ref f35) = true)
    (a36 : PySem.W.nsIn K mainGlobals "_law_same" = some (some (.ref f36))) (l36 : K.lookup f36 = some ⟨oc36, od36, .func (PySem.W.fnOf "_law_same" "_law_same" (defArgs s__law_same) (defBody s__law_same) (defScope s__law_same) .none kV36 dc36 pm36 an36 cd36 ct36), sl36⟩) (c36 : PySem.W.codeIn K cd36 "_law_same" = true) (k36 : PySem.W.keepIn K (.ref f36) = true)
    (a37 : PySem.W.findIn K (.ref C_Flow) "parts" = some (some (.ref f37))) (l37 : K.lookup f37 = some ⟨oc37, od37, .func (PySem.W.fnOf "parts" "Flow.parts" (defArgs s_Flow_parts) (defBody s_Flow_parts) (defScope s_Flow_parts) .none kV37 dc37 pm37 an37 cd37 ct37), sl37⟩) (c37 : PySem.W.codeIn K cd37 "Flow.parts" = true) (k37 : PySem.W.keepIn K (.ref f37) = true)
    (a38 : PySem.W.nsIn K mainGlobals "_law_tried" = some (some (.ref f38))) (l38 : K.lookup f38 = some ⟨oc38, od38, .func (PySem.W.fnOf "_law_tried" "_law_tried" (defArgs s__law_tried) (defBody s__law_tried) (defScope s__law_tried) .none kV38 dc38 pm38 an38 cd38 ct38), sl38⟩) (c38 : PySem.W.codeIn K cd38 "_law_tried" = true) (k38 : PySem.W.keepIn K (.ref f38) = true)
    (a39 : PySem.W.nsIn K mainGlobals "_law_odd_row" = some (some (.ref f39))) (l39 : K.lookup f39 = some ⟨oc39, od39, .func (PySem.W.fnOf "_law_odd_row" "_law_odd_row" (defArgs s__law_odd_row) (defBody s__law_odd_row) (defScope s__law_odd_row) .none kV39 dc39 pm39 an39 cd39 ct39), sl39⟩) (c39 : PySem.W.codeIn K cd39 "_law_odd_row" = true) (k39 : PySem.W.keepIn K (.ref f39) = true)
    (a40 : PySem.W.nsIn K mainGlobals "_law_odd" = some (some (.ref f40))) (l40 : K.lookup f40 = some ⟨oc40, od40, .func (PySem.W.fnOf "_law_odd" "_law_odd" (defArgs s__law_odd) (defBody s__law_odd) (defScope s__law_odd) .none kV40 dc40 pm40 an40 cd40 ct40), sl40⟩) (c40 : PySem.W.codeIn K cd40 "_law_odd" = true) (k40 : PySem.W.keepIn K (.ref f40) = true)
    (a41 : PySem.W.nsIn K mainGlobals "_law_entry_bent" = some (some (.ref f41))) (l41 : K.lookup f41 = some ⟨oc41, od41, .func (PySem.W.fnOf "_law_entry_bent" "_law_entry_bent" (defArgs s__law_entry_bent) (defBody s__law_entry_bent) (defScope s__law_entry_bent) .none kV41 dc41 pm41 an41 cd41 ct41), sl41⟩) (c41 : PySem.W.codeIn K cd41 "_law_entry_bent" = true) (k41 : PySem.W.keepIn K (.ref f41) = true)
    (a42 : PySem.W.nsIn K mainGlobals "_law_deed_bent" = some (some (.ref f42))) (l42 : K.lookup f42 = some ⟨oc42, od42, .func (PySem.W.fnOf "_law_deed_bent" "_law_deed_bent" (defArgs s__law_deed_bent) (defBody s__law_deed_bent) (defScope s__law_deed_bent) .none kV42 dc42 pm42 an42 cd42 ct42), sl42⟩) (c42 : PySem.W.codeIn K cd42 "_law_deed_bent" = true) (k42 : PySem.W.keepIn K (.ref f42) = true)
    (a43 : PySem.W.nsIn K mainGlobals "_law_block_bent" = some (some (.ref f43))) (l43 : K.lookup f43 = some ⟨oc43, od43, .func (PySem.W.fnOf "_law_block_bent" "_law_block_bent" (defArgs s__law_block_bent) (defBody s__law_block_bent) (defScope s__law_block_bent) .none kV43 dc43 pm43 an43 cd43 ct43), sl43⟩) (c43 : PySem.W.codeIn K cd43 "_law_block_bent" = true) (k43 : PySem.W.keepIn K (.ref f43) = true)
    (a44 : PySem.W.nsIn K mainGlobals "_law_heads_bent" = some (some (.ref f44))) (l44 : K.lookup f44 = some ⟨oc44, od44, .func (PySem.W.fnOf "_law_heads_bent" "_law_heads_bent" (defArgs s__law_heads_bent) (defBody s__law_heads_bent) (defScope s__law_heads_bent) .none kV44 dc44 pm44 an44 cd44 ct44), sl44⟩) (c44 : PySem.W.codeIn K cd44 "_law_heads_bent" = true) (k44 : PySem.W.keepIn K (.ref f44) = true)
    (a45 : PySem.W.nsIn K mainGlobals "law" = some (some (.ref f45))) (l45 : K.lookup f45 = some ⟨oc45, od45, .func (PySem.W.fnOf "law" "law" (defArgs s_law) (defBody s_law) (defScope s_law) .none kV45 dc45 pm45 an45 cd45 ct45), sl45⟩) (c45 : PySem.W.codeIn K cd45 "law" = true) (k45 : PySem.W.keepIn K (.ref f45) = true)
    (z_list : PySem.W.nsIn K mainGlobals "list" = some none)
    (z_len : PySem.W.nsIn K mainGlobals "len" = some none)
    (z_abs : PySem.W.nsIn K mainGlobals "abs" = some none)
    (z_int : PySem.W.nsIn K mainGlobals "int" = some none)
    (z_range : PySem.W.nsIn K mainGlobals "range" = some none)
    (z_min : PySem.W.nsIn K mainGlobals "min" = some none)
    (z_tuple : PySem.W.nsIn K mainGlobals "tuple" = some none)
    (z_isinstance : PySem.W.nsIn K mainGlobals "isinstance" = some none)
    (z_bool : PySem.W.nsIn K mainGlobals "bool" = some none)
    (z_str : PySem.W.nsIn K mainGlobals "str" = some none)
    (z_all : PySem.W.nsIn K mainGlobals "all" = some none)
    (z_enumerate : PySem.W.nsIn K mainGlobals "enumerate" = some none)
    (z_zip : PySem.W.nsIn K mainGlobals "zip" = some none)
    (z_set : PySem.W.nsIn K mainGlobals "set" = some none)
    (z_ValueError : PySem.W.nsIn K mainGlobals "ValueError" = some none)
    (z_max : PySem.W.nsIn K mainGlobals "max" = some none)
    
    {t_LEAST : Tok} (z_LEAST : PySem.W.nsIn K mainGlobals "LEAST" = some (some (.int (-2147483648) t_LEAST)))
    {t_GREATEST : Tok} (z_GREATEST : PySem.W.nsIn K mainGlobals "GREATEST" = some (some (.int (2147483647) t_GREATEST)))
    (pg_Flow : PySem.W.plainGet K C_Flow Str.empty = true) (hd_Flow : PySem.W.hasDictIn K C_Flow = true) (po_Flow : PySem.W.plainOver K C_Flow = true) (sa_Flow : PySem.W.findIn K (.ref C_Flow) "__setattr__" = some (some (.builtin "object.__setattr__"))) (n_Flow_name : PySem.W.findIn K (.ref C_Flow) "name" = some none) (n_Flow_params : PySem.W.findIn K (.ref C_Flow) "params" = some none) (n_Flow_count : PySem.W.findIn K (.ref C_Flow) "count" = some none) (n_Flow_arrays : PySem.W.findIn K (.ref C_Flow) "arrays" = some none) (n_Flow_blocks : PySem.W.findIn K (.ref C_Flow) "blocks" = some none)
    {p_OPERATIONS : Addr} (z_OPERATIONS : PySem.W.nsIn K mainGlobals "OPERATIONS" = some (some (.ref p_OPERATIONS))) {td_OPERATIONS : Option Addr} {ti_OPERATIONS : Array Value} {tn_OPERATIONS : Nat} {ts_OPERATIONS : Array (Option Value)} (zy_OPERATIONS : K.lookup p_OPERATIONS = some ⟨.type "tuple", td_OPERATIONS, .seq ti_OPERATIONS tn_OPERATIONS, ts_OPERATIONS⟩) (zx_OPERATIONS : ti_OPERATIONS.size ≤ sizeLine) (zw_OPERATIONS : Vals ([(.str "add"), (.str "sub"), (.str "mul"), (.str "and"), (.str "or"), (.str "xor"), (.str "shl"), (.str "sar"), (.str "lt"), (.str "le"), (.str "eq"), (.str "ne"), (.str "quo"), (.str "mod")] : List V) ti_OPERATIONS.toList)
    {t_MOST_PLACES : Tok} (z_MOST_PLACES : PySem.W.nsIn K mainGlobals "MOST_PLACES" = some (some (.int (8) t_MOST_PLACES)))
    {d_SHAPES : Addr} (zA_SHAPES : PySem.W.nsIn K mainGlobals "SHAPES" = some (some (.ref d_SHAPES))) {es_SHAPES : Array DictEntry} {n_SHAPES : Nat} (zD_SHAPES : K.lookup d_SHAPES = some ⟨.type "dict", none, .dict es_SHAPES n_SHAPES, #[]⟩) (zL_SHAPES : PySem.W.KeysLit w.params es_SHAPES.toList) (zS_SHAPES : (d_SHAPES == sysModules) = false) {p_SHAPES_k0 : Addr} (ze_SHAPES_k0 : PySem.W.nsIn K d_SHAPES "word" = some (some (.ref p_SHAPES_k0))) {td_SHAPES_k0 : Option Addr} {ti_SHAPES_k0 : Array Value} {tn_SHAPES_k0 : Nat} {ts_SHAPES_k0 : Array (Option Value)} (zy_SHAPES_k0 : K.lookup p_SHAPES_k0 = some ⟨.type "tuple", td_SHAPES_k0, .seq ti_SHAPES_k0 tn_SHAPES_k0, ts_SHAPES_k0⟩) (zx_SHAPES_k0 : ti_SHAPES_k0.size ≤ sizeLine) (zw_SHAPES_k0 : Vals ([(.str "to"), (.str "word")] : List V) ti_SHAPES_k0.toList) {p_SHAPES_k1 : Addr} (ze_SHAPES_k1 : PySem.W.nsIn K d_SHAPES "copy" = some (some (.ref p_SHAPES_k1))) {td_SHAPES_k1 : Option Addr} {ti_SHAPES_k1 : Array Value} {tn_SHAPES_k1 : Nat} {ts_SHAPES_k1 : Array (Option Value)} (zy_SHAPES_k1 : K.lookup p_SHAPES_k1 = some ⟨.type "tuple", td_SHAPES_k1, .seq ti_SHAPES_k1 tn_SHAPES_k1, ts_SHAPES_k1⟩) (zx_SHAPES_k1 : ti_SHAPES_k1.size ≤ sizeLine) (zw_SHAPES_k1 : Vals ([(.str "to"), (.str "from")] : List V) ti_SHAPES_k1.toList) {p_SHAPES_k2 : Addr} (ze_SHAPES_k2 : PySem.W.nsIn K d_SHAPES "op" = some (some (.ref p_SHAPES_k2))) {td_SHAPES_k2 : Option Addr} {ti_SHAPES_k2 : Array Value} {tn_SHAPES_k2 : Nat} {ts_SHAPES_k2 : Array (Option Value)} (zy_SHAPES_k2 : K.lookup p_SHAPES_k2 = some ⟨.type "tuple", td_SHAPES_k2, .seq ti_SHAPES_k2 tn_SHAPES_k2, ts_SHAPES_k2⟩) (zx_SHAPES_k2 : ti_SHAPES_k2.size ≤ sizeLine) (zw_SHAPES_k2 : Vals ([(.str "to"), (.str "name"), (.str "from"), (.str "from")] : List V) ti_SHAPES_k2.toList) {p_SHAPES_k3 : Addr} (ze_SHAPES_k3 : PySem.W.nsIn K d_SHAPES "with" = some (some (.ref p_SHAPES_k3))) {td_SHAPES_k3 : Option Addr} {ti_SHAPES_k3 : Array Value} {tn_SHAPES_k3 : Nat} {ts_SHAPES_k3 : Array (Option Value)} (zy_SHAPES_k3 : K.lookup p_SHAPES_k3 = some ⟨.type "tuple", td_SHAPES_k3, .seq ti_SHAPES_k3 tn_SHAPES_k3, ts_SHAPES_k3⟩) (zx_SHAPES_k3 : ti_SHAPES_k3.size ≤ sizeLine) (zw_SHAPES_k3 : Vals ([(.str "to"), (.str "name"), (.str "from"), (.str "word")] : List V) ti_SHAPES_k3.toList) {p_SHAPES_k4 : Addr} (ze_SHAPES_k4 : PySem.W.nsIn K d_SHAPES "read" = some (some (.ref p_SHAPES_k4))) {td_SHAPES_k4 : Option Addr} {ti_SHAPES_k4 : Array Value} {tn_SHAPES_k4 : Nat} {ts_SHAPES_k4 : Array (Option Value)} (zy_SHAPES_k4 : K.lookup p_SHAPES_k4 = some ⟨.type "tuple", td_SHAPES_k4, .seq ti_SHAPES_k4 tn_SHAPES_k4, ts_SHAPES_k4⟩) (zx_SHAPES_k4 : ti_SHAPES_k4.size ≤ sizeLine) (zw_SHAPES_k4 : Vals ([(.str "to"), (.str "global")] : List V) ti_SHAPES_k4.toList) {p_SHAPES_k5 : Addr} (ze_SHAPES_k5 : PySem.W.nsIn K d_SHAPES "load" = some (some (.ref p_SHAPES_k5))) {td_SHAPES_k5 : Option Addr} {ti_SHAPES_k5 : Array Value} {tn_SHAPES_k5 : Nat} {ts_SHAPES_k5 : Array (Option Value)} (zy_SHAPES_k5 : K.lookup p_SHAPES_k5 = some ⟨.type "tuple", td_SHAPES_k5, .seq ti_SHAPES_k5 tn_SHAPES_k5, ts_SHAPES_k5⟩) (zx_SHAPES_k5 : ti_SHAPES_k5.size ≤ sizeLine) (zw_SHAPES_k5 : Vals ([(.str "to"), (.str "row"), (.str "from")] : List V) ti_SHAPES_k5.toList) {p_SHAPES_k6 : Addr} (ze_SHAPES_k6 : PySem.W.nsIn K d_SHAPES "moves" = some (some (.ref p_SHAPES_k6))) {td_SHAPES_k6 : Option Addr} {ti_SHAPES_k6 : Array Value} {tn_SHAPES_k6 : Nat} {ts_SHAPES_k6 : Array (Option Value)} (zy_SHAPES_k6 : K.lookup p_SHAPES_k6 = some ⟨.type "tuple", td_SHAPES_k6, .seq ti_SHAPES_k6 tn_SHAPES_k6, ts_SHAPES_k6⟩) (zx_SHAPES_k6 : ti_SHAPES_k6.size ≤ sizeLine) (zw_SHAPES_k6 : Vals ([(.str "tos"), (.str "froms")] : List V) ti_SHAPES_k6.toList) {p_SHAPES_k7 : Addr} (ze_SHAPES_k7 : PySem.W.nsIn K d_SHAPES "skip" = some (some (.ref p_SHAPES_k7))) {td_SHAPES_k7 : Option Addr} {ti_SHAPES_k7 : Array Value} {tn_SHAPES_k7 : Nat} {ts_SHAPES_k7 : Array (Option Value)} (zy_SHAPES_k7 : K.lookup p_SHAPES_k7 = some ⟨.type "tuple", td_SHAPES_k7, .seq ti_SHAPES_k7 tn_SHAPES_k7, ts_SHAPES_k7⟩) (zx_SHAPES_k7 : ti_SHAPES_k7.size ≤ sizeLine) (zw_SHAPES_k7 : Vals ([] : List V) ti_SHAPES_k7.toList) {p_SHAPES_k8 : Addr} (ze_SHAPES_k8 : PySem.W.nsIn K d_SHAPES "write" = some (some (.ref p_SHAPES_k8))) {td_SHAPES_k8 : Option Addr} {ti_SHAPES_k8 : Array Value} {tn_SHAPES_k8 : Nat} {ts_SHAPES_k8 : Array (Option Value)} (zy_SHAPES_k8 : K.lookup p_SHAPES_k8 = some ⟨.type "tuple", td_SHAPES_k8, .seq ti_SHAPES_k8 tn_SHAPES_k8, ts_SHAPES_k8⟩) (zx_SHAPES_k8 : ti_SHAPES_k8.size ≤ sizeLine) (zw_SHAPES_k8 : Vals ([(.str "global"), (.str "from")] : List V) ti_SHAPES_k8.toList) {p_SHAPES_k9 : Addr} (ze_SHAPES_k9 : PySem.W.nsIn K d_SHAPES "store" = some (some (.ref p_SHAPES_k9))) {td_SHAPES_k9 : Option Addr} {ti_SHAPES_k9 : Array Value} {tn_SHAPES_k9 : Nat} {ts_SHAPES_k9 : Array (Option Value)} (zy_SHAPES_k9 : K.lookup p_SHAPES_k9 = some ⟨.type "tuple", td_SHAPES_k9, .seq ti_SHAPES_k9 tn_SHAPES_k9, ts_SHAPES_k9⟩) (zx_SHAPES_k9 : ti_SHAPES_k9.size ≤ sizeLine) (zw_SHAPES_k9 : Vals ([(.str "row"), (.str "from"), (.str "from")] : List V) ti_SHAPES_k9.toList) {p_SHAPES_k10 : Addr} (ze_SHAPES_k10 : PySem.W.nsIn K d_SHAPES "nonzero" = some (some (.ref p_SHAPES_k10))) {td_SHAPES_k10 : Option Addr} {ti_SHAPES_k10 : Array Value} {tn_SHAPES_k10 : Nat} {ts_SHAPES_k10 : Array (Option Value)} (zy_SHAPES_k10 : K.lookup p_SHAPES_k10 = some ⟨.type "tuple", td_SHAPES_k10, .seq ti_SHAPES_k10 tn_SHAPES_k10, ts_SHAPES_k10⟩) (zx_SHAPES_k10 : ti_SHAPES_k10.size ≤ sizeLine) (zw_SHAPES_k10 : Vals ([(.str "from"), (.str "at")] : List V) ti_SHAPES_k10.toList) {p_SHAPES_k11 : Addr} (ze_SHAPES_k11 : PySem.W.nsIn K d_SHAPES "inside" = some (some (.ref p_SHAPES_k11))) {td_SHAPES_k11 : Option Addr} {ti_SHAPES_k11 : Array Value} {tn_SHAPES_k11 : Nat} {ts_SHAPES_k11 : Array (Option Value)} (zy_SHAPES_k11 : K.lookup p_SHAPES_k11 = some ⟨.type "tuple", td_SHAPES_k11, .seq ti_SHAPES_k11 tn_SHAPES_k11, ts_SHAPES_k11⟩) (zx_SHAPES_k11 : ti_SHAPES_k11.size ≤ sizeLine) (zw_SHAPES_k11 : Vals ([(.str "from"), (.str "many"), (.str "at")] : List V) ti_SHAPES_k11.toList) {p_SHAPES_k12 : Addr} (ze_SHAPES_k12 : PySem.W.nsIn K d_SHAPES "depth" = some (some (.ref p_SHAPES_k12))) {td_SHAPES_k12 : Option Addr} {ti_SHAPES_k12 : Array Value} {tn_SHAPES_k12 : Nat} {ts_SHAPES_k12 : Array (Option Value)} (zy_SHAPES_k12 : K.lookup p_SHAPES_k12 = some ⟨.type "tuple", td_SHAPES_k12, .seq ti_SHAPES_k12 tn_SHAPES_k12, ts_SHAPES_k12⟩) (zx_SHAPES_k12 : ti_SHAPES_k12.size ≤ sizeLine) (zw_SHAPES_k12 : Vals ([(.str "many"), (.str "at")] : List V) ti_SHAPES_k12.toList) {p_SHAPES_k13 : Addr} (ze_SHAPES_k13 : PySem.W.nsIn K d_SHAPES "call" = some (some (.ref p_SHAPES_k13))) {td_SHAPES_k13 : Option Addr} {ti_SHAPES_k13 : Array Value} {tn_SHAPES_k13 : Nat} {ts_SHAPES_k13 : Array (Option Value)} (zy_SHAPES_k13 : K.lookup p_SHAPES_k13 = some ⟨.type "tuple", td_SHAPES_k13, .seq ti_SHAPES_k13 tn_SHAPES_k13, ts_SHAPES_k13⟩) (zx_SHAPES_k13 : ti_SHAPES_k13.size ≤ sizeLine) (zw_SHAPES_k13 : Vals ([(.str "to"), (.str "function"), (.str "froms"), (.str "at")] : List V) ti_SHAPES_k13.toList) {p_SHAPES_k14 : Addr} (ze_SHAPES_k14 : PySem.W.nsIn K d_SHAPES "tell" = some (some (.ref p_SHAPES_k14))) {td_SHAPES_k14 : Option Addr} {ti_SHAPES_k14 : Array Value} {tn_SHAPES_k14 : Nat} {ts_SHAPES_k14 : Array (Option Value)} (zy_SHAPES_k14 : K.lookup p_SHAPES_k14 = some ⟨.type "tuple", td_SHAPES_k14, .seq ti_SHAPES_k14 tn_SHAPES_k14, ts_SHAPES_k14⟩) (zx_SHAPES_k14 : ti_SHAPES_k14.size ≤ sizeLine) (zw_SHAPES_k14 : Vals ([(.str "from"), (.str "at")] : List V) ti_SHAPES_k14.toList) {p_SHAPES_k15 : Addr} (ze_SHAPES_k15 : PySem.W.nsIn K d_SHAPES "jump" = some (some (.ref p_SHAPES_k15))) {td_SHAPES_k15 : Option Addr} {ti_SHAPES_k15 : Array Value} {tn_SHAPES_k15 : Nat} {ts_SHAPES_k15 : Array (Option Value)} (zy_SHAPES_k15 : K.lookup p_SHAPES_k15 = some ⟨.type "tuple", td_SHAPES_k15, .seq ti_SHAPES_k15 tn_SHAPES_k15, ts_SHAPES_k15⟩) (zx_SHAPES_k15 : ti_SHAPES_k15.size ≤ sizeLine) (zw_SHAPES_k15 : Vals ([(.str "block")] : List V) ti_SHAPES_k15.toList) {p_SHAPES_k16 : Addr} (ze_SHAPES_k16 : PySem.W.nsIn K d_SHAPES "fork" = some (some (.ref p_SHAPES_k16))) {td_SHAPES_k16 : Option Addr} {ti_SHAPES_k16 : Array Value} {tn_SHAPES_k16 : Nat} {ts_SHAPES_k16 : Array (Option Value)} (zy_SHAPES_k16 : K.lookup p_SHAPES_k16 = some ⟨.type "tuple", td_SHAPES_k16, .seq ti_SHAPES_k16 tn_SHAPES_k16, ts_SHAPES_k16⟩) (zx_SHAPES_k16 : ti_SHAPES_k16.size ≤ sizeLine) (zw_SHAPES_k16 : Vals ([(.str "from"), (.str "later"), (.str "later")] : List V) ti_SHAPES_k16.toList) {p_SHAPES_k17 : Addr} (ze_SHAPES_k17 : PySem.W.nsIn K d_SHAPES "back" = some (some (.ref p_SHAPES_k17))) {td_SHAPES_k17 : Option Addr} {ti_SHAPES_k17 : Array Value} {tn_SHAPES_k17 : Nat} {ts_SHAPES_k17 : Array (Option Value)} (zy_SHAPES_k17 : K.lookup p_SHAPES_k17 = some ⟨.type "tuple", td_SHAPES_k17, .seq ti_SHAPES_k17 tn_SHAPES_k17, ts_SHAPES_k17⟩) (zx_SHAPES_k17 : ti_SHAPES_k17.size ≤ sizeLine) (zw_SHAPES_k17 : Vals ([(.str "from")] : List V) ti_SHAPES_k17.toList) (ze_SHAPES_m0 : PySem.W.nsIn K d_SHAPES "" = some none) (ze_SHAPES_m1 : PySem.W.nsIn K d_SHAPES "Word" = some none) (ze_SHAPES_m2 : PySem.W.nsIn K d_SHAPES "nop" = some none) (ze_SHAPES_m3 : PySem.W.nsIn K d_SHAPES "jumps" = some none) (ze_SHAPES_m4 : PySem.W.nsIn K d_SHAPES "add" = some none) (ze_SHAPES_m5 : PySem.W.nsIn K d_SHAPES "skip " = some none) (ze_SHAPES_m6 : PySem.W.nsIn K d_SHAPES "check" = some none)
    {d_TESTS : Addr} (zA_TESTS : PySem.W.nsIn K mainGlobals "TESTS" = some (some (.ref d_TESTS))) {es_TESTS : Array DictEntry} {n_TESTS : Nat} (zD_TESTS : K.lookup d_TESTS = some ⟨.type "dict", none, .dict es_TESTS n_TESTS, #[]⟩) (zL_TESTS : PySem.W.KeysLit w.params es_TESTS.toList) (zS_TESTS : (d_TESTS == sysModules) = false) (ze_TESTS_k0 : PySem.W.nsIn K d_TESTS "to" = some (some (.ref f24))) (ze_TESTS_k1 : PySem.W.nsIn K d_TESTS "from" = some (some (.ref f24))) (ze_TESTS_k2 : PySem.W.nsIn K d_TESTS "tos" = some (some (.ref f23))) (ze_TESTS_k3 : PySem.W.nsIn K d_TESTS "froms" = some (some (.ref f23))) (ze_TESTS_k4 : PySem.W.nsIn K d_TESTS "word" = some (some (.ref f22))) (ze_TESTS_k5 : PySem.W.nsIn K d_TESTS "many" = some (some (.ref f28))) (ze_TESTS_k6 : PySem.W.nsIn K d_TESTS "name" = some (some (.ref f26))) (ze_TESTS_k7 : PySem.W.nsIn K d_TESTS "global" = some (some (.ref f27))) (ze_TESTS_k8 : PySem.W.nsIn K d_TESTS "function" = some (some (.ref f27))) (ze_TESTS_k9 : PySem.W.nsIn K d_TESTS "row" = some (some (.ref f25))) (ze_TESTS_k10 : PySem.W.nsIn K d_TESTS "at" = some (some (.ref f30))) (ze_TESTS_k11 : PySem.W.nsIn K d_TESTS "block" = some (some (.ref f31))) (ze_TESTS_k12 : PySem.W.nsIn K d_TESTS "later" = some (some (.ref f29)))
    {p_ENDS : Addr} (z_ENDS : PySem.W.nsIn K mainGlobals "ENDS" = some (some (.ref p_ENDS))) {td_ENDS : Option Addr} {ti_ENDS : Array Value} {tn_ENDS : Nat} {ts_ENDS : Array (Option Value)} (zy_ENDS : K.lookup p_ENDS = some ⟨.type "tuple", td_ENDS, .seq ti_ENDS tn_ENDS, ts_ENDS⟩) (zx_ENDS : ti_ENDS.size ≤ sizeLine) (zw_ENDS : Vals ([(.str "jump"), (.str "fork"), (.str "back")] : List V) ti_ENDS.toList)
    {nm_BadFlow q_BadFlow : Str} {N_BadFlow : Addr} {bs_BadFlow : List Value} {sn_BadFlow : List Str} {sub_BadFlow : List Value} {ab_BadFlow : Bool} {col_BadFlow : Option Bool} {dd_BadFlow : Option Addr} {k0_BadFlow k1_BadFlow k2_BadFlow k3_BadFlow k5_BadFlow : Option Value} (xL_BadFlow : K.lookup C_BadFlow = some (excClassObj nm_BadFlow q_BadFlow C_BadFlow N_BadFlow bs_BadFlow [(.ref C_RunsError), (.type "ValueError"), (.type "Exception"), (.type "BaseException"), (.type "object")] true sn_BadFlow sub_BadFlow ab_BadFlow col_BadFlow dd_BadFlow k0_BadFlow k1_BadFlow k2_BadFlow k3_BadFlow k5_BadFlow "ValueError.__new__")) (xs_BadFlow : PySem.W.findIn K (.ref C_BadFlow) "__setattr__" = some (some (.builtin "object.__setattr__"))) (xe_BadFlow : PySem.W.subIn K (.ref C_BadFlow) (.type "BaseException") = some true) (xt_BadFlow : PySem.W.typeIn K (.ref C_BadFlow) = some (.type "type")) (xk_BadFlow : PySem.W.keepIn K (.ref C_BadFlow) = true) (xg_BadFlow : PySem.W.findIn K (.ref C_BadFlow) "__getattribute__" = some (some (.builtin "BaseException.__getattribute__"))) (xh_BadFlow : PySem.W.findIn K (.ref C_BadFlow) "__getattr__" = some none) (xd_BadFlow : PySem.W.hasDictIn K C_BadFlow = true) (xa_BadFlow : PySem.W.findIn K (.ref C_BadFlow) "__class__" = some (some (.builtin "object.__class__"))) (xn_BadFlow : PySem.W.specialIn K (.builtin "object.__class__") "__get__" = some (some (.builtin "getset_descriptor.__get__"))) (xq_BadFlow : PySem.W.takesIn K (.builtin "object.__class__") = some true) (xm_BadFlow : PySem.W.mroIn K C_BadFlow (.type "object") = some true) (xf_block_BadFlow : PySem.W.findIn K (.ref C_BadFlow) "block" = some none) (xf_position_BadFlow : PySem.W.findIn K (.ref C_BadFlow) "position" = some none)
    (jt_BadFlow : PySem.W.typeIn K (.ref f20) = some (.type "function"))
    
    
    
    
    
    
    
    
    
    
    (mk_Flow : PySem.W.makesIn K C_Flow = true) (ki_Flow : PySem.W.isFn K (.ref f35) = true) (kc_Flow : PySem.W.keepIn K (.ref C_Flow) = true)
    (ze1_BadFlow_BadFlow : PySem.W.isClsIn K C_BadFlow = true) (ze2_BadFlow_BadFlow : PySem.W.typeIn K (.ref C_BadFlow) = some (.type "type")) (ze3_BadFlow_BadFlow : PySem.W.subIn K (.ref C_BadFlow) (.type "BaseException") = some true) (ze4_BadFlow_BadFlow : PySem.W.subIn K (.ref C_BadFlow) (.ref C_BadFlow) = some true)
    (zk1_BadFlow_RunsError : PySem.W.isClsIn K C_RunsError = true) (zk2_BadFlow_RunsError : PySem.W.typeIn K (.ref C_RunsError) = some (.type "type")) (zk3_BadFlow_RunsError : PySem.W.subIn K (.ref C_BadFlow) (.ref C_RunsError) = some true) (zk4_BadFlow_RunsError : (C_BadFlow == C_RunsError) = false)
    (zk3_BadFlow_ValueError : PySem.W.subIn K (.ref C_BadFlow) (.type "ValueError") = some true)
    (zk1_BadFlow_BadSpot : PySem.W.isClsIn K C_BadSpot = true) (zk2_BadFlow_BadSpot : PySem.W.typeIn K (.ref C_BadSpot) = some (.type "type")) (zk3_BadFlow_BadSpot : PySem.W.subIn K (.ref C_BadFlow) (.ref C_BadSpot) = some false) (zk4_BadFlow_BadSpot : (C_BadFlow == C_BadSpot) = false)
    (zk1_BadFlow_BadSite : PySem.W.isClsIn K C_BadSite = true) (zk2_BadFlow_BadSite : PySem.W.typeIn K (.ref C_BadSite) = some (.type "type")) (zk3_BadFlow_BadSite : PySem.W.subIn K (.ref C_BadFlow) (.ref C_BadSite) = some false) (zk4_BadFlow_BadSite : (C_BadFlow == C_BadSite) = false)
    (zk1_BadFlow_BadRow : PySem.W.isClsIn K C_BadRow = true) (zk2_BadFlow_BadRow : PySem.W.typeIn K (.ref C_BadRow) = some (.type "type")) (zk3_BadFlow_BadRow : PySem.W.subIn K (.ref C_BadFlow) (.ref C_BadRow) = some false) (zk4_BadFlow_BadRow : (C_BadFlow == C_BadRow) = false)
    (zk1_BadFlow_BadLine : PySem.W.isClsIn K C_BadLine = true) (zk2_BadFlow_BadLine : PySem.W.typeIn K (.ref C_BadLine) = some (.type "type")) (zk3_BadFlow_BadLine : PySem.W.subIn K (.ref C_BadFlow) (.ref C_BadLine) = some false) (zk4_BadFlow_BadLine : (C_BadFlow == C_BadLine) = false)
    (mi_Flow_parts : PySem.W.isFn K (.ref f37) = true)
    : ∃ fd : FuncData, (∀ (s : Shared) (v : Value), BindsTo s fd ⟨[v], []⟩ [("script", v)]) ∧ ∃ G : M.Env, G.K = K ∧ ∀ base : Heap, K.In base → base.Ns mainGlobals mg → FnOk l.prog w K mg base CX0 46 fa0 fd ["script"] (spM G 1 m_law) := by
  have e := hfa.symm.trans (PySem.W.mg_of X G a45)
  cases e
  have F0 := fun_mk (st := s__law_pool) l0 c0 k0
  have B0 := F0.binds (ps := ["script"]) fun _ _ _ _ _ _ us hl => match us, hl with | [_], _ => rfl
  have F1 := fun_mk (st := s__law_draw) l1 c1 k1
  have B1 := F1.binds (ps := ["pool", "many"]) fun _ _ _ _ _ _ us hl => match us, hl with | [_, _], _ => rfl
  have F2 := fun_mk (st := s__law_pick) l2 c2 k2
  have B2 := F2.binds (ps := ["pool", "things"]) fun _ _ _ _ _ _ us hl => match us, hl with | [_, _], _ => rfl
  have F3 := fun_mk (st := s__law_table) l3 c3 k3
  have B3 := F3.binds (ps := []) fun _ _ _ _ _ _ us hl => match us, hl with | [], _ => rfl
  have F4 := fun_mk (st := s__law_heads) l4 c4 k4
  have B4 := F4.binds (ps := ["pool", "wide"]) fun _ _ _ _ _ _ us hl => match us, hl with | [_, _], _ => rfl
  have F5 := fun_mk (st := s__law_last_kind) l5 c5 k5
  have B5 := F5.binds (ps := ["pool", "box", "at"]) fun _ _ _ _ _ _ us hl => match us, hl with | [_, _, _], _ => rfl
  have F6 := fun_mk (st := s__law_kind) l6 c6 k6
  have B6 := F6.binds (ps := ["pool", "box"]) fun _ _ _ _ _ _ us hl => match us, hl with | [_, _], _ => rfl
  have F7 := fun_mk (st := s__law_some) l7 c7 k7
  have B7 := F7.binds (ps := ["pool", "box", "many"]) fun _ _ _ _ _ _ us hl => match us, hl with | [_, _, _], _ => rfl
  have F8 := fun_mk (st := s__law_moves) l8 c8 k8
  have B8 := F8.binds (ps := ["pool", "box"]) fun _ _ _ _ _ _ us hl => match us, hl with | [_, _], _ => rfl
  have F9 := fun_mk (st := s__law_word) l9 c9 k9
  have B9 := F9.binds (ps := ["pool"]) fun _ _ _ _ _ _ us hl => match us, hl with | [_], _ => rfl
  have F10 := fun_mk (st := s__law_spots) l10 c10 k10
  have B10 := F10.binds (ps := ["pool"]) fun _ _ _ _ _ _ us hl => match us, hl with | [_], _ => rfl
  have F11 := fun_mk (st := s__law_good) l11 c11 k11
  have B11 := F11.binds (ps := ["pool", "letter", "box", "at"]) fun _ _ _ _ _ _ us hl => match us, hl with | [_, _, _, _], _ => rfl
  have F12 := fun_mk (st := s__law_deed) l12 c12 k12
  have B12 := F12.binds (ps := ["pool", "box", "at", "last"]) fun _ _ _ _ _ _ us hl => match us, hl with | [_, _, _, _], _ => rfl
  have F13 := fun_mk (st := s__law_grid) l13 c13 k13
  have B13 := F13.binds (ps := ["pool", "box"]) fun _ _ _ _ _ _ us hl => match us, hl with | [_, _], _ => rfl
  have F14 := fun_mk (st := s__law_whole) l14 c14 k14
  have B14 := F14.binds (ps := ["x"]) fun _ _ _ _ _ _ us hl => match us, hl with | [_], _ => rfl
  have F15 := fun_mk (st := s__law_chain) l15 c15 k15
  have B15 := F15.binds (ps := ["x"]) fun _ _ _ _ _ _ us hl => match us, hl with | [_], _ => rfl
  have F16 := fun_mk (st := s__law_entry) l16 c16 k16
  have B16 := F16.binds (ps := ["kind", "x", "box", "at"]) fun _ _ _ _ _ _ us hl => match us, hl with | [_, _, _, _], _ => rfl
  have F17 := fun_mk (st := s__law_fits) l17 c17 k17
  have B17 := F17.binds (ps := ["deed", "box", "at"]) fun _ _ _ _ _ _ us hl => match us, hl with | [_, _, _], _ => rfl
  have F18 := fun_mk (st := s__law_fault) l18 c18 k18
  have B18 := F18.binds (ps := ["heads", "wide", "rows", "grid"]) fun _ _ _ _ _ _ us hl => match us, hl with | [_, _, _, _], _ => rfl
  have F19 := fun_mk (st := s_is_within) l19 c19 k19
  have B19 := F19.binds (ps := ["entry", "least", "greatest"]) fun _ _ _ _ _ _ us hl => match us, hl with | [_, _, _], _ => rfl
  have F20 := fun_mk (st := s_BadFlow___init__) l20 c20 k20
  have B20 := F20.binds (ps := ["self", "block", "position"]) fun _ _ _ _ _ _ us hl => match us, hl with | [_, _, _], _ => rfl
  have F21 := fun_mk (st := s_check_params) l21 c21 k21
  have B21 := F21.binds (ps := ["params", "count"]) fun _ _ _ _ _ _ us hl => match us, hl with | [_, _], _ => rfl
  have F22 := fun_mk (st := s_fits_word) l22 c22 k22
  have B22 := F22.binds (ps := ["flow", "number", "entry"]) fun _ _ _ _ _ _ us hl => match us, hl with | [_, _, _], _ => rfl
  have F23 := fun_mk (st := s_fits_variables) l23 c23 k23
  have B23 := F23.binds (ps := ["flow", "number", "entry"]) fun _ _ _ _ _ _ us hl => match us, hl with | [_, _, _], _ => rfl
  have F24 := fun_mk (st := s_fits_variable) l24 c24 k24
  have B24 := F24.binds (ps := ["flow", "number", "entry"]) fun _ _ _ _ _ _ us hl => match us, hl with | [_, _, _], _ => rfl
  have F25 := fun_mk (st := s_fits_row) l25 c25 k25
  have B25 := F25.binds (ps := ["flow", "number", "entry"]) fun _ _ _ _ _ _ us hl => match us, hl with | [_, _, _], _ => rfl
  have F26 := fun_mk (st := s_fits_operation) l26 c26 k26
  have B26 := F26.binds (ps := ["flow", "number", "entry"]) fun _ _ _ _ _ _ us hl => match us, hl with | [_, _, _], _ => rfl
  have F27 := fun_mk (st := s_fits_name) l27 c27 k27
  have B27 := F27.binds (ps := ["flow", "number", "entry"]) fun _ _ _ _ _ _ us hl => match us, hl with | [_, _, _], _ => rfl
  have F28 := fun_mk (st := s_fits_many) l28 c28 k28
  have B28 := F28.binds (ps := ["flow", "number", "entry"]) fun _ _ _ _ _ _ us hl => match us, hl with | [_, _, _], _ => rfl
  have F29 := fun_mk (st := s_fits_later) l29 c29 k29
  have B29 := F29.binds (ps := ["flow", "number", "entry"]) fun _ _ _ _ _ _ us hl => match us, hl with | [_, _, _], _ => rfl
  have F30 := fun_mk (st := s_fits_chain) l30 c30 k30
  have B30 := F30.binds (ps := ["flow", "number", "entry"]) fun _ _ _ _ _ _ us hl => match us, hl with | [_, _, _], _ => rfl
  have F31 := fun_mk (st := s_fits_block) l31 c31 k31
  have B31 := F31.binds (ps := ["flow", "number", "entry"]) fun _ _ _ _ _ _ us hl => match us, hl with | [_, _, _], _ => rfl
  have F32 := fun_mk (st := s_keeps_rules) l32 c32 k32
  have B32 := F32.binds (ps := ["flow", "number", "deed"]) fun _ _ _ _ _ _ us hl => match us, hl with | [_, _, _], _ => rfl
  have F33 := fun_mk (st := s_is_end) l33 c33 k33
  have B33 := F33.binds (ps := ["deed"]) fun _ _ _ _ _ _ us hl => match us, hl with | [_], _ => rfl
  have F34 := fun_mk (st := s_check_blocks) l34 c34 k34
  have B34 := F34.binds (ps := ["flow"]) fun _ _ _ _ _ _ us hl => match us, hl with | [_], _ => rfl
  have F35 := fun_mk (st := s_Flow___init__) l35 c35 k35
  have B35 := F35.binds (ps := ["self", "name", "params", "count", "arrays", "blocks"]) fun _ _ _ _ _ _ us hl => match us, hl with | [_, _, _, _, _, _], _ => rfl
  have F36 := fun_mk (st := s__law_same) l36 c36 k36
  have B36 := F36.binds (ps := ["actual", "due"]) fun _ _ _ _ _ _ us hl => match us, hl with | [_, _], _ => rfl
  have F37 := fun_mk (st := s_Flow_parts) l37 c37 k37
  have B37 := F37.binds (ps := ["self"]) fun _ _ _ _ _ _ us hl => match us, hl with | [_], _ => rfl
  have F38 := fun_mk (st := s__law_tried) l38 c38 k38
  have B38 := F38.binds (ps := ["heads", "wide", "rows", "grid"]) fun _ _ _ _ _ _ us hl => match us, hl with | [_, _, _, _], _ => rfl
  have F39 := fun_mk (st := s__law_odd_row) l39 c39 k39
  have B39 := F39.binds (ps := ["pool", "row", "wide"]) fun _ _ _ _ _ _ us hl => match us, hl with | [_, _, _], _ => rfl
  have F40 := fun_mk (st := s__law_odd) l40 c40 k40
  have B40 := F40.binds (ps := ["pool", "letter", "x", "box", "at"]) fun _ _ _ _ _ _ us hl => match us, hl with | [_, _, _, _, _], _ => rfl
  have F41 := fun_mk (st := s__law_entry_bent) l41 c41 k41
  have B41 := F41.binds (ps := ["pool", "deed", "box", "at"]) fun _ _ _ _ _ _ us hl => match us, hl with | [_, _, _, _], _ => rfl
  have F42 := fun_mk (st := s__law_deed_bent) l42 c42 k42
  have B42 := F42.binds (ps := ["pool", "deed", "box", "at"]) fun _ _ _ _ _ _ us hl => match us, hl with | [_, _, _, _], _ => rfl
  have F43 := fun_mk (st := s__law_block_bent) l43 c43 k43
  have B43 := F43.binds (ps := ["pool", "block", "box", "at"]) fun _ _ _ _ _ _ us hl => match us, hl with | [_, _, _, _], _ => rfl
  have F44 := fun_mk (st := s__law_heads_bent) l44 c44 k44
  have B44 := F44.binds (ps := ["pool", "heads", "wide"]) fun _ _ _ _ _ _ us hl => match us, hl with | [_, _, _], _ => rfl
  have F45 := fun_mk (st := s_law) l45 c45 k45
  have B45 := F45.binds (ps := ["script"]) fun _ _ _ _ _ _ us hl => match us, hl with | [_], _ => rfl
  refine ⟨PySem.W.fnOf "law" "law" (defArgs s_law) (defBody s_law) (defScope s_law) .none kV45 dc45 pm45 an45 cd45 ct45, fun s v => .of_eq rfl, (M.Env.mk K (fun s => if s = "BadFlow" then C_BadFlow else if s = "Flow" then C_Flow else if s = "RunsError" then C_RunsError else if s = "BadSpot" then C_BadSpot else if s = "BadSite" then C_BadSite else if s = "BadRow" then C_BadRow else if s = "BadLine" then C_BadLine else 0) (fun s => if s = "SHAPES" then (.ref d_SHAPES) else if s = "TESTS" then (.ref d_TESTS) else if s = "fits_variable" then (.ref f24) else if s = "fits_variables" then (.ref f23) else if s = "fits_word" then (.ref f22) else if s = "fits_many" then (.ref f28) else if s = "fits_operation" then (.ref f26) else if s = "fits_name" then (.ref f27) else if s = "fits_row" then (.ref f25) else if s = "fits_chain" then (.ref f30) else if s = "fits_block" then (.ref f31) else if s = "fits_later" then (.ref f29) else .ref 0) none), rfl, fun base _ _ => ?_⟩
  have kk_OPERATIONS : ∀ S : Sta, S.G = (M.Env.mk K (fun s => if s = "BadFlow" then C_BadFlow else if s = "Flow" then C_Flow else if s = "RunsError" then C_RunsError else if s = "BadSpot" then C_BadSpot else if s = "BadSite" then C_BadSite else if s = "BadRow" then C_BadRow else if s = "BadLine" then C_BadLine else 0) (fun s => if s = "SHAPES" then (.ref d_SHAPES) else if s = "TESTS" then (.ref d_TESTS) else if s = "fits_variable" then (.ref f24) else if s = "fits_variables" then (.ref f23) else if s = "fits_word" then (.ref f22) else if s = "fits_many" then (.ref f28) else if s = "fits_operation" then (.ref f26) else if s = "fits_name" then (.ref f27) else if s = "fits_row" then (.ref f25) else if s = "fits_chain" then (.ref f30) else if s = "fits_block" then (.ref f31) else if s = "fits_later" then (.ref f29) else .ref 0) none) → Rv S (T.ktp [(T.str ("add" : Str)), (T.str ("sub" : Str)), (T.str ("mul" : Str)), (T.str ("and" : Str)), (T.str ("or" : Str)), (T.str ("xor" : Str)), (T.str ("shl" : Str)), (T.str ("sar" : Str)), (T.str ("lt" : Str)), (T.str ("le" : Str)), (T.str ("eq" : Str)), (T.str ("ne" : Str)), (T.str ("quo" : Str)), (T.str ("mod" : Str))]) (.ref p_OPERATIONS) := fun S e => rv_ktp (by rw [e]; exact ⟨_, _, _, zy_OPERATIONS, rfl, rfl, zx_OPERATIONS, zw_OPERATIONS⟩) (RvL.cons (by simp only [Rv]) (RvL.cons (by simp only [Rv]) (RvL.cons (by simp only [Rv]) (RvL.cons (by simp only [Rv]) (RvL.cons (by simp only [Rv]) (RvL.cons (by simp only [Rv]) (RvL.cons (by simp only [Rv]) (RvL.cons (by simp only [Rv]) (RvL.cons (by simp only [Rv]) (RvL.cons (by simp only [Rv]) (RvL.cons (by simp only [Rv]) (RvL.cons (by simp only [Rv]) (RvL.cons (by simp only [Rv]) (RvL.cons (by simp only [Rv]) RvL.nil))))))))))))))
  have D_SHAPES : KDict K w d_SHAPES es_SHAPES n_SHAPES := ⟨zD_SHAPES, zL_SHAPES, zS_SHAPES⟩
  have kk_SHAPES_k0 : ∀ S : Sta, S.G = (M.Env.mk K (fun s => if s = "BadFlow" then C_BadFlow else if s = "Flow" then C_Flow else if s = "RunsError" then C_RunsError else if s = "BadSpot" then C_BadSpot else if s = "BadSite" then C_BadSite else if s = "BadRow" then C_BadRow else if s = "BadLine" then C_BadLine else 0) (fun s => if s = "SHAPES" then (.ref d_SHAPES) else if s = "TESTS" then (.ref d_TESTS) else if s = "fits_variable" then (.ref f24) else if s = "fits_variables" then (.ref f23) else if s = "fits_word" then (.ref f22) else if s = "fits_many" then (.ref f28) else if s = "fits_operation" then (.ref f26) else if s = "fits_name" then (.ref f27) else if s = "fits_row" then (.ref f25) else if s = "fits_chain" then (.ref f30) else if s = "fits_block" then (.ref f31) else if s = "fits_later" then (.ref f29) else .ref 0) none) → Rv S (T.ktp [(T.str ("to" : Str)), (T.str ("word" : Str))]) (.ref p_SHAPES_k0) := fun S e => rv_ktp (by rw [e]; exact ⟨_, _, _, zy_SHAPES_k0, rfl, rfl, zx_SHAPES_k0, zw_SHAPES_k0⟩) (RvL.cons (by simp only [Rv]) (RvL.cons (by simp only [Rv]) RvL.nil))
  have kk_SHAPES_k1 : ∀ S : Sta, S.G = (M.Env.mk K (fun s => if s = "BadFlow" then C_BadFlow else if s = "Flow" then C_Flow else if s = "RunsError" then C_RunsError else if s = "BadSpot" then C_BadSpot else if s = "BadSite" then C_BadSite else if s = "BadRow" then C_BadRow else if s = "BadLine" then C_BadLine else 0) (fun s => if s = "SHAPES" then (.ref d_SHAPES) else if s = "TESTS" then (.ref d_TESTS) else if s = "fits_variable" then (.ref f24) else if s = "fits_variables" then (.ref f23) else if s = "fits_word" then (.ref f22) else if s = "fits_many" then (.ref f28) else if s = "fits_operation" then (.ref f26) else if s = "fits_name" then (.ref f27) else if s = "fits_row" then (.ref f25) else if s = "fits_chain" then (.ref f30) else if s = "fits_block" then (.ref f31) else if s = "fits_later" then (.ref f29) else .ref 0) none) → Rv S (T.ktp [(T.str ("to" : Str)), (T.str ("from" : Str))]) (.ref p_SHAPES_k1) := fun S e => rv_ktp (by rw [e]; exact ⟨_, _, _, zy_SHAPES_k1, rfl, rfl, zx_SHAPES_k1, zw_SHAPES_k1⟩) (RvL.cons (by simp only [Rv]) (RvL.cons (by simp only [Rv]) RvL.nil))
  have kk_SHAPES_k2 : ∀ S : Sta, S.G = (M.Env.mk K (fun s => if s = "BadFlow" then C_BadFlow else if s = "Flow" then C_Flow else if s = "RunsError" then C_RunsError else if s = "BadSpot" then C_BadSpot else if s = "BadSite" then C_BadSite else if s = "BadRow" then C_BadRow else if s = "BadLine" then C_BadLine else 0) (fun s => if s = "SHAPES" then (.ref d_SHAPES) else if s = "TESTS" then (.ref d_TESTS) else if s = "fits_variable" then (.ref f24) else if s = "fits_variables" then (.ref f23) else if s = "fits_word" then (.ref f22) else if s = "fits_many" then (.ref f28) else if s = "fits_operation" then (.ref f26) else if s = "fits_name" then (.ref f27) else if s = "fits_row" then (.ref f25) else if s = "fits_chain" then (.ref f30) else if s = "fits_block" then (.ref f31) else if s = "fits_later" then (.ref f29) else .ref 0) none) → Rv S (T.ktp [(T.str ("to" : Str)), (T.str ("name" : Str)), (T.str ("from" : Str)), (T.str ("from" : Str))]) (.ref p_SHAPES_k2) := fun S e => rv_ktp (by rw [e]; exact ⟨_, _, _, zy_SHAPES_k2, rfl, rfl, zx_SHAPES_k2, zw_SHAPES_k2⟩) (RvL.cons (by simp only [Rv]) (RvL.cons (by simp only [Rv]) (RvL.cons (by simp only [Rv]) (RvL.cons (by simp only [Rv]) RvL.nil))))
  have kk_SHAPES_k3 : ∀ S : Sta, S.G = (M.Env.mk K (fun s => if s = "BadFlow" then C_BadFlow else if s = "Flow" then C_Flow else if s = "RunsError" then C_RunsError else if s = "BadSpot" then C_BadSpot else if s = "BadSite" then C_BadSite else if s = "BadRow" then C_BadRow else if s = "BadLine" then C_BadLine else 0) (fun s => if s = "SHAPES" then (.ref d_SHAPES) else if s = "TESTS" then (.ref d_TESTS) else if s = "fits_variable" then (.ref f24) else if s = "fits_variables" then (.ref f23) else if s = "fits_word" then (.ref f22) else if s = "fits_many" then (.ref f28) else if s = "fits_operation" then (.ref f26) else if s = "fits_name" then (.ref f27) else if s = "fits_row" then (.ref f25) else if s = "fits_chain" then (.ref f30) else if s = "fits_block" then (.ref f31) else if s = "fits_later" then (.ref f29) else .ref 0) none) → Rv S (T.ktp [(T.str ("to" : Str)), (T.str ("name" : Str)), (T.str ("from" : Str)), (T.str ("word" : Str))]) (.ref p_SHAPES_k3) := fun S e => rv_ktp (by rw [e]; exact ⟨_, _, _, zy_SHAPES_k3, rfl, rfl, zx_SHAPES_k3, zw_SHAPES_k3⟩) (RvL.cons (by simp only [Rv]) (RvL.cons (by simp only [Rv]) (RvL.cons (by simp only [Rv]) (RvL.cons (by simp only [Rv]) RvL.nil))))
  have kk_SHAPES_k4 : ∀ S : Sta, S.G = (M.Env.mk K (fun s => if s = "BadFlow" then C_BadFlow else if s = "Flow" then C_Flow else if s = "RunsError" then C_RunsError else if s = "BadSpot" then C_BadSpot else if s = "BadSite" then C_BadSite else if s = "BadRow" then C_BadRow else if s = "BadLine" then C_BadLine else 0) (fun s => if s = "SHAPES" then (.ref d_SHAPES) else if s = "TESTS" then (.ref d_TESTS) else if s = "fits_variable" then (.ref f24) else if s = "fits_variables" then (.ref f23) else if s = "fits_word" then (.ref f22) else if s = "fits_many" then (.ref f28) else if s = "fits_operation" then (.ref f26) else if s = "fits_name" then (.ref f27) else if s = "fits_row" then (.ref f25) else if s = "fits_chain" then (.ref f30) else if s = "fits_block" then (.ref f31) else if s = "fits_later" then (.ref f29) else .ref 0) none) → Rv S (T.ktp [(T.str ("to" : Str)), (T.str ("global" : Str))]) (.ref p_SHAPES_k4) := fun S e => rv_ktp (by rw [e]; exact ⟨_, _, _, zy_SHAPES_k4, rfl, rfl, zx_SHAPES_k4, zw_SHAPES_k4⟩) (RvL.cons (by simp only [Rv]) (RvL.cons (by simp only [Rv]) RvL.nil))
  have kk_SHAPES_k5 : ∀ S : Sta, S.G = (M.Env.mk K (fun s => if s = "BadFlow" then C_BadFlow else if s = "Flow" then C_Flow else if s = "RunsError" then C_RunsError else if s = "BadSpot" then C_BadSpot else if s = "BadSite" then C_BadSite else if s = "BadRow" then C_BadRow else if s = "BadLine" then C_BadLine else 0) (fun s => if s = "SHAPES" then (.ref d_SHAPES) else if s = "TESTS" then (.ref d_TESTS) else if s = "fits_variable" then (.ref f24) else if s = "fits_variables" then (.ref f23) else if s = "fits_word" then (.ref f22) else if s = "fits_many" then (.ref f28) else if s = "fits_operation" then (.ref f26) else if s = "fits_name" then (.ref f27) else if s = "fits_row" then (.ref f25) else if s = "fits_chain" then (.ref f30) else if s = "fits_block" then (.ref f31) else if s = "fits_later" then (.ref f29) else .ref 0) none) → Rv S (T.ktp [(T.str ("to" : Str)), (T.str ("row" : Str)), (T.str ("from" : Str))]) (.ref p_SHAPES_k5) := fun S e => rv_ktp (by rw [e]; exact ⟨_, _, _, zy_SHAPES_k5, rfl, rfl, zx_SHAPES_k5, zw_SHAPES_k5⟩) (RvL.cons (by simp only [Rv]) (RvL.cons (by simp only [Rv]) (RvL.cons (by simp only [Rv]) RvL.nil)))
  have kk_SHAPES_k6 : ∀ S : Sta, S.G = (M.Env.mk K (fun s => if s = "BadFlow" then C_BadFlow else if s = "Flow" then C_Flow else if s = "RunsError" then C_RunsError else if s = "BadSpot" then C_BadSpot else if s = "BadSite" then C_BadSite else if s = "BadRow" then C_BadRow else if s = "BadLine" then C_BadLine else 0) (fun s => if s = "SHAPES" then (.ref d_SHAPES) else if s = "TESTS" then (.ref d_TESTS) else if s = "fits_variable" then (.ref f24) else if s = "fits_variables" then (.ref f23) else if s = "fits_word" then (.ref f22) else if s = "fits_many" then (.ref f28) else if s = "fits_operation" then (.ref f26) else if s = "fits_name" then (.ref f27) else if s = "fits_row" then (.ref f25) else if s = "fits_chain" then (.ref f30) else if s = "fits_block" then (.ref f31) else if s = "fits_later" then (.ref f29) else .ref 0) none) → Rv S (T.ktp [(T.str ("tos" : Str)), (T.str ("froms" : Str))]) (.ref p_SHAPES_k6) := fun S e => rv_ktp (by rw [e]; exact ⟨_, _, _, zy_SHAPES_k6, rfl, rfl, zx_SHAPES_k6, zw_SHAPES_k6⟩) (RvL.cons (by simp only [Rv]) (RvL.cons (by simp only [Rv]) RvL.nil))
  have kk_SHAPES_k7 : ∀ S : Sta, S.G = (M.Env.mk K (fun s => if s = "BadFlow" then C_BadFlow else if s = "Flow" then C_Flow else if s = "RunsError" then C_RunsError else if s = "BadSpot" then C_BadSpot else if s = "BadSite" then C_BadSite else if s = "BadRow" then C_BadRow else if s = "BadLine" then C_BadLine else 0) (fun s => if s = "SHAPES" then (.ref d_SHAPES) else if s = "TESTS" then (.ref d_TESTS) else if s = "fits_variable" then (.ref f24) else if s = "fits_variables" then (.ref f23) else if s = "fits_word" then (.ref f22) else if s = "fits_many" then (.ref f28) else if s = "fits_operation" then (.ref f26) else if s = "fits_name" then (.ref f27) else if s = "fits_row" then (.ref f25) else if s = "fits_chain" then (.ref f30) else if s = "fits_block" then (.ref f31) else if s = "fits_later" then (.ref f29) else .ref 0) none) → Rv S (T.ktp []) (.ref p_SHAPES_k7) := fun S e => rv_ktp (by rw [e]; exact ⟨_, _, _, zy_SHAPES_k7, rfl, rfl, zx_SHAPES_k7, zw_SHAPES_k7⟩) RvL.nil
  have kk_SHAPES_k8 : ∀ S : Sta, S.G = (M.Env.mk K (fun s => if s = "BadFlow" then C_BadFlow else if s = "Flow" then C_Flow else if s = "RunsError" then C_RunsError else if s = "BadSpot" then C_BadSpot else if s = "BadSite" then C_BadSite else if s = "BadRow" then C_BadRow else if s = "BadLine" then C_BadLine else 0) (fun s => if s = "SHAPES" then (.ref d_SHAPES) else if s = "TESTS" then (.ref d_TESTS) else if s = "fits_variable" then (.ref f24) else if s = "fits_variables" then (.ref f23) else if s = "fits_word" then (.ref f22) else if s = "fits_many" then (.ref f28) else if s = "fits_operation" then (.ref f26) else if s = "fits_name" then (.ref f27) else if s = "fits_row" then (.ref f25) else if s = "fits_chain" then (.ref f30) else if s = "fits_block" then (.ref f31) else if s = "fits_later" then (.ref f29) else .ref 0) none) → Rv S (T.ktp [(T.str ("global" : Str)), (T.str ("from" : Str))]) (.ref p_SHAPES_k8) := fun S e => rv_ktp (by rw [e]; exact ⟨_, _, _, zy_SHAPES_k8, rfl, rfl, zx_SHAPES_k8, zw_SHAPES_k8⟩) (RvL.cons (by simp only [Rv]) (RvL.cons (by simp only [Rv]) RvL.nil))
  have kk_SHAPES_k9 : ∀ S : Sta, S.G = (M.Env.mk K (fun s => if s = "BadFlow" then C_BadFlow else if s = "Flow" then C_Flow else if s = "RunsError" then C_RunsError else if s = "BadSpot" then C_BadSpot else if s = "BadSite" then C_BadSite else if s = "BadRow" then C_BadRow else if s = "BadLine" then C_BadLine else 0) (fun s => if s = "SHAPES" then (.ref d_SHAPES) else if s = "TESTS" then (.ref d_TESTS) else if s = "fits_variable" then (.ref f24) else if s = "fits_variables" then (.ref f23) else if s = "fits_word" then (.ref f22) else if s = "fits_many" then (.ref f28) else if s = "fits_operation" then (.ref f26) else if s = "fits_name" then (.ref f27) else if s = "fits_row" then (.ref f25) else if s = "fits_chain" then (.ref f30) else if s = "fits_block" then (.ref f31) else if s = "fits_later" then (.ref f29) else .ref 0) none) → Rv S (T.ktp [(T.str ("row" : Str)), (T.str ("from" : Str)), (T.str ("from" : Str))]) (.ref p_SHAPES_k9) := fun S e => rv_ktp (by rw [e]; exact ⟨_, _, _, zy_SHAPES_k9, rfl, rfl, zx_SHAPES_k9, zw_SHAPES_k9⟩) (RvL.cons (by simp only [Rv]) (RvL.cons (by simp only [Rv]) (RvL.cons (by simp only [Rv]) RvL.nil)))
  have kk_SHAPES_k10 : ∀ S : Sta, S.G = (M.Env.mk K (fun s => if s = "BadFlow" then C_BadFlow else if s = "Flow" then C_Flow else if s = "RunsError" then C_RunsError else if s = "BadSpot" then C_BadSpot else if s = "BadSite" then C_BadSite else if s = "BadRow" then C_BadRow else if s = "BadLine" then C_BadLine else 0) (fun s => if s = "SHAPES" then (.ref d_SHAPES) else if s = "TESTS" then (.ref d_TESTS) else if s = "fits_variable" then (.ref f24) else if s = "fits_variables" then (.ref f23) else if s = "fits_word" then (.ref f22) else if s = "fits_many" then (.ref f28) else if s = "fits_operation" then (.ref f26) else if s = "fits_name" then (.ref f27) else if s = "fits_row" then (.ref f25) else if s = "fits_chain" then (.ref f30) else if s = "fits_block" then (.ref f31) else if s = "fits_later" then (.ref f29) else .ref 0) none) → Rv S (T.ktp [(T.str ("from" : Str)), (T.str ("at" : Str))]) (.ref p_SHAPES_k10) := fun S e => rv_ktp (by rw [e]; exact ⟨_, _, _, zy_SHAPES_k10, rfl, rfl, zx_SHAPES_k10, zw_SHAPES_k10⟩) (RvL.cons (by simp only [Rv]) (RvL.cons (by simp only [Rv]) RvL.nil))
  have kk_SHAPES_k11 : ∀ S : Sta, S.G = (M.Env.mk K (fun s => if s = "BadFlow" then C_BadFlow else if s = "Flow" then C_Flow else if s = "RunsError" then C_RunsError else if s = "BadSpot" then C_BadSpot else if s = "BadSite" then C_BadSite else if s = "BadRow" then C_BadRow else if s = "BadLine" then C_BadLine else 0) (fun s => if s = "SHAPES" then (.ref d_SHAPES) else if s = "TESTS" then (.ref d_TESTS) else if s = "fits_variable" then (.ref f24) else if s = "fits_variables" then (.ref f23) else if s = "fits_word" then (.ref f22) else if s = "fits_many" then (.ref f28) else if s = "fits_operation" then (.ref f26) else if s = "fits_name" then (.ref f27) else if s = "fits_row" then (.ref f25) else if s = "fits_chain" then (.ref f30) else if s = "fits_block" then (.ref f31) else if s = "fits_later" then (.ref f29) else .ref 0) none) → Rv S (T.ktp [(T.str ("from" : Str)), (T.str ("many" : Str)), (T.str ("at" : Str))]) (.ref p_SHAPES_k11) := fun S e => rv_ktp (by rw [e]; exact ⟨_, _, _, zy_SHAPES_k11, rfl, rfl, zx_SHAPES_k11, zw_SHAPES_k11⟩) (RvL.cons (by simp only [Rv]) (RvL.cons (by simp only [Rv]) (RvL.cons (by simp only [Rv]) RvL.nil)))
  have kk_SHAPES_k12 : ∀ S : Sta, S.G = (M.Env.mk K (fun s => if s = "BadFlow" then C_BadFlow else if s = "Flow" then C_Flow else if s = "RunsError" then C_RunsError else if s = "BadSpot" then C_BadSpot else if s = "BadSite" then C_BadSite else if s = "BadRow" then C_BadRow else if s = "BadLine" then C_BadLine else 0) (fun s => if s = "SHAPES" then (.ref d_SHAPES) else if s = "TESTS" then (.ref d_TESTS) else if s = "fits_variable" then (.ref f24) else if s = "fits_variables" then (.ref f23) else if s = "fits_word" then (.ref f22) else if s = "fits_many" then (.ref f28) else if s = "fits_operation" then (.ref f26) else if s = "fits_name" then (.ref f27) else if s = "fits_row" then (.ref f25) else if s = "fits_chain" then (.ref f30) else if s = "fits_block" then (.ref f31) else if s = "fits_later" then (.ref f29) else .ref 0) none) → Rv S (T.ktp [(T.str ("many" : Str)), (T.str ("at" : Str))]) (.ref p_SHAPES_k12) := fun S e => rv_ktp (by rw [e]; exact ⟨_, _, _, zy_SHAPES_k12, rfl, rfl, zx_SHAPES_k12, zw_SHAPES_k12⟩) (RvL.cons (by simp only [Rv]) (RvL.cons (by simp only [Rv]) RvL.nil))
  have kk_SHAPES_k13 : ∀ S : Sta, S.G = (M.Env.mk K (fun s => if s = "BadFlow" then C_BadFlow else if s = "Flow" then C_Flow else if s = "RunsError" then C_RunsError else if s = "BadSpot" then C_BadSpot else if s = "BadSite" then C_BadSite else if s = "BadRow" then C_BadRow else if s = "BadLine" then C_BadLine else 0) (fun s => if s = "SHAPES" then (.ref d_SHAPES) else if s = "TESTS" then (.ref d_TESTS) else if s = "fits_variable" then (.ref f24) else if s = "fits_variables" then (.ref f23) else if s = "fits_word" then (.ref f22) else if s = "fits_many" then (.ref f28) else if s = "fits_operation" then (.ref f26) else if s = "fits_name" then (.ref f27) else if s = "fits_row" then (.ref f25) else if s = "fits_chain" then (.ref f30) else if s = "fits_block" then (.ref f31) else if s = "fits_later" then (.ref f29) else .ref 0) none) → Rv S (T.ktp [(T.str ("to" : Str)), (T.str ("function" : Str)), (T.str ("froms" : Str)), (T.str ("at" : Str))]) (.ref p_SHAPES_k13) := fun S e => rv_ktp (by rw [e]; exact ⟨_, _, _, zy_SHAPES_k13, rfl, rfl, zx_SHAPES_k13, zw_SHAPES_k13⟩) (RvL.cons (by simp only [Rv]) (RvL.cons (by simp only [Rv]) (RvL.cons (by simp only [Rv]) (RvL.cons (by simp only [Rv]) RvL.nil))))
  have kk_SHAPES_k14 : ∀ S : Sta, S.G = (M.Env.mk K (fun s => if s = "BadFlow" then C_BadFlow else if s = "Flow" then C_Flow else if s = "RunsError" then C_RunsError else if s = "BadSpot" then C_BadSpot else if s = "BadSite" then C_BadSite else if s = "BadRow" then C_BadRow else if s = "BadLine" then C_BadLine else 0) (fun s => if s = "SHAPES" then (.ref d_SHAPES) else if s = "TESTS" then (.ref d_TESTS) else if s = "fits_variable" then (.ref f24) else if s = "fits_variables" then (.ref f23) else if s = "fits_word" then (.ref f22) else if s = "fits_many" then (.ref f28) else if s = "fits_operation" then (.ref f26) else if s = "fits_name" then (.ref f27) else if s = "fits_row" then (.ref f25) else if s = "fits_chain" then (.ref f30) else if s = "fits_block" then (.ref f31) else if s = "fits_later" then (.ref f29) else .ref 0) none) → Rv S (T.ktp [(T.str ("from" : Str)), (T.str ("at" : Str))]) (.ref p_SHAPES_k14) := fun S e => rv_ktp (by rw [e]; exact ⟨_, _, _, zy_SHAPES_k14, rfl, rfl, zx_SHAPES_k14, zw_SHAPES_k14⟩) (RvL.cons (by simp only [Rv]) (RvL.cons (by simp only [Rv]) RvL.nil))
  have kk_SHAPES_k15 : ∀ S : Sta, S.G = (M.Env.mk K (fun s => if s = "BadFlow" then C_BadFlow else if s = "Flow" then C_Flow else if s = "RunsError" then C_RunsError else if s = "BadSpot" then C_BadSpot else if s = "BadSite" then C_BadSite else if s = "BadRow" then C_BadRow else if s = "BadLine" then C_BadLine else 0) (fun s => if s = "SHAPES" then (.ref d_SHAPES) else if s = "TESTS" then (.ref d_TESTS) else if s = "fits_variable" then (.ref f24) else if s = "fits_variables" then (.ref f23) else if s = "fits_word" then (.ref f22) else if s = "fits_many" then (.ref f28) else if s = "fits_operation" then (.ref f26) else if s = "fits_name" then (.ref f27) else if s = "fits_row" then (.ref f25) else if s = "fits_chain" then (.ref f30) else if s = "fits_block" then (.ref f31) else if s = "fits_later" then (.ref f29) else .ref 0) none) → Rv S (T.ktp [(T.str ("block" : Str))]) (.ref p_SHAPES_k15) := fun S e => rv_ktp (by rw [e]; exact ⟨_, _, _, zy_SHAPES_k15, rfl, rfl, zx_SHAPES_k15, zw_SHAPES_k15⟩) (RvL.cons (by simp only [Rv]) RvL.nil)
  have kk_SHAPES_k16 : ∀ S : Sta, S.G = (M.Env.mk K (fun s => if s = "BadFlow" then C_BadFlow else if s = "Flow" then C_Flow else if s = "RunsError" then C_RunsError else if s = "BadSpot" then C_BadSpot else if s = "BadSite" then C_BadSite else if s = "BadRow" then C_BadRow else if s = "BadLine" then C_BadLine else 0) (fun s => if s = "SHAPES" then (.ref d_SHAPES) else if s = "TESTS" then (.ref d_TESTS) else if s = "fits_variable" then (.ref f24) else if s = "fits_variables" then (.ref f23) else if s = "fits_word" then (.ref f22) else if s = "fits_many" then (.ref f28) else if s = "fits_operation" then (.ref f26) else if s = "fits_name" then (.ref f27) else if s = "fits_row" then (.ref f25) else if s = "fits_chain" then (.ref f30) else if s = "fits_block" then (.ref f31) else if s = "fits_later" then (.ref f29) else .ref 0) none) → Rv S (T.ktp [(T.str ("from" : Str)), (T.str ("later" : Str)), (T.str ("later" : Str))]) (.ref p_SHAPES_k16) := fun S e => rv_ktp (by rw [e]; exact ⟨_, _, _, zy_SHAPES_k16, rfl, rfl, zx_SHAPES_k16, zw_SHAPES_k16⟩) (RvL.cons (by simp only [Rv]) (RvL.cons (by simp only [Rv]) (RvL.cons (by simp only [Rv]) RvL.nil)))
  have kk_SHAPES_k17 : ∀ S : Sta, S.G = (M.Env.mk K (fun s => if s = "BadFlow" then C_BadFlow else if s = "Flow" then C_Flow else if s = "RunsError" then C_RunsError else if s = "BadSpot" then C_BadSpot else if s = "BadSite" then C_BadSite else if s = "BadRow" then C_BadRow else if s = "BadLine" then C_BadLine else 0) (fun s => if s = "SHAPES" then (.ref d_SHAPES) else if s = "TESTS" then (.ref d_TESTS) else if s = "fits_variable" then (.ref f24) else if s = "fits_variables" then (.ref f23) else if s = "fits_word" then (.ref f22) else if s = "fits_many" then (.ref f28) else if s = "fits_operation" then (.ref f26) else if s = "fits_name" then (.ref f27) else if s = "fits_row" then (.ref f25) else if s = "fits_chain" then (.ref f30) else if s = "fits_block" then (.ref f31) else if s = "fits_later" then (.ref f29) else .ref 0) none) → Rv S (T.ktp [(T.str ("from" : Str))]) (.ref p_SHAPES_k17) := fun S e => rv_ktp (by rw [e]; exact ⟨_, _, _, zy_SHAPES_k17, rfl, rfl, zx_SHAPES_k17, zw_SHAPES_k17⟩) (RvL.cons (by simp only [Rv]) RvL.nil)
  have kr_SHAPES : KRows (M.Env.mk K (fun s => if s = "BadFlow" then C_BadFlow else if s = "Flow" then C_Flow else if s = "RunsError" then C_RunsError else if s = "BadSpot" then C_BadSpot else if s = "BadSite" then C_BadSite else if s = "BadRow" then C_BadRow else if s = "BadLine" then C_BadLine else 0) (fun s => if s = "SHAPES" then (.ref d_SHAPES) else if s = "TESTS" then (.ref d_TESTS) else if s = "fits_variable" then (.ref f24) else if s = "fits_variables" then (.ref f23) else if s = "fits_word" then (.ref f22) else if s = "fits_many" then (.ref f28) else if s = "fits_operation" then (.ref f26) else if s = "fits_name" then (.ref f27) else if s = "fits_row" then (.ref f25) else if s = "fits_chain" then (.ref f30) else if s = "fits_block" then (.ref f31) else if s = "fits_later" then (.ref f29) else .ref 0) none) d_SHAPES rows_SHAPES := by
    intro r hr
    simp only [rows_SHAPES, List.mem_cons, List.not_mem_nil, or_false] at hr
    rcases hr with rfl | rfl | rfl | rfl | rfl | rfl | rfl | rfl | rfl | rfl | rfl | rfl | rfl | rfl | rfl | rfl | rfl | rfl | rfl | rfl | rfl | rfl | rfl | rfl | rfl
    · exact ⟨_, .ref p_SHAPES_k0, ze_SHAPES_k0, rfl, kk_SHAPES_k0⟩
    · exact ⟨_, .ref p_SHAPES_k1, ze_SHAPES_k1, rfl, kk_SHAPES_k1⟩
    · exact ⟨_, .ref p_SHAPES_k2, ze_SHAPES_k2, rfl, kk_SHAPES_k2⟩
    · exact ⟨_, .ref p_SHAPES_k3, ze_SHAPES_k3, rfl, kk_SHAPES_k3⟩
    · exact ⟨_, .ref p_SHAPES_k4, ze_SHAPES_k4, rfl, kk_SHAPES_k4⟩
    · exact ⟨_, .ref p_SHAPES_k5, ze_SHAPES_k5, rfl, kk_SHAPES_k5⟩
    · exact ⟨_, .ref p_SHAPES_k6, ze_SHAPES_k6, rfl, kk_SHAPES_k6⟩
    · exact ⟨_, .ref p_SHAPES_k7, ze_SHAPES_k7, rfl, kk_SHAPES_k7⟩
    · exact ⟨_, .ref p_SHAPES_k8, ze_SHAPES_k8, rfl, kk_SHAPES_k8⟩
    · exact ⟨_, .ref p_SHAPES_k9, ze_SHAPES_k9, rfl, kk_SHAPES_k9⟩
    · exact ⟨_, .ref p_SHAPES_k10, ze_SHAPES_k10, rfl, kk_SHAPES_k10⟩
    · exact ⟨_, .ref p_SHAPES_k11, ze_SHAPES_k11, rfl, kk_SHAPES_k11⟩
    · exact ⟨_, .ref p_SHAPES_k12, ze_SHAPES_k12, rfl, kk_SHAPES_k12⟩
    · exact ⟨_, .ref p_SHAPES_k13, ze_SHAPES_k13, rfl, kk_SHAPES_k13⟩
    · exact ⟨_, .ref p_SHAPES_k14, ze_SHAPES_k14, rfl, kk_SHAPES_k14⟩
    · exact ⟨_, .ref p_SHAPES_k15, ze_SHAPES_k15, rfl, kk_SHAPES_k15⟩
    · exact ⟨_, .ref p_SHAPES_k16, ze_SHAPES_k16, rfl, kk_SHAPES_k16⟩
    · exact ⟨_, .ref p_SHAPES_k17, ze_SHAPES_k17, rfl, kk_SHAPES_k17⟩
    · exact ze_SHAPES_m0
    · exact ze_SHAPES_m1
    · exact ze_SHAPES_m2
    · exact ze_SHAPES_m3
    · exact ze_SHAPES_m4
    · exact ze_SHAPES_m5
    · exact ze_SHAPES_m6
  have D_TESTS : KDict K w d_TESTS es_TESTS n_TESTS := ⟨zD_TESTS, zL_TESTS, zS_TESTS⟩
  have kr_TESTS : KRows (M.Env.mk K (fun s => if s = "BadFlow" then C_BadFlow else if s = "Flow" then C_Flow else if s = "RunsError" then C_RunsError else if s = "BadSpot" then C_BadSpot else if s = "BadSite" then C_BadSite else if s = "BadRow" then C_BadRow else if s = "BadLine" then C_BadLine else 0) (fun s => if s = "SHAPES" then (.ref d_SHAPES) else if s = "TESTS" then (.ref d_TESTS) else if s = "fits_variable" then (.ref f24) else if s = "fits_variables" then (.ref f23) else if s = "fits_word" then (.ref f22) else if s = "fits_many" then (.ref f28) else if s = "fits_operation" then (.ref f26) else if s = "fits_name" then (.ref f27) else if s = "fits_row" then (.ref f25) else if s = "fits_chain" then (.ref f30) else if s = "fits_block" then (.ref f31) else if s = "fits_later" then (.ref f29) else .ref 0) none) d_TESTS rows_TESTS := by
    intro r hr
    simp only [rows_TESTS, List.mem_cons, List.not_mem_nil, or_false] at hr
    rcases hr with rfl | rfl | rfl | rfl | rfl | rfl | rfl | rfl | rfl | rfl | rfl | rfl | rfl
    · exact ⟨_, .ref f24, ze_TESTS_k0, rfl, fun S e => by simp only [Rv]; rw [e]; exact (show (fun s => if s = "SHAPES" then (.ref d_SHAPES) else if s = "TESTS" then (.ref d_TESTS) else if s = "fits_variable" then (.ref f24) else if s = "fits_variables" then (.ref f23) else if s = "fits_word" then (.ref f22) else if s = "fits_many" then (.ref f28) else if s = "fits_operation" then (.ref f26) else if s = "fits_name" then (.ref f27) else if s = "fits_row" then (.ref f25) else if s = "fits_chain" then (.ref f30) else if s = "fits_block" then (.ref f31) else if s = "fits_later" then (.ref f29) else .ref 0 : Str → V) "fits_variable" = _ from ((if_neg (by decide +kernel)).trans ((if_neg (by decide +kernel)).trans (if_pos rfl)))).symm⟩
    · exact ⟨_, .ref f24, ze_TESTS_k1, rfl, fun S e => by simp only [Rv]; rw [e]; exact (show (fun s => if s = "SHAPES" then (.ref d_SHAPES) else if s = "TESTS" then (.ref d_TESTS) else if s = "fits_variable" then (.ref f24) else if s = "fits_variables" then (.ref f23) else if s = "fits_word" then (.ref f22) else if s = "fits_many" then (.ref f28) else if s = "fits_operation" then (.ref f26) else if s = "fits_name" then (.ref f27) else if s = "fits_row" then (.ref f25) else if s = "fits_chain" then (.ref f30) else if s = "fits_block" then (.ref f31) else if s = "fits_later" then (.ref f29) else .ref 0 : Str → V) "fits_variable" = _ from ((if_neg (by decide +kernel)).trans ((if_neg (by decide +kernel)).trans (if_pos rfl)))).symm⟩
    · exact ⟨_, .ref f23, ze_TESTS_k2, rfl, fun S e => by simp only [Rv]; rw [e]; exact (show (fun s => if s = "SHAPES" then (.ref d_SHAPES) else if s = "TESTS" then (.ref d_TESTS) else if s = "fits_variable" then (.ref f24) else if s = "fits_variables" then (.ref f23) else if s = "fits_word" then (.ref f22) else if s = "fits_many" then (.ref f28) else if s = "fits_operation" then (.ref f26) else if s = "fits_name" then (.ref f27) else if s = "fits_row" then (.ref f25) else if s = "fits_chain" then (.ref f30) else if s = "fits_block" then (.ref f31) else if s = "fits_later" then (.ref f29) else .ref 0 : Str → V) "fits_variables" = _ from ((if_neg (by decide +kernel)).trans ((if_neg (by decide +kernel)).trans ((if_neg (by decide +kernel)).trans (if_pos rfl))))).symm⟩
    · exact ⟨_, .ref f23, ze_TESTS_k3, rfl, fun S e => by simp only [Rv]; rw [e]; exact (show (fun s => if s = "SHAPES" then (.ref d_SHAPES) else if s = "TESTS" then (.ref d_TESTS) else if s = "fits_variable" then (.ref f24) else if s = "fits_variables" then (.ref f23) else if s = "fits_word" then (.ref f22) else if s = "fits_many" then (.ref f28) else if s = "fits_operation" then (.ref f26) else if s = "fits_name" then (.ref f27) else if s = "fits_row" then (.ref f25) else if s = "fits_chain" then (.ref f30) else if s = "fits_block" then (.ref f31) else if s = "fits_later" then (.ref f29) else .ref 0 : Str → V) "fits_variables" = _ from ((if_neg (by decide +kernel)).trans ((if_neg (by decide +kernel)).trans ((if_neg (by decide +kernel)).trans (if_pos rfl))))).symm⟩
    · exact ⟨_, .ref f22, ze_TESTS_k4, rfl, fun S e => by simp only [Rv]; rw [e]; exact (show (fun s => if s = "SHAPES" then (.ref d_SHAPES) else if s = "TESTS" then (.ref d_TESTS) else if s = "fits_variable" then (.ref f24) else if s = "fits_variables" then (.ref f23) else if s = "fits_word" then (.ref f22) else if s = "fits_many" then (.ref f28) else if s = "fits_operation" then (.ref f26) else if s = "fits_name" then (.ref f27) else if s = "fits_row" then (.ref f25) else if s = "fits_chain" then (.ref f30) else if s = "fits_block" then (.ref f31) else if s = "fits_later" then (.ref f29) else .ref 0 : Str → V) "fits_word" = _ from ((if_neg (by decide +kernel)).trans ((if_neg (by decide +kernel)).trans ((if_neg (by decide +kernel)).trans ((if_neg (by decide +kernel)).trans (if_pos rfl)))))).symm⟩
    · exact ⟨_, .ref f28, ze_TESTS_k5, rfl, fun S e => by simp only [Rv]; rw [e]; exact (show (fun s => if s = "SHAPES" then (.ref d_SHAPES) else if s = "TESTS" then (.ref d_TESTS) else if s = "fits_variable" then (.ref f24) else if s = "fits_variables" then (.ref f23) else if s = "fits_word" then (.ref f22) else if s = "fits_many" then (.ref f28) else if s = "fits_operation" then (.ref f26) else if s = "fits_name" then (.ref f27) else if s = "fits_row" then (.ref f25) else if s = "fits_chain" then (.ref f30) else if s = "fits_block" then (.ref f31) else if s = "fits_later" then (.ref f29) else .ref 0 : Str → V) "fits_many" = _ from ((if_neg (by decide +kernel)).trans ((if_neg (by decide +kernel)).trans ((if_neg (by decide +kernel)).trans ((if_neg (by decide +kernel)).trans ((if_neg (by decide +kernel)).trans (if_pos rfl))))))).symm⟩
    · exact ⟨_, .ref f26, ze_TESTS_k6, rfl, fun S e => by simp only [Rv]; rw [e]; exact (show (fun s => if s = "SHAPES" then (.ref d_SHAPES) else if s = "TESTS" then (.ref d_TESTS) else if s = "fits_variable" then (.ref f24) else if s = "fits_variables" then (.ref f23) else if s = "fits_word" then (.ref f22) else if s = "fits_many" then (.ref f28) else if s = "fits_operation" then (.ref f26) else if s = "fits_name" then (.ref f27) else if s = "fits_row" then (.ref f25) else if s = "fits_chain" then (.ref f30) else if s = "fits_block" then (.ref f31) else if s = "fits_later" then (.ref f29) else .ref 0 : Str → V) "fits_operation" = _ from ((if_neg (by decide +kernel)).trans ((if_neg (by decide +kernel)).trans ((if_neg (by decide +kernel)).trans ((if_neg (by decide +kernel)).trans ((if_neg (by decide +kernel)).trans ((if_neg (by decide +kernel)).trans (if_pos rfl)))))))).symm⟩
    · exact ⟨_, .ref f27, ze_TESTS_k7, rfl, fun S e => by simp only [Rv]; rw [e]; exact (show (fun s => if s = "SHAPES" then (.ref d_SHAPES) else if s = "TESTS" then (.ref d_TESTS) else if s = "fits_variable" then (.ref f24) else if s = "fits_variables" then (.ref f23) else if s = "fits_word" then (.ref f22) else if s = "fits_many" then (.ref f28) else if s = "fits_operation" then (.ref f26) else if s = "fits_name" then (.ref f27) else if s = "fits_row" then (.ref f25) else if s = "fits_chain" then (.ref f30) else if s = "fits_block" then (.ref f31) else if s = "fits_later" then (.ref f29) else .ref 0 : Str → V) "fits_name" = _ from ((if_neg (by decide +kernel)).trans ((if_neg (by decide +kernel)).trans ((if_neg (by decide +kernel)).trans ((if_neg (by decide +kernel)).trans ((if_neg (by decide +kernel)).trans ((if_neg (by decide +kernel)).trans ((if_neg (by decide +kernel)).trans (if_pos rfl))))))))).symm⟩
    · exact ⟨_, .ref f27, ze_TESTS_k8, rfl, fun S e => by simp only [Rv]; rw [e]; exact (show (fun s => if s = "SHAPES" then (.ref d_SHAPES) else if s = "TESTS" then (.ref d_TESTS) else if s = "fits_variable" then (.ref f24) else if s = "fits_variables" then (.ref f23) else if s = "fits_word" then (.ref f22) else if s = "fits_many" then (.ref f28) else if s = "fits_operation" then (.ref f26) else if s = "fits_name" then (.ref f27) else if s = "fits_row" then (.ref f25) else if s = "fits_chain" then (.ref f30) else if s = "fits_block" then (.ref f31) else if s = "fits_later" then (.ref f29) else .ref 0 : Str → V) "fits_name" = _ from ((if_neg (by decide +kernel)).trans ((if_neg (by decide +kernel)).trans ((if_neg (by decide +kernel)).trans ((if_neg (by decide +kernel)).trans ((if_neg (by decide +kernel)).trans ((if_neg (by decide +kernel)).trans ((if_neg (by decide +kernel)).trans (if_pos rfl))))))))).symm⟩
    · exact ⟨_, .ref f25, ze_TESTS_k9, rfl, fun S e => by simp only [Rv]; rw [e]; exact (show (fun s => if s = "SHAPES" then (.ref d_SHAPES) else if s = "TESTS" then (.ref d_TESTS) else if s = "fits_variable" then (.ref f24) else if s = "fits_variables" then (.ref f23) else if s = "fits_word" then (.ref f22) else if s = "fits_many" then (.ref f28) else if s = "fits_operation" then (.ref f26) else if s = "fits_name" then (.ref f27) else if s = "fits_row" then (.ref f25) else if s = "fits_chain" then (.ref f30) else if s = "fits_block" then (.ref f31) else if s = "fits_later" then (.ref f29) else .ref 0 : Str → V) "fits_row" = _ from ((if_neg (by decide +kernel)).trans ((if_neg (by decide +kernel)).trans ((if_neg (by decide +kernel)).trans ((if_neg (by decide +kernel)).trans ((if_neg (by decide +kernel)).trans ((if_neg (by decide +kernel)).trans ((if_neg (by decide +kernel)).trans ((if_neg (by decide +kernel)).trans (if_pos rfl)))))))))).symm⟩
    · exact ⟨_, .ref f30, ze_TESTS_k10, rfl, fun S e => by simp only [Rv]; rw [e]; exact (show (fun s => if s = "SHAPES" then (.ref d_SHAPES) else if s = "TESTS" then (.ref d_TESTS) else if s = "fits_variable" then (.ref f24) else if s = "fits_variables" then (.ref f23) else if s = "fits_word" then (.ref f22) else if s = "fits_many" then (.ref f28) else if s = "fits_operation" then (.ref f26) else if s = "fits_name" then (.ref f27) else if s = "fits_row" then (.ref f25) else if s = "fits_chain" then (.ref f30) else if s = "fits_block" then (.ref f31) else if s = "fits_later" then (.ref f29) else .ref 0 : Str → V) "fits_chain" = _ from ((if_neg (by decide +kernel)).trans ((if_neg (by decide +kernel)).trans ((if_neg (by decide +kernel)).trans ((if_neg (by decide +kernel)).trans ((if_neg (by decide +kernel)).trans ((if_neg (by decide +kernel)).trans ((if_neg (by decide +kernel)).trans ((if_neg (by decide +kernel)).trans ((if_neg (by decide +kernel)).trans (if_pos rfl))))))))))).symm⟩
    · exact ⟨_, .ref f31, ze_TESTS_k11, rfl, fun S e => by simp only [Rv]; rw [e]; exact (show (fun s => if s = "SHAPES" then (.ref d_SHAPES) else if s = "TESTS" then (.ref d_TESTS) else if s = "fits_variable" then (.ref f24) else if s = "fits_variables" then (.ref f23) else if s = "fits_word" then (.ref f22) else if s = "fits_many" then (.ref f28) else if s = "fits_operation" then (.ref f26) else if s = "fits_name" then (.ref f27) else if s = "fits_row" then (.ref f25) else if s = "fits_chain" then (.ref f30) else if s = "fits_block" then (.ref f31) else if s = "fits_later" then (.ref f29) else .ref 0 : Str → V) "fits_block" = _ from ((if_neg (by decide +kernel)).trans ((if_neg (by decide +kernel)).trans ((if_neg (by decide +kernel)).trans ((if_neg (by decide +kernel)).trans ((if_neg (by decide +kernel)).trans ((if_neg (by decide +kernel)).trans ((if_neg (by decide +kernel)).trans ((if_neg (by decide +kernel)).trans ((if_neg (by decide +kernel)).trans ((if_neg (by decide +kernel)).trans (if_pos rfl)))))))))))).symm⟩
    · exact ⟨_, .ref f29, ze_TESTS_k12, rfl, fun S e => by simp only [Rv]; rw [e]; exact (show (fun s => if s = "SHAPES" then (.ref d_SHAPES) else if s = "TESTS" then (.ref d_TESTS) else if s = "fits_variable" then (.ref f24) else if s = "fits_variables" then (.ref f23) else if s = "fits_word" then (.ref f22) else if s = "fits_many" then (.ref f28) else if s = "fits_operation" then (.ref f26) else if s = "fits_name" then (.ref f27) else if s = "fits_row" then (.ref f25) else if s = "fits_chain" then (.ref f30) else if s = "fits_block" then (.ref f31) else if s = "fits_later" then (.ref f29) else .ref 0 : Str → V) "fits_later" = _ from ((if_neg (by decide +kernel)).trans ((if_neg (by decide +kernel)).trans ((if_neg (by decide +kernel)).trans ((if_neg (by decide +kernel)).trans ((if_neg (by decide +kernel)).trans ((if_neg (by decide +kernel)).trans ((if_neg (by decide +kernel)).trans ((if_neg (by decide +kernel)).trans ((if_neg (by decide +kernel)).trans ((if_neg (by decide +kernel)).trans ((if_neg (by decide +kernel)).trans (if_pos rfl))))))))))))).symm⟩
  have kk_ENDS : ∀ S : Sta, S.G = (M.Env.mk K (fun s => if s = "BadFlow" then C_BadFlow else if s = "Flow" then C_Flow else if s = "RunsError" then C_RunsError else if s = "BadSpot" then C_BadSpot else if s = "BadSite" then C_BadSite else if s = "BadRow" then C_BadRow else if s = "BadLine" then C_BadLine else 0) (fun s => if s = "SHAPES" then (.ref d_SHAPES) else if s = "TESTS" then (.ref d_TESTS) else if s = "fits_variable" then (.ref f24) else if s = "fits_variables" then (.ref f23) else if s = "fits_word" then (.ref f22) else if s = "fits_many" then (.ref f28) else if s = "fits_operation" then (.ref f26) else if s = "fits_name" then (.ref f27) else if s = "fits_row" then (.ref f25) else if s = "fits_chain" then (.ref f30) else if s = "fits_block" then (.ref f31) else if s = "fits_later" then (.ref f29) else .ref 0) none) → Rv S (T.ktp [(T.str ("jump" : Str)), (T.str ("fork" : Str)), (T.str ("back" : Str))]) (.ref p_ENDS) := fun S e => rv_ktp (by rw [e]; exact ⟨_, _, _, zy_ENDS, rfl, rfl, zx_ENDS, zw_ENDS⟩) (RvL.cons (by simp only [Rv]) (RvL.cons (by simp only [Rv]) (RvL.cons (by simp only [Rv]) RvL.nil)))
  have nonfaP : ∀ a : Str, (fun s => if s = "SHAPES" then (.ref d_SHAPES) else if s = "TESTS" then (.ref d_TESTS) else if s = "fits_variable" then (.ref f24) else if s = "fits_variables" then (.ref f23) else if s = "fits_word" then (.ref f22) else if s = "fits_many" then (.ref f28) else if s = "fits_operation" then (.ref f26) else if s = "fits_name" then (.ref f27) else if s = "fits_row" then (.ref f25) else if s = "fits_chain" then (.ref f30) else if s = "fits_block" then (.ref f31) else if s = "fits_later" then (.ref f29) else .ref 0 : Str → V) a ≠ .non := fun a => nf_ite (nf_ite (nf_ite (nf_ite (nf_ite (nf_ite (nf_ite (nf_ite (nf_ite (nf_ite (nf_ite (nf_ite (nf_ref))))))))))))
  have O0 := ok__law_pool (P := l.prog) (w := w) (mg := mg) (base := base) (ca := fun s => if s = "BadFlow" then C_BadFlow else if s = "Flow" then C_Flow else if s = "RunsError" then C_RunsError else if s = "BadSpot" then C_BadSpot else if s = "BadSite" then C_BadSite else if s = "BadRow" then C_BadRow else if s = "BadLine" then C_BadLine else 0) (fa := fun s => if s = "SHAPES" then (.ref d_SHAPES) else if s = "TESTS" then (.ref d_TESTS) else if s = "fits_variable" then (.ref f24) else if s = "fits_variables" then (.ref f23) else if s = "fits_word" then (.ref f22) else if s = "fits_many" then (.ref f28) else if s = "fits_operation" then (.ref f26) else if s = "fits_name" then (.ref f27) else if s = "fits_row" then (.ref f25) else if s = "fits_chain" then (.ref f30) else if s = "fits_block" then (.ref f31) else if s = "fits_later" then (.ref f29) else .ref 0) F0 (PySem.W.mg_none_of X G z_list)
  have C0 : Callee l.prog w K mg base 1 f0 _ "_law_pool" _ (spM (M.Env.mk K (fun s => if s = "BadFlow" then C_BadFlow else if s = "Flow" then C_Flow else if s = "RunsError" then C_RunsError else if s = "BadSpot" then C_BadSpot else if s = "BadSite" then C_BadSite else if s = "BadRow" then C_BadRow else if s = "BadLine" then C_BadLine else 0) (fun s => if s = "SHAPES" then (.ref d_SHAPES) else if s = "TESTS" then (.ref d_TESTS) else if s = "fits_variable" then (.ref f24) else if s = "fits_variables" then (.ref f23) else if s = "fits_word" then (.ref f22) else if s = "fits_many" then (.ref f28) else if s = "fits_operation" then (.ref f26) else if s = "fits_name" then (.ref f27) else if s = "fits_row" then (.ref f25) else if s = "fits_chain" then (.ref f30) else if s = "fits_block" then (.ref f31) else if s = "fits_later" then (.ref f29) else .ref 0) none) 1 m__law_pool) := ⟨O0, k0, B0, PySem.W.mg_of X G a0⟩
  have O1 := ok__law_draw (P := l.prog) (w := w) (mg := mg) (base := base) (ca := fun s => if s = "BadFlow" then C_BadFlow else if s = "Flow" then C_Flow else if s = "RunsError" then C_RunsError else if s = "BadSpot" then C_BadSpot else if s = "BadSite" then C_BadSite else if s = "BadRow" then C_BadRow else if s = "BadLine" then C_BadLine else 0) (fa := fun s => if s = "SHAPES" then (.ref d_SHAPES) else if s = "TESTS" then (.ref d_TESTS) else if s = "fits_variable" then (.ref f24) else if s = "fits_variables" then (.ref f23) else if s = "fits_word" then (.ref f22) else if s = "fits_many" then (.ref f28) else if s = "fits_operation" then (.ref f26) else if s = "fits_name" then (.ref f27) else if s = "fits_row" then (.ref f25) else if s = "fits_chain" then (.ref f30) else if s = "fits_block" then (.ref f31) else if s = "fits_later" then (.ref f29) else .ref 0) F1 (PySem.W.mg_none_of X G z_len) (PySem.W.mg_none_of X G z_abs) (PySem.W.mg_none_of X G z_int)
  have C1 : Callee l.prog w K mg base 1 f1 _ "_law_draw" _ (spM (M.Env.mk K (fun s => if s = "BadFlow" then C_BadFlow else if s = "Flow" then C_Flow else if s = "RunsError" then C_RunsError else if s = "BadSpot" then C_BadSpot else if s = "BadSite" then C_BadSite else if s = "BadRow" then C_BadRow else if s = "BadLine" then C_BadLine else 0) (fun s => if s = "SHAPES" then (.ref d_SHAPES) else if s = "TESTS" then (.ref d_TESTS) else if s = "fits_variable" then (.ref f24) else if s = "fits_variables" then (.ref f23) else if s = "fits_word" then (.ref f22) else if s = "fits_many" then (.ref f28) else if s = "fits_operation" then (.ref f26) else if s = "fits_name" then (.ref f27) else if s = "fits_row" then (.ref f25) else if s = "fits_chain" then (.ref f30) else if s = "fits_block" then (.ref f31) else if s = "fits_later" then (.ref f29) else .ref 0) none) 2 m__law_draw) := ⟨O1, k1, B1, PySem.W.mg_of X G a1⟩
  have O2 := ok__law_pick (P := l.prog) (w := w) (mg := mg) (base := base) (ca := fun s => if s = "BadFlow" then C_BadFlow else if s = "Flow" then C_Flow else if s = "RunsError" then C_RunsError else if s = "BadSpot" then C_BadSpot else if s = "BadSite" then C_BadSite else if s = "BadRow" then C_BadRow else if s = "BadLine" then C_BadLine else 0) (fa := fun s => if s = "SHAPES" then (.ref d_SHAPES) else if s = "TESTS" then (.ref d_TESTS) else if s = "fits_variable" then (.ref f24) else if s = "fits_variables" then (.ref f23) else if s = "fits_word" then (.ref f22) else if s = "fits_many" then (.ref f28) else if s = "fits_operation" then (.ref f26) else if s = "fits_name" then (.ref f27) else if s = "fits_row" then (.ref f25) else if s = "fits_chain" then (.ref f30) else if s = "fits_block" then (.ref f31) else if s = "fits_later" then (.ref f29) else .ref 0) F2 C1 (PySem.W.mg_none_of X G z_len)
  have C2 : Callee l.prog w K mg base 2 f2 _ "_law_pick" _ (spM (M.Env.mk K (fun s => if s = "BadFlow" then C_BadFlow else if s = "Flow" then C_Flow else if s = "RunsError" then C_RunsError else if s = "BadSpot" then C_BadSpot else if s = "BadSite" then C_BadSite else if s = "BadRow" then C_BadRow else if s = "BadLine" then C_BadLine else 0) (fun s => if s = "SHAPES" then (.ref d_SHAPES) else if s = "TESTS" then (.ref d_TESTS) else if s = "fits_variable" then (.ref f24) else if s = "fits_variables" then (.ref f23) else if s = "fits_word" then (.ref f22) else if s = "fits_many" then (.ref f28) else if s = "fits_operation" then (.ref f26) else if s = "fits_name" then (.ref f27) else if s = "fits_row" then (.ref f25) else if s = "fits_chain" then (.ref f30) else if s = "fits_block" then (.ref f31) else if s = "fits_later" then (.ref f29) else .ref 0) none) 2 m__law_pick) := ⟨O2, k2, B2, PySem.W.mg_of X G a2⟩
  have O3 := ok__law_table (P := l.prog) (w := w) (mg := mg) (base := base) (ca := fun s => if s = "BadFlow" then C_BadFlow else if s = "Flow" then C_Flow else if s = "RunsError" then C_RunsError else if s = "BadSpot" then C_BadSpot else if s = "BadSite" then C_BadSite else if s = "BadRow" then C_BadRow else if s = "BadLine" then C_BadLine else 0) (fa := fun s => if s = "SHAPES" then (.ref d_SHAPES) else if s = "TESTS" then (.ref d_TESTS) else if s = "fits_variable" then (.ref f24) else if s = "fits_variables" then (.ref f23) else if s = "fits_word" then (.ref f22) else if s = "fits_many" then (.ref f28) else if s = "fits_operation" then (.ref f26) else if s = "fits_name" then (.ref f27) else if s = "fits_row" then (.ref f25) else if s = "fits_chain" then (.ref f30) else if s = "fits_block" then (.ref f31) else if s = "fits_later" then (.ref f29) else .ref 0) F3
  have C3 : Callee l.prog w K mg base 1 f3 _ "_law_table" _ (spM (M.Env.mk K (fun s => if s = "BadFlow" then C_BadFlow else if s = "Flow" then C_Flow else if s = "RunsError" then C_RunsError else if s = "BadSpot" then C_BadSpot else if s = "BadSite" then C_BadSite else if s = "BadRow" then C_BadRow else if s = "BadLine" then C_BadLine else 0) (fun s => if s = "SHAPES" then (.ref d_SHAPES) else if s = "TESTS" then (.ref d_TESTS) else if s = "fits_variable" then (.ref f24) else if s = "fits_variables" then (.ref f23) else if s = "fits_word" then (.ref f22) else if s = "fits_many" then (.ref f28) else if s = "fits_operation" then (.ref f26) else if s = "fits_name" then (.ref f27) else if s = "fits_row" then (.ref f25) else if s = "fits_chain" then (.ref f30) else if s = "fits_block" then (.ref f31) else if s = "fits_later" then (.ref f29) else .ref 0) none) 0 m__law_table) := ⟨O3, k3, B3, PySem.W.mg_of X G a3⟩
  have O4 := ok__law_heads (P := l.prog) (w := w) (mg := mg) (base := base) (ca := fun s => if s = "BadFlow" then C_BadFlow else if s = "Flow" then C_Flow else if s = "RunsError" then C_RunsError else if s = "BadSpot" then C_BadSpot else if s = "BadSite" then C_BadSite else if s = "BadRow" then C_BadRow else if s = "BadLine" then C_BadLine else 0) (fa := fun s => if s = "SHAPES" then (.ref d_SHAPES) else if s = "TESTS" then (.ref d_TESTS) else if s = "fits_variable" then (.ref f24) else if s = "fits_variables" then (.ref f23) else if s = "fits_word" then (.ref f22) else if s = "fits_many" then (.ref f28) else if s = "fits_operation" then (.ref f26) else if s = "fits_name" then (.ref f27) else if s = "fits_row" then (.ref f25) else if s = "fits_chain" then (.ref f30) else if s = "fits_block" then (.ref f31) else if s = "fits_later" then (.ref f29) else .ref 0) F4 C1 (PySem.W.mg_none_of X G z_range) (PySem.W.mg_none_of X G z_min) (PySem.W.mg_none_of X G z_tuple)
  have C4 : Callee l.prog w K mg base 2 f4 _ "_law_heads" _ (spM (M.Env.mk K (fun s => if s = "BadFlow" then C_BadFlow else if s = "Flow" then C_Flow else if s = "RunsError" then C_RunsError else if s = "BadSpot" then C_BadSpot else if s = "BadSite" then C_BadSite else if s = "BadRow" then C_BadRow else if s = "BadLine" then C_BadLine else 0) (fun s => if s = "SHAPES" then (.ref d_SHAPES) else if s = "TESTS" then (.ref d_TESTS) else if s = "fits_variable" then (.ref f24) else if s = "fits_variables" then (.ref f23) else if s = "fits_word" then (.ref f22) else if s = "fits_many" then (.ref f28) else if s = "fits_operation" then (.ref f26) else if s = "fits_name" then (.ref f27) else if s = "fits_row" then (.ref f25) else if s = "fits_chain" then (.ref f30) else if s = "fits_block" then (.ref f31) else if s = "fits_later" then (.ref f29) else .ref 0) none) 2 m__law_heads) := ⟨O4, k4, B4, PySem.W.mg_of X G a4⟩
  have O5 := ok__law_last_kind (P := l.prog) (w := w) (mg := mg) (base := base) (ca := fun s => if s = "BadFlow" then C_BadFlow else if s = "Flow" then C_Flow else if s = "RunsError" then C_RunsError else if s = "BadSpot" then C_BadSpot else if s = "BadSite" then C_BadSite else if s = "BadRow" then C_BadRow else if s = "BadLine" then C_BadLine else 0) (fa := fun s => if s = "SHAPES" then (.ref d_SHAPES) else if s = "TESTS" then (.ref d_TESTS) else if s = "fits_variable" then (.ref f24) else if s = "fits_variables" then (.ref f23) else if s = "fits_word" then (.ref f22) else if s = "fits_many" then (.ref f28) else if s = "fits_operation" then (.ref f26) else if s = "fits_name" then (.ref f27) else if s = "fits_row" then (.ref f25) else if s = "fits_chain" then (.ref f30) else if s = "fits_block" then (.ref f31) else if s = "fits_later" then (.ref f29) else .ref 0) F5 C2
  have C5 : Callee l.prog w K mg base 3 f5 _ "_law_last_kind" _ (spM (M.Env.mk K (fun s => if s = "BadFlow" then C_BadFlow else if s = "Flow" then C_Flow else if s = "RunsError" then C_RunsError else if s = "BadSpot" then C_BadSpot else if s = "BadSite" then C_BadSite else if s = "BadRow" then C_BadRow else if s = "BadLine" then C_BadLine else 0) (fun s => if s = "SHAPES" then (.ref d_SHAPES) else if s = "TESTS" then (.ref d_TESTS) else if s = "fits_variable" then (.ref f24) else if s = "fits_variables" then (.ref f23) else if s = "fits_word" then (.ref f22) else if s = "fits_many" then (.ref f28) else if s = "fits_operation" then (.ref f26) else if s = "fits_name" then (.ref f27) else if s = "fits_row" then (.ref f25) else if s = "fits_chain" then (.ref f30) else if s = "fits_block" then (.ref f31) else if s = "fits_later" then (.ref f29) else .ref 0) none) 3 m__law_last_kind) := ⟨O5, k5, B5, PySem.W.mg_of X G a5⟩
  have O6 := ok__law_kind (P := l.prog) (w := w) (mg := mg) (base := base) (ca := fun s => if s = "BadFlow" then C_BadFlow else if s = "Flow" then C_Flow else if s = "RunsError" then C_RunsError else if s = "BadSpot" then C_BadSpot else if s = "BadSite" then C_BadSite else if s = "BadRow" then C_BadRow else if s = "BadLine" then C_BadLine else 0) (fa := fun s => if s = "SHAPES" then (.ref d_SHAPES) else if s = "TESTS" then (.ref d_TESTS) else if s = "fits_variable" then (.ref f24) else if s = "fits_variables" then (.ref f23) else if s = "fits_word" then (.ref f22) else if s = "fits_many" then (.ref f28) else if s = "fits_operation" then (.ref f26) else if s = "fits_name" then (.ref f27) else if s = "fits_row" then (.ref f25) else if s = "fits_chain" then (.ref f30) else if s = "fits_block" then (.ref f31) else if s = "fits_later" then (.ref f29) else .ref 0) F6 C2
  have C6 : Callee l.prog w K mg base 3 f6 _ "_law_kind" _ (spM (M.Env.mk K (fun s => if s = "BadFlow" then C_BadFlow else if s = "Flow" then C_Flow else if s = "RunsError" then C_RunsError else if s = "BadSpot" then C_BadSpot else if s = "BadSite" then C_BadSite else if s = "BadRow" then C_BadRow else if s = "BadLine" then C_BadLine else 0) (fun s => if s = "SHAPES" then (.ref d_SHAPES) else if s = "TESTS" then (.ref d_TESTS) else if s = "fits_variable" then (.ref f24) else if s = "fits_variables" then (.ref f23) else if s = "fits_word" then (.ref f22) else if s = "fits_many" then (.ref f28) else if s = "fits_operation" then (.ref f26) else if s = "fits_name" then (.ref f27) else if s = "fits_row" then (.ref f25) else if s = "fits_chain" then (.ref f30) else if s = "fits_block" then (.ref f31) else if s = "fits_later" then (.ref f29) else .ref 0) none) 2 m__law_kind) := ⟨O6, k6, B6, PySem.W.mg_of X G a6⟩
  have O7 := ok__law_some (P := l.prog) (w := w) (mg := mg) (base := base) (ca := fun s => if s = "BadFlow" then C_BadFlow else if s = "Flow" then C_Flow else if s = "RunsError" then C_RunsError else if s = "BadSpot" then C_BadSpot else if s = "BadSite" then C_BadSite else if s = "BadRow" then C_BadRow else if s = "BadLine" then C_BadLine else 0) (fa := fun s => if s = "SHAPES" then (.ref d_SHAPES) else if s = "TESTS" then (.ref d_TESTS) else if s = "fits_variable" then (.ref f24) else if s = "fits_variables" then (.ref f23) else if s = "fits_word" then (.ref f22) else if s = "fits_many" then (.ref f28) else if s = "fits_operation" then (.ref f26) else if s = "fits_name" then (.ref f27) else if s = "fits_row" then (.ref f25) else if s = "fits_chain" then (.ref f30) else if s = "fits_block" then (.ref f31) else if s = "fits_later" then (.ref f29) else .ref 0) F7 C1 (PySem.W.mg_none_of X G z_range) (PySem.W.mg_none_of X G z_tuple)
  have C7 : Callee l.prog w K mg base 2 f7 _ "_law_some" _ (spM (M.Env.mk K (fun s => if s = "BadFlow" then C_BadFlow else if s = "Flow" then C_Flow else if s = "RunsError" then C_RunsError else if s = "BadSpot" then C_BadSpot else if s = "BadSite" then C_BadSite else if s = "BadRow" then C_BadRow else if s = "BadLine" then C_BadLine else 0) (fun s => if s = "SHAPES" then (.ref d_SHAPES) else if s = "TESTS" then (.ref d_TESTS) else if s = "fits_variable" then (.ref f24) else if s = "fits_variables" then (.ref f23) else if s = "fits_word" then (.ref f22) else if s = "fits_many" then (.ref f28) else if s = "fits_operation" then (.ref f26) else if s = "fits_name" then (.ref f27) else if s = "fits_row" then (.ref f25) else if s = "fits_chain" then (.ref f30) else if s = "fits_block" then (.ref f31) else if s = "fits_later" then (.ref f29) else .ref 0) none) 3 m__law_some) := ⟨O7, k7, B7, PySem.W.mg_of X G a7⟩
  have O8 := ok__law_moves (P := l.prog) (w := w) (mg := mg) (base := base) (ca := fun s => if s = "BadFlow" then C_BadFlow else if s = "Flow" then C_Flow else if s = "RunsError" then C_RunsError else if s = "BadSpot" then C_BadSpot else if s = "BadSite" then C_BadSite else if s = "BadRow" then C_BadRow else if s = "BadLine" then C_BadLine else 0) (fa := fun s => if s = "SHAPES" then (.ref d_SHAPES) else if s = "TESTS" then (.ref d_TESTS) else if s = "fits_variable" then (.ref f24) else if s = "fits_variables" then (.ref f23) else if s = "fits_word" then (.ref f22) else if s = "fits_many" then (.ref f28) else if s = "fits_operation" then (.ref f26) else if s = "fits_name" then (.ref f27) else if s = "fits_row" then (.ref f25) else if s = "fits_chain" then (.ref f30) else if s = "fits_block" then (.ref f31) else if s = "fits_later" then (.ref f29) else .ref 0) F8 C1 C7 (PySem.W.mg_none_of X G z_min) (PySem.W.mg_none_of X G z_range) (PySem.W.mg_none_of X G z_int) (PySem.W.mg_none_of X G z_tuple)
  have C8 : Callee l.prog w K mg base 3 f8 _ "_law_moves" _ (spM (M.Env.mk K (fun s => if s = "BadFlow" then C_BadFlow else if s = "Flow" then C_Flow else if s = "RunsError" then C_RunsError else if s = "BadSpot" then C_BadSpot else if s = "BadSite" then C_BadSite else if s = "BadRow" then C_BadRow else if s = "BadLine" then C_BadLine else 0) (fun s => if s = "SHAPES" then (.ref d_SHAPES) else if s = "TESTS" then (.ref d_TESTS) else if s = "fits_variable" then (.ref f24) else if s = "fits_variables" then (.ref f23) else if s = "fits_word" then (.ref f22) else if s = "fits_many" then (.ref f28) else if s = "fits_operation" then (.ref f26) else if s = "fits_name" then (.ref f27) else if s = "fits_row" then (.ref f25) else if s = "fits_chain" then (.ref f30) else if s = "fits_block" then (.ref f31) else if s = "fits_later" then (.ref f29) else .ref 0) none) 2 m__law_moves) := ⟨O8, k8, B8, PySem.W.mg_of X G a8⟩
  have O9 := ok__law_word (P := l.prog) (w := w) (mg := mg) (base := base) (ca := fun s => if s = "BadFlow" then C_BadFlow else if s = "Flow" then C_Flow else if s = "RunsError" then C_RunsError else if s = "BadSpot" then C_BadSpot else if s = "BadSite" then C_BadSite else if s = "BadRow" then C_BadRow else if s = "BadLine" then C_BadLine else 0) (fa := fun s => if s = "SHAPES" then (.ref d_SHAPES) else if s = "TESTS" then (.ref d_TESTS) else if s = "fits_variable" then (.ref f24) else if s = "fits_variables" then (.ref f23) else if s = "fits_word" then (.ref f22) else if s = "fits_many" then (.ref f28) else if s = "fits_operation" then (.ref f26) else if s = "fits_name" then (.ref f27) else if s = "fits_row" then (.ref f25) else if s = "fits_chain" then (.ref f30) else if s = "fits_block" then (.ref f31) else if s = "fits_later" then (.ref f29) else .ref 0) F9 C1
  have C9 : Callee l.prog w K mg base 2 f9 _ "_law_word" _ (spM (M.Env.mk K (fun s => if s = "BadFlow" then C_BadFlow else if s = "Flow" then C_Flow else if s = "RunsError" then C_RunsError else if s = "BadSpot" then C_BadSpot else if s = "BadSite" then C_BadSite else if s = "BadRow" then C_BadRow else if s = "BadLine" then C_BadLine else 0) (fun s => if s = "SHAPES" then (.ref d_SHAPES) else if s = "TESTS" then (.ref d_TESTS) else if s = "fits_variable" then (.ref f24) else if s = "fits_variables" then (.ref f23) else if s = "fits_word" then (.ref f22) else if s = "fits_many" then (.ref f28) else if s = "fits_operation" then (.ref f26) else if s = "fits_name" then (.ref f27) else if s = "fits_row" then (.ref f25) else if s = "fits_chain" then (.ref f30) else if s = "fits_block" then (.ref f31) else if s = "fits_later" then (.ref f29) else .ref 0) none) 1 m__law_word) := ⟨O9, k9, B9, PySem.W.mg_of X G a9⟩
  have O10 := ok__law_spots (P := l.prog) (w := w) (mg := mg) (base := base) (ca := fun s => if s = "BadFlow" then C_BadFlow else if s = "Flow" then C_Flow else if s = "RunsError" then C_RunsError else if s = "BadSpot" then C_BadSpot else if s = "BadSite" then C_BadSite else if s = "BadRow" then C_BadRow else if s = "BadLine" then C_BadLine else 0) (fa := fun s => if s = "SHAPES" then (.ref d_SHAPES) else if s = "TESTS" then (.ref d_TESTS) else if s = "fits_variable" then (.ref f24) else if s = "fits_variables" then (.ref f23) else if s = "fits_word" then (.ref f22) else if s = "fits_many" then (.ref f28) else if s = "fits_operation" then (.ref f26) else if s = "fits_name" then (.ref f27) else if s = "fits_row" then (.ref f25) else if s = "fits_chain" then (.ref f30) else if s = "fits_block" then (.ref f31) else if s = "fits_later" then (.ref f29) else .ref 0) F10 C1 C2 (PySem.W.mg_none_of X G z_range) (PySem.W.mg_none_of X G z_tuple)
  have C10 : Callee l.prog w K mg base 3 f10 _ "_law_spots" _ (spM (M.Env.mk K (fun s => if s = "BadFlow" then C_BadFlow else if s = "Flow" then C_Flow else if s = "RunsError" then C_RunsError else if s = "BadSpot" then C_BadSpot else if s = "BadSite" then C_BadSite else if s = "BadRow" then C_BadRow else if s = "BadLine" then C_BadLine else 0) (fun s => if s = "SHAPES" then (.ref d_SHAPES) else if s = "TESTS" then (.ref d_TESTS) else if s = "fits_variable" then (.ref f24) else if s = "fits_variables" then (.ref f23) else if s = "fits_word" then (.ref f22) else if s = "fits_many" then (.ref f28) else if s = "fits_operation" then (.ref f26) else if s = "fits_name" then (.ref f27) else if s = "fits_row" then (.ref f25) else if s = "fits_chain" then (.ref f30) else if s = "fits_block" then (.ref f31) else if s = "fits_later" then (.ref f29) else .ref 0) none) 1 m__law_spots) := ⟨O10, k10, B10, PySem.W.mg_of X G a10⟩
  have O11 := ok__law_good (P := l.prog) (w := w) (mg := mg) (base := base) (ca := fun s => if s = "BadFlow" then C_BadFlow else if s = "Flow" then C_Flow else if s = "RunsError" then C_RunsError else if s = "BadSpot" then C_BadSpot else if s = "BadSite" then C_BadSite else if s = "BadRow" then C_BadRow else if s = "BadLine" then C_BadLine else 0) (fa := fun s => if s = "SHAPES" then (.ref d_SHAPES) else if s = "TESTS" then (.ref d_TESTS) else if s = "fits_variable" then (.ref f24) else if s = "fits_variables" then (.ref f23) else if s = "fits_word" then (.ref f22) else if s = "fits_many" then (.ref f28) else if s = "fits_operation" then (.ref f26) else if s = "fits_name" then (.ref f27) else if s = "fits_row" then (.ref f25) else if s = "fits_chain" then (.ref f30) else if s = "fits_block" then (.ref f31) else if s = "fits_later" then (.ref f29) else .ref 0) F11 C1 C9 C2 C7 C10
  have C11 : Callee l.prog w K mg base 4 f11 _ "_law_good" _ (spM (M.Env.mk K (fun s => if s = "BadFlow" then C_BadFlow else if s = "Flow" then C_Flow else if s = "RunsError" then C_RunsError else if s = "BadSpot" then C_BadSpot else if s = "BadSite" then C_BadSite else if s = "BadRow" then C_BadRow else if s = "BadLine" then C_BadLine else 0) (fun s => if s = "SHAPES" then (.ref d_SHAPES) else if s = "TESTS" then (.ref d_TESTS) else if s = "fits_variable" then (.ref f24) else if s = "fits_variables" then (.ref f23) else if s = "fits_word" then (.ref f22) else if s = "fits_many" then (.ref f28) else if s = "fits_operation" then (.ref f26) else if s = "fits_name" then (.ref f27) else if s = "fits_row" then (.ref f25) else if s = "fits_chain" then (.ref f30) else if s = "fits_block" then (.ref f31) else if s = "fits_later" then (.ref f29) else .ref 0) none) 4 m__law_good) := ⟨O11, k11, B11, PySem.W.mg_of X G a11⟩
  have O12 := ok__law_deed (P := l.prog) (w := w) (mg := mg) (base := base) (ca := fun s => if s = "BadFlow" then C_BadFlow else if s = "Flow" then C_Flow else if s = "RunsError" then C_RunsError else if s = "BadSpot" then C_BadSpot else if s = "BadSite" then C_BadSite else if s = "BadRow" then C_BadRow else if s = "BadLine" then C_BadLine else 0) (fa := fun s => if s = "SHAPES" then (.ref d_SHAPES) else if s = "TESTS" then (.ref d_TESTS) else if s = "fits_variable" then (.ref f24) else if s = "fits_variables" then (.ref f23) else if s = "fits_word" then (.ref f22) else if s = "fits_many" then (.ref f28) else if s = "fits_operation" then (.ref f26) else if s = "fits_name" then (.ref f27) else if s = "fits_row" then (.ref f25) else if s = "fits_chain" then (.ref f30) else if s = "fits_block" then (.ref f31) else if s = "fits_later" then (.ref f29) else .ref 0) F12 C5 C6 C8 C11 (PySem.W.mg_none_of X G z_tuple)
  have C12 : Callee l.prog w K mg base 5 f12 _ "_law_deed" _ (spM (M.Env.mk K (fun s => if s = "BadFlow" then C_BadFlow else if s = "Flow" then C_Flow else if s = "RunsError" then C_RunsError else if s = "BadSpot" then C_BadSpot else if s = "BadSite" then C_BadSite else if s = "BadRow" then C_BadRow else if s = "BadLine" then C_BadLine else 0) (fun s => if s = "SHAPES" then (.ref d_SHAPES) else if s = "TESTS" then (.ref d_TESTS) else if s = "fits_variable" then (.ref f24) else if s = "fits_variables" then (.ref f23) else if s = "fits_word" then (.ref f22) else if s = "fits_many" then (.ref f28) else if s = "fits_operation" then (.ref f26) else if s = "fits_name" then (.ref f27) else if s = "fits_row" then (.ref f25) else if s = "fits_chain" then (.ref f30) else if s = "fits_block" then (.ref f31) else if s = "fits_later" then (.ref f29) else .ref 0) none) 4 m__law_deed) := ⟨O12, k12, B12, PySem.W.mg_of X G a12⟩
  have O13 := ok__law_grid (P := l.prog) (w := w) (mg := mg) (base := base) (ca := fun s => if s = "BadFlow" then C_BadFlow else if s = "Flow" then C_Flow else if s = "RunsError" then C_RunsError else if s = "BadSpot" then C_BadSpot else if s = "BadSite" then C_BadSite else if s = "BadRow" then C_BadRow else if s = "BadLine" then C_BadLine else 0) (fa := fun s => if s = "SHAPES" then (.ref d_SHAPES) else if s = "TESTS" then (.ref d_TESTS) else if s = "fits_variable" then (.ref f24) else if s = "fits_variables" then (.ref f23) else if s = "fits_word" then (.ref f22) else if s = "fits_many" then (.ref f28) else if s = "fits_operation" then (.ref f26) else if s = "fits_name" then (.ref f27) else if s = "fits_row" then (.ref f25) else if s = "fits_chain" then (.ref f30) else if s = "fits_block" then (.ref f31) else if s = "fits_later" then (.ref f29) else .ref 0) F13 C1 C12 (PySem.W.mg_none_of X G z_range) (PySem.W.mg_none_of X G z_tuple)
  have C13 : Callee l.prog w K mg base 6 f13 _ "_law_grid" _ (spM (M.Env.mk K (fun s => if s = "BadFlow" then C_BadFlow else if s = "Flow" then C_Flow else if s = "RunsError" then C_RunsError else if s = "BadSpot" then C_BadSpot else if s = "BadSite" then C_BadSite else if s = "BadRow" then C_BadRow else if s = "BadLine" then C_BadLine else 0) (fun s => if s = "SHAPES" then (.ref d_SHAPES) else if s = "TESTS" then (.ref d_TESTS) else if s = "fits_variable" then (.ref f24) else if s = "fits_variables" then (.ref f23) else if s = "fits_word" then (.ref f22) else if s = "fits_many" then (.ref f28) else if s = "fits_operation" then (.ref f26) else if s = "fits_name" then (.ref f27) else if s = "fits_row" then (.ref f25) else if s = "fits_chain" then (.ref f30) else if s = "fits_block" then (.ref f31) else if s = "fits_later" then (.ref f29) else .ref 0) none) 2 m__law_grid) := ⟨O13, k13, B13, PySem.W.mg_of X G a13⟩
  have O14 := ok__law_whole (P := l.prog) (w := w) (mg := mg) (base := base) (ca := fun s => if s = "BadFlow" then C_BadFlow else if s = "Flow" then C_Flow else if s = "RunsError" then C_RunsError else if s = "BadSpot" then C_BadSpot else if s = "BadSite" then C_BadSite else if s = "BadRow" then C_BadRow else if s = "BadLine" then C_BadLine else 0) (fa := fun s => if s = "SHAPES" then (.ref d_SHAPES) else if s = "TESTS" then (.ref d_TESTS) else if s = "fits_variable" then (.ref f24) else if s = "fits_variables" then (.ref f23) else if s = "fits_word" then (.ref f22) else if s = "fits_many" then (.ref f28) else if s = "fits_operation" then (.ref f26) else if s = "fits_name" then (.ref f27) else if s = "fits_row" then (.ref f25) else if s = "fits_chain" then (.ref f30) else if s = "fits_block" then (.ref f31) else if s = "fits_later" then (.ref f29) else .ref 0) F14 (PySem.W.mg_none_of X G z_isinstance) (PySem.W.mg_none_of X G z_int) (PySem.W.mg_none_of X G z_bool)
  have C14 : Callee l.prog w K mg base 1 f14 _ "_law_whole" _ (spM (M.Env.mk K (fun s => if s = "BadFlow" then C_BadFlow else if s = "Flow" then C_Flow else if s = "RunsError" then C_RunsError else if s = "BadSpot" then C_BadSpot else if s = "BadSite" then C_BadSite else if s = "BadRow" then C_BadRow else if s = "BadLine" then C_BadLine else 0) (fun s => if s = "SHAPES" then (.ref d_SHAPES) else if s = "TESTS" then (.ref d_TESTS) else if s = "fits_variable" then (.ref f24) else if s = "fits_variables" then (.ref f23) else if s = "fits_word" then (.ref f22) else if s = "fits_many" then (.ref f28) else if s = "fits_operation" then (.ref f26) else if s = "fits_name" then (.ref f27) else if s = "fits_row" then (.ref f25) else if s = "fits_chain" then (.ref f30) else if s = "fits_block" then (.ref f31) else if s = "fits_later" then (.ref f29) else .ref 0) none) 1 m__law_whole) := ⟨O14, k14, B14, PySem.W.mg_of X G a14⟩
  have O15 := ok__law_chain (P := l.prog) (w := w) (mg := mg) (base := base) (ca := fun s => if s = "BadFlow" then C_BadFlow else if s = "Flow" then C_Flow else if s = "RunsError" then C_RunsError else if s = "BadSpot" then C_BadSpot else if s = "BadSite" then C_BadSite else if s = "BadRow" then C_BadRow else if s = "BadLine" then C_BadLine else 0) (fa := fun s => if s = "SHAPES" then (.ref d_SHAPES) else if s = "TESTS" then (.ref d_TESTS) else if s = "fits_variable" then (.ref f24) else if s = "fits_variables" then (.ref f23) else if s = "fits_word" then (.ref f22) else if s = "fits_many" then (.ref f28) else if s = "fits_operation" then (.ref f26) else if s = "fits_name" then (.ref f27) else if s = "fits_row" then (.ref f25) else if s = "fits_chain" then (.ref f30) else if s = "fits_block" then (.ref f31) else if s = "fits_later" then (.ref f29) else .ref 0) F15 C14 (PySem.W.mg_none_of X G z_isinstance) (PySem.W.mg_none_of X G z_tuple) (PySem.W.mg_none_of X G z_len) (PySem.W.mg_none_of X G z_str)
  have C15 : Callee l.prog w K mg base 2 f15 _ "_law_chain" _ (spM (M.Env.mk K (fun s => if s = "BadFlow" then C_BadFlow else if s = "Flow" then C_Flow else if s = "RunsError" then C_RunsError else if s = "BadSpot" then C_BadSpot else if s = "BadSite" then C_BadSite else if s = "BadRow" then C_BadRow else if s = "BadLine" then C_BadLine else 0) (fun s => if s = "SHAPES" then (.ref d_SHAPES) else if s = "TESTS" then (.ref d_TESTS) else if s = "fits_variable" then (.ref f24) else if s = "fits_variables" then (.ref f23) else if s = "fits_word" then (.ref f22) else if s = "fits_many" then (.ref f28) else if s = "fits_operation" then (.ref f26) else if s = "fits_name" then (.ref f27) else if s = "fits_row" then (.ref f25) else if s = "fits_chain" then (.ref f30) else if s = "fits_block" then (.ref f31) else if s = "fits_later" then (.ref f29) else .ref 0) none) 1 m__law_chain) := ⟨O15, k15, B15, PySem.W.mg_of X G a15⟩
  have OR16 := ok__law_entry (P := l.prog) (w := w) (mg := mg) (base := base) (ca := fun s => if s = "BadFlow" then C_BadFlow else if s = "Flow" then C_Flow else if s = "RunsError" then C_RunsError else if s = "BadSpot" then C_BadSpot else if s = "BadSite" then C_BadSite else if s = "BadRow" then C_BadRow else if s = "BadLine" then C_BadLine else 0) (fa := fun s => if s = "SHAPES" then (.ref d_SHAPES) else if s = "TESTS" then (.ref d_TESTS) else if s = "fits_variable" then (.ref f24) else if s = "fits_variables" then (.ref f23) else if s = "fits_word" then (.ref f22) else if s = "fits_many" then (.ref f28) else if s = "fits_operation" then (.ref f26) else if s = "fits_name" then (.ref f27) else if s = "fits_row" then (.ref f25) else if s = "fits_chain" then (.ref f30) else if s = "fits_block" then (.ref f31) else if s = "fits_later" then (.ref f29) else .ref 0) C15 C14 F16 B16 k16 (PySem.W.mg_of X G a16) (PySem.W.mg_none_of X G z_isinstance) (PySem.W.mg_none_of X G z_tuple) (PySem.W.mg_none_of X G z_all) (PySem.W.mg_none_of X G z_str) 40
  have C16 : Callee l.prog w K mg base 43 f16 _ "_law_entry" _ (spM (M.Env.mk K (fun s => if s = "BadFlow" then C_BadFlow else if s = "Flow" then C_Flow else if s = "RunsError" then C_RunsError else if s = "BadSpot" then C_BadSpot else if s = "BadSite" then C_BadSite else if s = "BadRow" then C_BadRow else if s = "BadLine" then C_BadLine else 0) (fun s => if s = "SHAPES" then (.ref d_SHAPES) else if s = "TESTS" then (.ref d_TESTS) else if s = "fits_variable" then (.ref f24) else if s = "fits_variables" then (.ref f23) else if s = "fits_word" then (.ref f22) else if s = "fits_many" then (.ref f28) else if s = "fits_operation" then (.ref f26) else if s = "fits_name" then (.ref f27) else if s = "fits_row" then (.ref f25) else if s = "fits_chain" then (.ref f30) else if s = "fits_block" then (.ref f31) else if s = "fits_later" then (.ref f29) else .ref 0) none) 4 m__law_entry) := ⟨OR16, k16, B16, PySem.W.mg_of X G a16⟩
  have O17 := ok__law_fits (P := l.prog) (w := w) (mg := mg) (base := base) (ca := fun s => if s = "BadFlow" then C_BadFlow else if s = "Flow" then C_Flow else if s = "RunsError" then C_RunsError else if s = "BadSpot" then C_BadSpot else if s = "BadSite" then C_BadSite else if s = "BadRow" then C_BadRow else if s = "BadLine" then C_BadLine else 0) (fa := fun s => if s = "SHAPES" then (.ref d_SHAPES) else if s = "TESTS" then (.ref d_TESTS) else if s = "fits_variable" then (.ref f24) else if s = "fits_variables" then (.ref f23) else if s = "fits_word" then (.ref f22) else if s = "fits_many" then (.ref f28) else if s = "fits_operation" then (.ref f26) else if s = "fits_name" then (.ref f27) else if s = "fits_row" then (.ref f25) else if s = "fits_chain" then (.ref f30) else if s = "fits_block" then (.ref f31) else if s = "fits_later" then (.ref f29) else .ref 0) F17 nonfaP C16 (PySem.W.mg_none_of X G z_isinstance) (PySem.W.mg_none_of X G z_tuple) (PySem.W.mg_none_of X G z_len) (PySem.W.mg_none_of X G z_str) (PySem.W.mg_none_of X G z_range)
  have C17 : Callee l.prog w K mg base 44 f17 _ "_law_fits" _ (spM (M.Env.mk K (fun s => if s = "BadFlow" then C_BadFlow else if s = "Flow" then C_Flow else if s = "RunsError" then C_RunsError else if s = "BadSpot" then C_BadSpot else if s = "BadSite" then C_BadSite else if s = "BadRow" then C_BadRow else if s = "BadLine" then C_BadLine else 0) (fun s => if s = "SHAPES" then (.ref d_SHAPES) else if s = "TESTS" then (.ref d_TESTS) else if s = "fits_variable" then (.ref f24) else if s = "fits_variables" then (.ref f23) else if s = "fits_word" then (.ref f22) else if s = "fits_many" then (.ref f28) else if s = "fits_operation" then (.ref f26) else if s = "fits_name" then (.ref f27) else if s = "fits_row" then (.ref f25) else if s = "fits_chain" then (.ref f30) else if s = "fits_block" then (.ref f31) else if s = "fits_later" then (.ref f29) else .ref 0) none) 3 m__law_fits) := ⟨O17, k17, B17, PySem.W.mg_of X G a17⟩
  have O18 := ok__law_fault (P := l.prog) (w := w) (mg := mg) (base := base) (ca := fun s => if s = "BadFlow" then C_BadFlow else if s = "Flow" then C_Flow else if s = "RunsError" then C_RunsError else if s = "BadSpot" then C_BadSpot else if s = "BadSite" then C_BadSite else if s = "BadRow" then C_BadRow else if s = "BadLine" then C_BadLine else 0) (fa := fun s => if s = "SHAPES" then (.ref d_SHAPES) else if s = "TESTS" then (.ref d_TESTS) else if s = "fits_variable" then (.ref f24) else if s = "fits_variables" then (.ref f23) else if s = "fits_word" then (.ref f22) else if s = "fits_many" then (.ref f28) else if s = "fits_operation" then (.ref f26) else if s = "fits_name" then (.ref f27) else if s = "fits_row" then (.ref f25) else if s = "fits_chain" then (.ref f30) else if s = "fits_block" then (.ref f31) else if s = "fits_later" then (.ref f29) else .ref 0) F18 C3 C16 C17 (PySem.W.mg_none_of X G z_len) (PySem.W.mg_none_of X G z_range)
  have C18 : Callee l.prog w K mg base 45 f18 _ "_law_fault" _ (spM (M.Env.mk K (fun s => if s = "BadFlow" then C_BadFlow else if s = "Flow" then C_Flow else if s = "RunsError" then C_RunsError else if s = "BadSpot" then C_BadSpot else if s = "BadSite" then C_BadSite else if s = "BadRow" then C_BadRow else if s = "BadLine" then C_BadLine else 0) (fun s => if s = "SHAPES" then (.ref d_SHAPES) else if s = "TESTS" then (.ref d_TESTS) else if s = "fits_variable" then (.ref f24) else if s = "fits_variables" then (.ref f23) else if s = "fits_word" then (.ref f22) else if s = "fits_many" then (.ref f28) else if s = "fits_operation" then (.ref f26) else if s = "fits_name" then (.ref f27) else if s = "fits_row" then (.ref f25) else if s = "fits_chain" then (.ref f30) else if s = "fits_block" then (.ref f31) else if s = "fits_later" then (.ref f29) else .ref 0) none) 4 m__law_fault) := ⟨O18, k18, B18, PySem.W.mg_of X G a18⟩
  have O19 := ok_is_within (P := l.prog) (w := w) (mg := mg) (base := base) (ca := fun s => if s = "BadFlow" then C_BadFlow else if s = "Flow" then C_Flow else if s = "RunsError" then C_RunsError else if s = "BadSpot" then C_BadSpot else if s = "BadSite" then C_BadSite else if s = "BadRow" then C_BadRow else if s = "BadLine" then C_BadLine else 0) (fa := fun s => if s = "SHAPES" then (.ref d_SHAPES) else if s = "TESTS" then (.ref d_TESTS) else if s = "fits_variable" then (.ref f24) else if s = "fits_variables" then (.ref f23) else if s = "fits_word" then (.ref f22) else if s = "fits_many" then (.ref f28) else if s = "fits_operation" then (.ref f26) else if s = "fits_name" then (.ref f27) else if s = "fits_row" then (.ref f25) else if s = "fits_chain" then (.ref f30) else if s = "fits_block" then (.ref f31) else if s = "fits_later" then (.ref f29) else .ref 0) F19 (PySem.W.mg_none_of X G z_isinstance) (PySem.W.mg_none_of X G z_int)
  have C19 : Callee l.prog w K mg base 1 f19 _ "is_within" _ (spM (M.Env.mk K (fun s => if s = "BadFlow" then C_BadFlow else if s = "Flow" then C_Flow else if s = "RunsError" then C_RunsError else if s = "BadSpot" then C_BadSpot else if s = "BadSite" then C_BadSite else if s = "BadRow" then C_BadRow else if s = "BadLine" then C_BadLine else 0) (fun s => if s = "SHAPES" then (.ref d_SHAPES) else if s = "TESTS" then (.ref d_TESTS) else if s = "fits_variable" then (.ref f24) else if s = "fits_variables" then (.ref f23) else if s = "fits_word" then (.ref f22) else if s = "fits_many" then (.ref f28) else if s = "fits_operation" then (.ref f26) else if s = "fits_name" then (.ref f27) else if s = "fits_row" then (.ref f25) else if s = "fits_chain" then (.ref f30) else if s = "fits_block" then (.ref f31) else if s = "fits_later" then (.ref f29) else .ref 0) none) 3 m_is_within) := ⟨O19, k19, B19, PySem.W.mg_of X G a19⟩
  have O20 := ok_BadFlow___init__ (P := l.prog) (w := w) (mg := mg) (base := base) (ca := fun s => if s = "BadFlow" then C_BadFlow else if s = "Flow" then C_Flow else if s = "RunsError" then C_RunsError else if s = "BadSpot" then C_BadSpot else if s = "BadSite" then C_BadSite else if s = "BadRow" then C_BadRow else if s = "BadLine" then C_BadLine else 0) (fa := fun s => if s = "SHAPES" then (.ref d_SHAPES) else if s = "TESTS" then (.ref d_TESTS) else if s = "fits_variable" then (.ref f24) else if s = "fits_variables" then (.ref f23) else if s = "fits_word" then (.ref f22) else if s = "fits_many" then (.ref f28) else if s = "fits_operation" then (.ref f26) else if s = "fits_name" then (.ref f27) else if s = "fits_row" then (.ref f25) else if s = "fits_chain" then (.ref f30) else if s = "fits_block" then (.ref f31) else if s = "fits_later" then (.ref f29) else .ref 0) F20
  have C20 : CalleeM l.prog w K mg base 1 f20 _ _ (spX2 (M.Env.mk K (fun s => if s = "BadFlow" then C_BadFlow else if s = "Flow" then C_Flow else if s = "RunsError" then C_RunsError else if s = "BadSpot" then C_BadSpot else if s = "BadSite" then C_BadSite else if s = "BadRow" then C_BadRow else if s = "BadLine" then C_BadLine else 0) (fun s => if s = "SHAPES" then (.ref d_SHAPES) else if s = "TESTS" then (.ref d_TESTS) else if s = "fits_variable" then (.ref f24) else if s = "fits_variables" then (.ref f23) else if s = "fits_word" then (.ref f22) else if s = "fits_many" then (.ref f28) else if s = "fits_operation" then (.ref f26) else if s = "fits_name" then (.ref f27) else if s = "fits_row" then (.ref f25) else if s = "fits_chain" then (.ref f30) else if s = "fits_block" then (.ref f31) else if s = "fits_later" then (.ref f29) else .ref 0) none).K "block" "position") := ⟨O20, B20⟩
  have O21 := ok_check_params (P := l.prog) (w := w) (mg := mg) (base := base) (ca := fun s => if s = "BadFlow" then C_BadFlow else if s = "Flow" then C_Flow else if s = "RunsError" then C_RunsError else if s = "BadSpot" then C_BadSpot else if s = "BadSite" then C_BadSite else if s = "BadRow" then C_BadRow else if s = "BadLine" then C_BadLine else 0) (fa := fun s => if s = "SHAPES" then (.ref d_SHAPES) else if s = "TESTS" then (.ref d_TESTS) else if s = "fits_variable" then (.ref f24) else if s = "fits_variables" then (.ref f23) else if s = "fits_word" then (.ref f22) else if s = "fits_many" then (.ref f28) else if s = "fits_operation" then (.ref f26) else if s = "fits_name" then (.ref f27) else if s = "fits_row" then (.ref f25) else if s = "fits_chain" then (.ref f30) else if s = "fits_block" then (.ref f31) else if s = "fits_later" then (.ref f29) else .ref 0) F21 (if_pos rfl) (PySem.W.mg_of X G zc_BadFlow) ((if_neg (by decide +kernel)).trans ((if_neg (by decide +kernel)).trans (if_pos rfl))) (PySem.W.mg_of X G zc_RunsError) C19 C20 ⟨⟨⟨_, _, _, _, _, _, _, _, _, _, _, _, _, _, _, xL_BadFlow, by rfl⟩, xs_BadFlow, xe_BadFlow, xt_BadFlow, xk_BadFlow⟩, ⟨xg_BadFlow, xh_BadFlow, xe_BadFlow, xd_BadFlow⟩, ⟨xg_BadFlow, xh_BadFlow, xe_BadFlow, xd_BadFlow, xa_BadFlow, xn_BadFlow, xq_BadFlow, xm_BadFlow⟩, by intro f hf; simp only [List.mem_cons, List.not_mem_nil, or_false] at hf; rcases hf with rfl | rfl <;> assumption⟩ ⟨a20, jt_BadFlow⟩ (PySem.W.mg_none_of X G z_enumerate)
  have C21 : CalleeX l.prog w K mg base 3 f21 _ "check_params" _ (spM (M.Env.mk K (fun s => if s = "BadFlow" then C_BadFlow else if s = "Flow" then C_Flow else if s = "RunsError" then C_RunsError else if s = "BadSpot" then C_BadSpot else if s = "BadSite" then C_BadSite else if s = "BadRow" then C_BadRow else if s = "BadLine" then C_BadLine else 0) (fun s => if s = "SHAPES" then (.ref d_SHAPES) else if s = "TESTS" then (.ref d_TESTS) else if s = "fits_variable" then (.ref f24) else if s = "fits_variables" then (.ref f23) else if s = "fits_word" then (.ref f22) else if s = "fits_many" then (.ref f28) else if s = "fits_operation" then (.ref f26) else if s = "fits_name" then (.ref f27) else if s = "fits_row" then (.ref f25) else if s = "fits_chain" then (.ref f30) else if s = "fits_block" then (.ref f31) else if s = "fits_later" then (.ref f29) else .ref 0) none) 2 m_check_params) := ⟨O21, k21, B21, PySem.W.mg_of X G a21⟩
  have O22 := ok_fits_word (P := l.prog) (w := w) (mg := mg) (base := base) (ca := fun s => if s = "BadFlow" then C_BadFlow else if s = "Flow" then C_Flow else if s = "RunsError" then C_RunsError else if s = "BadSpot" then C_BadSpot else if s = "BadSite" then C_BadSite else if s = "BadRow" then C_BadRow else if s = "BadLine" then C_BadLine else 0) (fa := fun s => if s = "SHAPES" then (.ref d_SHAPES) else if s = "TESTS" then (.ref d_TESTS) else if s = "fits_variable" then (.ref f24) else if s = "fits_variables" then (.ref f23) else if s = "fits_word" then (.ref f22) else if s = "fits_many" then (.ref f28) else if s = "fits_operation" then (.ref f26) else if s = "fits_name" then (.ref f27) else if s = "fits_row" then (.ref f25) else if s = "fits_chain" then (.ref f30) else if s = "fits_block" then (.ref f31) else if s = "fits_later" then (.ref f29) else .ref 0) F22 ⟨_, PySem.W.mg_of X G z_LEAST⟩ ⟨_, PySem.W.mg_of X G z_GREATEST⟩ C19
  have C22 : Callee l.prog w K mg base 2 f22 _ "fits_word" _ (spM (M.Env.mk K (fun s => if s = "BadFlow" then C_BadFlow else if s = "Flow" then C_Flow else if s = "RunsError" then C_RunsError else if s = "BadSpot" then C_BadSpot else if s = "BadSite" then C_BadSite else if s = "BadRow" then C_BadRow else if s = "BadLine" then C_BadLine else 0) (fun s => if s = "SHAPES" then (.ref d_SHAPES) else if s = "TESTS" then (.ref d_TESTS) else if s = "fits_variable" then (.ref f24) else if s = "fits_variables" then (.ref f23) else if s = "fits_word" then (.ref f22) else if s = "fits_many" then (.ref f28) else if s = "fits_operation" then (.ref f26) else if s = "fits_name" then (.ref f27) else if s = "fits_row" then (.ref f25) else if s = "fits_chain" then (.ref f30) else if s = "fits_block" then (.ref f31) else if s = "fits_later" then (.ref f29) else .ref 0) none) 3 m_fits_word) := ⟨O22, k22, B22, PySem.W.mg_of X G a22⟩
  have O23 := ok_fits_variables (P := l.prog) (w := w) (mg := mg) (base := base) (ca := fun s => if s = "BadFlow" then C_BadFlow else if s = "Flow" then C_Flow else if s = "RunsError" then C_RunsError else if s = "BadSpot" then C_BadSpot else if s = "BadSite" then C_BadSite else if s = "BadRow" then C_BadRow else if s = "BadLine" then C_BadLine else 0) (fa := fun s => if s = "SHAPES" then (.ref d_SHAPES) else if s = "TESTS" then (.ref d_TESTS) else if s = "fits_variable" then (.ref f24) else if s = "fits_variables" then (.ref f23) else if s = "fits_word" then (.ref f22) else if s = "fits_many" then (.ref f28) else if s = "fits_operation" then (.ref f26) else if s = "fits_name" then (.ref f27) else if s = "fits_row" then (.ref f25) else if s = "fits_chain" then (.ref f30) else if s = "fits_block" then (.ref f31) else if s = "fits_later" then (.ref f29) else .ref 0) F23 ((if_neg (by decide +kernel)).trans (if_pos rfl)) (PySem.W.mg_of X G zc_Flow) ⟨⟨pg_Flow, hd_Flow, po_Flow, sa_Flow⟩, by intro f hf; simp only [List.mem_cons, List.not_mem_nil, or_false] at hf; rcases hf with rfl | rfl | rfl | rfl | rfl <;> assumption⟩ C19 (PySem.W.mg_none_of X G z_isinstance) (PySem.W.mg_none_of X G z_tuple) (PySem.W.mg_none_of X G z_all)
  have C23 : Callee l.prog w K mg base 2 f23 _ "fits_variables" _ (spM (M.Env.mk K (fun s => if s = "BadFlow" then C_BadFlow else if s = "Flow" then C_Flow else if s = "RunsError" then C_RunsError else if s = "BadSpot" then C_BadSpot else if s = "BadSite" then C_BadSite else if s = "BadRow" then C_BadRow else if s = "BadLine" then C_BadLine else 0) (fun s => if s = "SHAPES" then (.ref d_SHAPES) else if s = "TESTS" then (.ref d_TESTS) else if s = "fits_variable" then (.ref f24) else if s = "fits_variables" then (.ref f23) else if s = "fits_word" then (.ref f22) else if s = "fits_many" then (.ref f28) else if s = "fits_operation" then (.ref f26) else if s = "fits_name" then (.ref f27) else if s = "fits_row" then (.ref f25) else if s = "fits_chain" then (.ref f30) else if s = "fits_block" then (.ref f31) else if s = "fits_later" then (.ref f29) else .ref 0) none) 3 m_fits_variables) := ⟨O23, k23, B23, PySem.W.mg_of X G a23⟩
  have O24 := ok_fits_variable (P := l.prog) (w := w) (mg := mg) (base := base) (ca := fun s => if s = "BadFlow" then C_BadFlow else if s = "Flow" then C_Flow else if s = "RunsError" then C_RunsError else if s = "BadSpot" then C_BadSpot else if s = "BadSite" then C_BadSite else if s = "BadRow" then C_BadRow else if s = "BadLine" then C_BadLine else 0) (fa := fun s => if s = "SHAPES" then (.ref d_SHAPES) else if s = "TESTS" then (.ref d_TESTS) else if s = "fits_variable" then (.ref f24) else if s = "fits_variables" then (.ref f23) else if s = "fits_word" then (.ref f22) else if s = "fits_many" then (.ref f28) else if s = "fits_operation" then (.ref f26) else if s = "fits_name" then (.ref f27) else if s = "fits_row" then (.ref f25) else if s = "fits_chain" then (.ref f30) else if s = "fits_block" then (.ref f31) else if s = "fits_later" then (.ref f29) else .ref 0) F24 ((if_neg (by decide +kernel)).trans (if_pos rfl)) (PySem.W.mg_of X G zc_Flow) ⟨⟨pg_Flow, hd_Flow, po_Flow, sa_Flow⟩, by intro f hf; simp only [List.mem_cons, List.not_mem_nil, or_false] at hf; rcases hf with rfl | rfl | rfl | rfl | rfl <;> assumption⟩ C19
  have C24 : Callee l.prog w K mg base 2 f24 _ "fits_variable" _ (spM (M.Env.mk K (fun s => if s = "BadFlow" then C_BadFlow else if s = "Flow" then C_Flow else if s = "RunsError" then C_RunsError else if s = "BadSpot" then C_BadSpot else if s = "BadSite" then C_BadSite else if s = "BadRow" then C_BadRow else if s = "BadLine" then C_BadLine else 0) (fun s => if s = "SHAPES" then (.ref d_SHAPES) else if s = "TESTS" then (.ref d_TESTS) else if s = "fits_variable" then (.ref f24) else if s = "fits_variables" then (.ref f23) else if s = "fits_word" then (.ref f22) else if s = "fits_many" then (.ref f28) else if s = "fits_operation" then (.ref f26) else if s = "fits_name" then (.ref f27) else if s = "fits_row" then (.ref f25) else if s = "fits_chain" then (.ref f30) else if s = "fits_block" then (.ref f31) else if s = "fits_later" then (.ref f29) else .ref 0) none) 3 m_fits_variable) := ⟨O24, k24, B24, PySem.W.mg_of X G a24⟩
  have O25 := ok_fits_row (P := l.prog) (w := w) (mg := mg) (base := base) (ca := fun s => if s = "BadFlow" then C_BadFlow else if s = "Flow" then C_Flow else if s = "RunsError" then C_RunsError else if s = "BadSpot" then C_BadSpot else if s = "BadSite" then C_BadSite else if s = "BadRow" then C_BadRow else if s = "BadLine" then C_BadLine else 0) (fa := fun s => if s = "SHAPES" then (.ref d_SHAPES) else if s = "TESTS" then (.ref d_TESTS) else if s = "fits_variable" then (.ref f24) else if s = "fits_variables" then (.ref f23) else if s = "fits_word" then (.ref f22) else if s = "fits_many" then (.ref f28) else if s = "fits_operation" then (.ref f26) else if s = "fits_name" then (.ref f27) else if s = "fits_row" then (.ref f25) else if s = "fits_chain" then (.ref f30) else if s = "fits_block" then (.ref f31) else if s = "fits_later" then (.ref f29) else .ref 0) F25 ((if_neg (by decide +kernel)).trans (if_pos rfl)) (PySem.W.mg_of X G zc_Flow) ⟨⟨pg_Flow, hd_Flow, po_Flow, sa_Flow⟩, by intro f hf; simp only [List.mem_cons, List.not_mem_nil, or_false] at hf; rcases hf with rfl | rfl | rfl | rfl | rfl <;> assumption⟩ C19 (PySem.W.mg_none_of X G z_isinstance) (PySem.W.mg_none_of X G z_str) (PySem.W.mg_none_of X G z_len)
  have C25 : Callee l.prog w K mg base 2 f25 _ "fits_row" _ (spM (M.Env.mk K (fun s => if s = "BadFlow" then C_BadFlow else if s = "Flow" then C_Flow else if s = "RunsError" then C_RunsError else if s = "BadSpot" then C_BadSpot else if s = "BadSite" then C_BadSite else if s = "BadRow" then C_BadRow else if s = "BadLine" then C_BadLine else 0) (fun s => if s = "SHAPES" then (.ref d_SHAPES) else if s = "TESTS" then (.ref d_TESTS) else if s = "fits_variable" then (.ref f24) else if s = "fits_variables" then (.ref f23) else if s = "fits_word" then (.ref f22) else if s = "fits_many" then (.ref f28) else if s = "fits_operation" then (.ref f26) else if s = "fits_name" then (.ref f27) else if s = "fits_row" then (.ref f25) else if s = "fits_chain" then (.ref f30) else if s = "fits_block" then (.ref f31) else if s = "fits_later" then (.ref f29) else .ref 0) none) 3 m_fits_row) := ⟨O25, k25, B25, PySem.W.mg_of X G a25⟩
  have O26 := ok_fits_operation (P := l.prog) (w := w) (mg := mg) (base := base) (ca := fun s => if s = "BadFlow" then C_BadFlow else if s = "Flow" then C_Flow else if s = "RunsError" then C_RunsError else if s = "BadSpot" then C_BadSpot else if s = "BadSite" then C_BadSite else if s = "BadRow" then C_BadRow else if s = "BadLine" then C_BadLine else 0) (fa := fun s => if s = "SHAPES" then (.ref d_SHAPES) else if s = "TESTS" then (.ref d_TESTS) else if s = "fits_variable" then (.ref f24) else if s = "fits_variables" then (.ref f23) else if s = "fits_word" then (.ref f22) else if s = "fits_many" then (.ref f28) else if s = "fits_operation" then (.ref f26) else if s = "fits_name" then (.ref f27) else if s = "fits_row" then (.ref f25) else if s = "fits_chain" then (.ref f30) else if s = "fits_block" then (.ref f31) else if s = "fits_later" then (.ref f29) else .ref 0) F26 (PySem.W.mg_of X G z_OPERATIONS) kk_OPERATIONS
  have C26 : Callee l.prog w K mg base 1 f26 _ "fits_operation" _ (spM (M.Env.mk K (fun s => if s = "BadFlow" then C_BadFlow else if s = "Flow" then C_Flow else if s = "RunsError" then C_RunsError else if s = "BadSpot" then C_BadSpot else if s = "BadSite" then C_BadSite else if s = "BadRow" then C_BadRow else if s = "BadLine" then C_BadLine else 0) (fun s => if s = "SHAPES" then (.ref d_SHAPES) else if s = "TESTS" then (.ref d_TESTS) else if s = "fits_variable" then (.ref f24) else if s = "fits_variables" then (.ref f23) else if s = "fits_word" then (.ref f22) else if s = "fits_many" then (.ref f28) else if s = "fits_operation" then (.ref f26) else if s = "fits_name" then (.ref f27) else if s = "fits_row" then (.ref f25) else if s = "fits_chain" then (.ref f30) else if s = "fits_block" then (.ref f31) else if s = "fits_later" then (.ref f29) else .ref 0) none) 3 m_fits_operation) := ⟨O26, k26, B26, PySem.W.mg_of X G a26⟩
  have O27 := ok_fits_name (P := l.prog) (w := w) (mg := mg) (base := base) (ca := fun s => if s = "BadFlow" then C_BadFlow else if s = "Flow" then C_Flow else if s = "RunsError" then C_RunsError else if s = "BadSpot" then C_BadSpot else if s = "BadSite" then C_BadSite else if s = "BadRow" then C_BadRow else if s = "BadLine" then C_BadLine else 0) (fa := fun s => if s = "SHAPES" then (.ref d_SHAPES) else if s = "TESTS" then (.ref d_TESTS) else if s = "fits_variable" then (.ref f24) else if s = "fits_variables" then (.ref f23) else if s = "fits_word" then (.ref f22) else if s = "fits_many" then (.ref f28) else if s = "fits_operation" then (.ref f26) else if s = "fits_name" then (.ref f27) else if s = "fits_row" then (.ref f25) else if s = "fits_chain" then (.ref f30) else if s = "fits_block" then (.ref f31) else if s = "fits_later" then (.ref f29) else .ref 0) F27 (PySem.W.mg_none_of X G z_isinstance) (PySem.W.mg_none_of X G z_str)
  have C27 : Callee l.prog w K mg base 1 f27 _ "fits_name" _ (spM (M.Env.mk K (fun s => if s = "BadFlow" then C_BadFlow else if s = "Flow" then C_Flow else if s = "RunsError" then C_RunsError else if s = "BadSpot" then C_BadSpot else if s = "BadSite" then C_BadSite else if s = "BadRow" then C_BadRow else if s = "BadLine" then C_BadLine else 0) (fun s => if s = "SHAPES" then (.ref d_SHAPES) else if s = "TESTS" then (.ref d_TESTS) else if s = "fits_variable" then (.ref f24) else if s = "fits_variables" then (.ref f23) else if s = "fits_word" then (.ref f22) else if s = "fits_many" then (.ref f28) else if s = "fits_operation" then (.ref f26) else if s = "fits_name" then (.ref f27) else if s = "fits_row" then (.ref f25) else if s = "fits_chain" then (.ref f30) else if s = "fits_block" then (.ref f31) else if s = "fits_later" then (.ref f29) else .ref 0) none) 3 m_fits_name) := ⟨O27, k27, B27, PySem.W.mg_of X G a27⟩
  have O28 := ok_fits_many (P := l.prog) (w := w) (mg := mg) (base := base) (ca := fun s => if s = "BadFlow" then C_BadFlow else if s = "Flow" then C_Flow else if s = "RunsError" then C_RunsError else if s = "BadSpot" then C_BadSpot else if s = "BadSite" then C_BadSite else if s = "BadRow" then C_BadRow else if s = "BadLine" then C_BadLine else 0) (fa := fun s => if s = "SHAPES" then (.ref d_SHAPES) else if s = "TESTS" then (.ref d_TESTS) else if s = "fits_variable" then (.ref f24) else if s = "fits_variables" then (.ref f23) else if s = "fits_word" then (.ref f22) else if s = "fits_many" then (.ref f28) else if s = "fits_operation" then (.ref f26) else if s = "fits_name" then (.ref f27) else if s = "fits_row" then (.ref f25) else if s = "fits_chain" then (.ref f30) else if s = "fits_block" then (.ref f31) else if s = "fits_later" then (.ref f29) else .ref 0) F28 (PySem.W.mg_none_of X G z_isinstance) (PySem.W.mg_none_of X G z_int)
  have C28 : Callee l.prog w K mg base 1 f28 _ "fits_many" _ (spM (M.Env.mk K (fun s => if s = "BadFlow" then C_BadFlow else if s = "Flow" then C_Flow else if s = "RunsError" then C_RunsError else if s = "BadSpot" then C_BadSpot else if s = "BadSite" then C_BadSite else if s = "BadRow" then C_BadRow else if s = "BadLine" then C_BadLine else 0) (fun s => if s = "SHAPES" then (.ref d_SHAPES) else if s = "TESTS" then (.ref d_TESTS) else if s = "fits_variable" then (.ref f24) else if s = "fits_variables" then (.ref f23) else if s = "fits_word" then (.ref f22) else if s = "fits_many" then (.ref f28) else if s = "fits_operation" then (.ref f26) else if s = "fits_name" then (.ref f27) else if s = "fits_row" then (.ref f25) else if s = "fits_chain" then (.ref f30) else if s = "fits_block" then (.ref f31) else if s = "fits_later" then (.ref f29) else .ref 0) none) 3 m_fits_many) := ⟨O28, k28, B28, PySem.W.mg_of X G a28⟩
  have O29 := ok_fits_later (P := l.prog) (w := w) (mg := mg) (base := base) (ca := fun s => if s = "BadFlow" then C_BadFlow else if s = "Flow" then C_Flow else if s = "RunsError" then C_RunsError else if s = "BadSpot" then C_BadSpot else if s = "BadSite" then C_BadSite else if s = "BadRow" then C_BadRow else if s = "BadLine" then C_BadLine else 0) (fa := fun s => if s = "SHAPES" then (.ref d_SHAPES) else if s = "TESTS" then (.ref d_TESTS) else if s = "fits_variable" then (.ref f24) else if s = "fits_variables" then (.ref f23) else if s = "fits_word" then (.ref f22) else if s = "fits_many" then (.ref f28) else if s = "fits_operation" then (.ref f26) else if s = "fits_name" then (.ref f27) else if s = "fits_row" then (.ref f25) else if s = "fits_chain" then (.ref f30) else if s = "fits_block" then (.ref f31) else if s = "fits_later" then (.ref f29) else .ref 0) F29 ((if_neg (by decide +kernel)).trans (if_pos rfl)) (PySem.W.mg_of X G zc_Flow) ⟨⟨pg_Flow, hd_Flow, po_Flow, sa_Flow⟩, by intro f hf; simp only [List.mem_cons, List.not_mem_nil, or_false] at hf; rcases hf with rfl | rfl | rfl | rfl | rfl <;> assumption⟩ C19 (PySem.W.mg_none_of X G z_len)
  have C29 : Callee l.prog w K mg base 2 f29 _ "fits_later" _ (spM (M.Env.mk K (fun s => if s = "BadFlow" then C_BadFlow else if s = "Flow" then C_Flow else if s = "RunsError" then C_RunsError else if s = "BadSpot" then C_BadSpot else if s = "BadSite" then C_BadSite else if s = "BadRow" then C_BadRow else if s = "BadLine" then C_BadLine else 0) (fun s => if s = "SHAPES" then (.ref d_SHAPES) else if s = "TESTS" then (.ref d_TESTS) else if s = "fits_variable" then (.ref f24) else if s = "fits_variables" then (.ref f23) else if s = "fits_word" then (.ref f22) else if s = "fits_many" then (.ref f28) else if s = "fits_operation" then (.ref f26) else if s = "fits_name" then (.ref f27) else if s = "fits_row" then (.ref f25) else if s = "fits_chain" then (.ref f30) else if s = "fits_block" then (.ref f31) else if s = "fits_later" then (.ref f29) else .ref 0) none) 3 m_fits_later) := ⟨O29, k29, B29, PySem.W.mg_of X G a29⟩
  have O30 := ok_fits_chain (P := l.prog) (w := w) (mg := mg) (base := base) (ca := fun s => if s = "BadFlow" then C_BadFlow else if s = "Flow" then C_Flow else if s = "RunsError" then C_RunsError else if s = "BadSpot" then C_BadSpot else if s = "BadSite" then C_BadSite else if s = "BadRow" then C_BadRow else if s = "BadLine" then C_BadLine else 0) (fa := fun s => if s = "SHAPES" then (.ref d_SHAPES) else if s = "TESTS" then (.ref d_TESTS) else if s = "fits_variable" then (.ref f24) else if s = "fits_variables" then (.ref f23) else if s = "fits_word" then (.ref f22) else if s = "fits_many" then (.ref f28) else if s = "fits_operation" then (.ref f26) else if s = "fits_name" then (.ref f27) else if s = "fits_row" then (.ref f25) else if s = "fits_chain" then (.ref f30) else if s = "fits_block" then (.ref f31) else if s = "fits_later" then (.ref f29) else .ref 0) F30 ⟨_, PySem.W.mg_of X G z_MOST_PLACES⟩ (PySem.W.mg_none_of X G z_isinstance) (PySem.W.mg_none_of X G z_tuple) (PySem.W.mg_none_of X G z_len)
  have C30 : Callee l.prog w K mg base 1 f30 _ "fits_chain" _ (spM (M.Env.mk K (fun s => if s = "BadFlow" then C_BadFlow else if s = "Flow" then C_Flow else if s = "RunsError" then C_RunsError else if s = "BadSpot" then C_BadSpot else if s = "BadSite" then C_BadSite else if s = "BadRow" then C_BadRow else if s = "BadLine" then C_BadLine else 0) (fun s => if s = "SHAPES" then (.ref d_SHAPES) else if s = "TESTS" then (.ref d_TESTS) else if s = "fits_variable" then (.ref f24) else if s = "fits_variables" then (.ref f23) else if s = "fits_word" then (.ref f22) else if s = "fits_many" then (.ref f28) else if s = "fits_operation" then (.ref f26) else if s = "fits_name" then (.ref f27) else if s = "fits_row" then (.ref f25) else if s = "fits_chain" then (.ref f30) else if s = "fits_block" then (.ref f31) else if s = "fits_later" then (.ref f29) else .ref 0) none) 3 m_fits_chain) := ⟨O30, k30, B30, PySem.W.mg_of X G a30⟩
  have O31 := ok_fits_block (P := l.prog) (w := w) (mg := mg) (base := base) (ca := fun s => if s = "BadFlow" then C_BadFlow else if s = "Flow" then C_Flow else if s = "RunsError" then C_RunsError else if s = "BadSpot" then C_BadSpot else if s = "BadSite" then C_BadSite else if s = "BadRow" then C_BadRow else if s = "BadLine" then C_BadLine else 0) (fa := fun s => if s = "SHAPES" then (.ref d_SHAPES) else if s = "TESTS" then (.ref d_TESTS) else if s = "fits_variable" then (.ref f24) else if s = "fits_variables" then (.ref f23) else if s = "fits_word" then (.ref f22) else if s = "fits_many" then (.ref f28) else if s = "fits_operation" then (.ref f26) else if s = "fits_name" then (.ref f27) else if s = "fits_row" then (.ref f25) else if s = "fits_chain" then (.ref f30) else if s = "fits_block" then (.ref f31) else if s = "fits_later" then (.ref f29) else .ref 0) F31 ((if_neg (by decide +kernel)).trans (if_pos rfl)) (PySem.W.mg_of X G zc_Flow) ⟨⟨pg_Flow, hd_Flow, po_Flow, sa_Flow⟩, by intro f hf; simp only [List.mem_cons, List.not_mem_nil, or_false] at hf; rcases hf with rfl | rfl | rfl | rfl | rfl <;> assumption⟩ C19 (PySem.W.mg_none_of X G z_len)
  have C31 : Callee l.prog w K mg base 2 f31 _ "fits_block" _ (spM (M.Env.mk K (fun s => if s = "BadFlow" then C_BadFlow else if s = "Flow" then C_Flow else if s = "RunsError" then C_RunsError else if s = "BadSpot" then C_BadSpot else if s = "BadSite" then C_BadSite else if s = "BadRow" then C_BadRow else if s = "BadLine" then C_BadLine else 0) (fun s => if s = "SHAPES" then (.ref d_SHAPES) else if s = "TESTS" then (.ref d_TESTS) else if s = "fits_variable" then (.ref f24) else if s = "fits_variables" then (.ref f23) else if s = "fits_word" then (.ref f22) else if s = "fits_many" then (.ref f28) else if s = "fits_operation" then (.ref f26) else if s = "fits_name" then (.ref f27) else if s = "fits_row" then (.ref f25) else if s = "fits_chain" then (.ref f30) else if s = "fits_block" then (.ref f31) else if s = "fits_later" then (.ref f29) else .ref 0) none) 3 m_fits_block) := ⟨O31, k31, B31, PySem.W.mg_of X G a31⟩
  have O32 := ok_keeps_rules (P := l.prog) (w := w) (mg := mg) (base := base) (ca := fun s => if s = "BadFlow" then C_BadFlow else if s = "Flow" then C_Flow else if s = "RunsError" then C_RunsError else if s = "BadSpot" then C_BadSpot else if s = "BadSite" then C_BadSite else if s = "BadRow" then C_BadRow else if s = "BadLine" then C_BadLine else 0) (fa := fun s => if s = "SHAPES" then (.ref d_SHAPES) else if s = "TESTS" then (.ref d_TESTS) else if s = "fits_variable" then (.ref f24) else if s = "fits_variables" then (.ref f23) else if s = "fits_word" then (.ref f22) else if s = "fits_many" then (.ref f28) else if s = "fits_operation" then (.ref f26) else if s = "fits_name" then (.ref f27) else if s = "fits_row" then (.ref f25) else if s = "fits_chain" then (.ref f30) else if s = "fits_block" then (.ref f31) else if s = "fits_later" then (.ref f29) else .ref 0) F32 D_SHAPES (PySem.W.mg_of X G zA_SHAPES) (if_pos rfl) kr_SHAPES D_TESTS (PySem.W.mg_of X G zA_TESTS) ((if_neg (by decide +kernel)).trans (if_pos rfl)) kr_TESTS C22 C23 C24 C25 C26 C27 C28 C29 C30 C31 ((if_neg (by decide +kernel)).trans ((if_neg (by decide +kernel)).trans ((if_neg (by decide +kernel)).trans ((if_neg (by decide +kernel)).trans (if_pos rfl))))) ((if_neg (by decide +kernel)).trans ((if_neg (by decide +kernel)).trans ((if_neg (by decide +kernel)).trans (if_pos rfl)))) ((if_neg (by decide +kernel)).trans ((if_neg (by decide +kernel)).trans (if_pos rfl))) ((if_neg (by decide +kernel)).trans ((if_neg (by decide +kernel)).trans ((if_neg (by decide +kernel)).trans ((if_neg (by decide +kernel)).trans ((if_neg (by decide +kernel)).trans ((if_neg (by decide +kernel)).trans ((if_neg (by decide +kernel)).trans ((if_neg (by decide +kernel)).trans (if_pos rfl))))))))) ((if_neg (by decide +kernel)).trans ((if_neg (by decide +kernel)).trans ((if_neg (by decide +kernel)).trans ((if_neg (by decide +kernel)).trans ((if_neg (by decide +kernel)).trans ((if_neg (by decide +kernel)).trans (if_pos rfl))))))) ((if_neg (by decide +kernel)).trans ((if_neg (by decide +kernel)).trans ((if_neg (by decide +kernel)).trans ((if_neg (by decide +kernel)).trans ((if_neg (by decide +kernel)).trans ((if_neg (by decide +kernel)).trans ((if_neg (by decide +kernel)).trans (if_pos rfl)))))))) ((if_neg (by decide +kernel)).trans ((if_neg (by decide +kernel)).trans ((if_neg (by decide +kernel)).trans ((if_neg (by decide +kernel)).trans ((if_neg (by decide +kernel)).trans (if_pos rfl)))))) ((if_neg (by decide +kernel)).trans ((if_neg (by decide +kernel)).trans ((if_neg (by decide +kernel)).trans ((if_neg (by decide +kernel)).trans ((if_neg (by decide +kernel)).trans ((if_neg (by decide +kernel)).trans ((if_neg (by decide +kernel)).trans ((if_neg (by decide +kernel)).trans ((if_neg (by decide +kernel)).trans ((if_neg (by decide +kernel)).trans ((if_neg (by decide +kernel)).trans (if_pos rfl)))))))))))) ((if_neg (by decide +kernel)).trans ((if_neg (by decide +kernel)).trans ((if_neg (by decide +kernel)).trans ((if_neg (by decide +kernel)).trans ((if_neg (by decide +kernel)).trans ((if_neg (by decide +kernel)).trans ((if_neg (by decide +kernel)).trans ((if_neg (by decide +kernel)).trans ((if_neg (by decide +kernel)).trans (if_pos rfl)))))))))) ((if_neg (by decide +kernel)).trans ((if_neg (by decide +kernel)).trans ((if_neg (by decide +kernel)).trans ((if_neg (by decide +kernel)).trans ((if_neg (by decide +kernel)).trans ((if_neg (by decide +kernel)).trans ((if_neg (by decide +kernel)).trans ((if_neg (by decide +kernel)).trans ((if_neg (by decide +kernel)).trans ((if_neg (by decide +kernel)).trans (if_pos rfl))))))))))) (PySem.W.mg_none_of X G z_len) (PySem.W.mg_none_of X G z_zip) (PySem.W.mg_none_of X G z_set)
  have C32 : Callee l.prog w K mg base 3 f32 _ "keeps_rules" _ (spM (M.Env.mk K (fun s => if s = "BadFlow" then C_BadFlow else if s = "Flow" then C_Flow else if s = "RunsError" then C_RunsError else if s = "BadSpot" then C_BadSpot else if s = "BadSite" then C_BadSite else if s = "BadRow" then C_BadRow else if s = "BadLine" then C_BadLine else 0) (fun s => if s = "SHAPES" then (.ref d_SHAPES) else if s = "TESTS" then (.ref d_TESTS) else if s = "fits_variable" then (.ref f24) else if s = "fits_variables" then (.ref f23) else if s = "fits_word" then (.ref f22) else if s = "fits_many" then (.ref f28) else if s = "fits_operation" then (.ref f26) else if s = "fits_name" then (.ref f27) else if s = "fits_row" then (.ref f25) else if s = "fits_chain" then (.ref f30) else if s = "fits_block" then (.ref f31) else if s = "fits_later" then (.ref f29) else .ref 0) none) 3 m_keeps_rules) := ⟨O32, k32, B32, PySem.W.mg_of X G a32⟩
  have O33 := ok_is_end (P := l.prog) (w := w) (mg := mg) (base := base) (ca := fun s => if s = "BadFlow" then C_BadFlow else if s = "Flow" then C_Flow else if s = "RunsError" then C_RunsError else if s = "BadSpot" then C_BadSpot else if s = "BadSite" then C_BadSite else if s = "BadRow" then C_BadRow else if s = "BadLine" then C_BadLine else 0) (fa := fun s => if s = "SHAPES" then (.ref d_SHAPES) else if s = "TESTS" then (.ref d_TESTS) else if s = "fits_variable" then (.ref f24) else if s = "fits_variables" then (.ref f23) else if s = "fits_word" then (.ref f22) else if s = "fits_many" then (.ref f28) else if s = "fits_operation" then (.ref f26) else if s = "fits_name" then (.ref f27) else if s = "fits_row" then (.ref f25) else if s = "fits_chain" then (.ref f30) else if s = "fits_block" then (.ref f31) else if s = "fits_later" then (.ref f29) else .ref 0) F33 (PySem.W.mg_of X G z_ENDS) kk_ENDS
  have C33 : Callee l.prog w K mg base 1 f33 _ "is_end" _ (spM (M.Env.mk K (fun s => if s = "BadFlow" then C_BadFlow else if s = "Flow" then C_Flow else if s = "RunsError" then C_RunsError else if s = "BadSpot" then C_BadSpot else if s = "BadSite" then C_BadSite else if s = "BadRow" then C_BadRow else if s = "BadLine" then C_BadLine else 0) (fun s => if s = "SHAPES" then (.ref d_SHAPES) else if s = "TESTS" then (.ref d_TESTS) else if s = "fits_variable" then (.ref f24) else if s = "fits_variables" then (.ref f23) else if s = "fits_word" then (.ref f22) else if s = "fits_many" then (.ref f28) else if s = "fits_operation" then (.ref f26) else if s = "fits_name" then (.ref f27) else if s = "fits_row" then (.ref f25) else if s = "fits_chain" then (.ref f30) else if s = "fits_block" then (.ref f31) else if s = "fits_later" then (.ref f29) else .ref 0) none) 1 m_is_end) := ⟨O33, k33, B33, PySem.W.mg_of X G a33⟩
  have O34 := ok_check_blocks (P := l.prog) (w := w) (mg := mg) (base := base) (ca := fun s => if s = "BadFlow" then C_BadFlow else if s = "Flow" then C_Flow else if s = "RunsError" then C_RunsError else if s = "BadSpot" then C_BadSpot else if s = "BadSite" then C_BadSite else if s = "BadRow" then C_BadRow else if s = "BadLine" then C_BadLine else 0) (fa := fun s => if s = "SHAPES" then (.ref d_SHAPES) else if s = "TESTS" then (.ref d_TESTS) else if s = "fits_variable" then (.ref f24) else if s = "fits_variables" then (.ref f23) else if s = "fits_word" then (.ref f22) else if s = "fits_many" then (.ref f28) else if s = "fits_operation" then (.ref f26) else if s = "fits_name" then (.ref f27) else if s = "fits_row" then (.ref f25) else if s = "fits_chain" then (.ref f30) else if s = "fits_block" then (.ref f31) else if s = "fits_later" then (.ref f29) else .ref 0) F34 ((if_neg (by decide +kernel)).trans (if_pos rfl)) (PySem.W.mg_of X G zc_Flow) (if_pos rfl) (PySem.W.mg_of X G zc_BadFlow) ((if_neg (by decide +kernel)).trans ((if_neg (by decide +kernel)).trans (if_pos rfl))) (PySem.W.mg_of X G zc_RunsError) ⟨⟨pg_Flow, hd_Flow, po_Flow, sa_Flow⟩, by intro f hf; simp only [List.mem_cons, List.not_mem_nil, or_false] at hf; rcases hf with rfl | rfl | rfl | rfl | rfl <;> assumption⟩ C20 C32 C33 ⟨⟨⟨_, _, _, _, _, _, _, _, _, _, _, _, _, _, _, xL_BadFlow, by rfl⟩, xs_BadFlow, xe_BadFlow, xt_BadFlow, xk_BadFlow⟩, ⟨xg_BadFlow, xh_BadFlow, xe_BadFlow, xd_BadFlow⟩, ⟨xg_BadFlow, xh_BadFlow, xe_BadFlow, xd_BadFlow, xa_BadFlow, xn_BadFlow, xq_BadFlow, xm_BadFlow⟩, by intro f hf; simp only [List.mem_cons, List.not_mem_nil, or_false] at hf; rcases hf with rfl | rfl <;> assumption⟩ ⟨a20, jt_BadFlow⟩ (PySem.W.mg_none_of X G z_enumerate) (PySem.W.mg_none_of X G z_len)
  have C34 : CalleeX l.prog w K mg base 4 f34 _ "check_blocks" _ (spM (M.Env.mk K (fun s => if s = "BadFlow" then C_BadFlow else if s = "Flow" then C_Flow else if s = "RunsError" then C_RunsError else if s = "BadSpot" then C_BadSpot else if s = "BadSite" then C_BadSite else if s = "BadRow" then C_BadRow else if s = "BadLine" then C_BadLine else 0) (fun s => if s = "SHAPES" then (.ref d_SHAPES) else if s = "TESTS" then (.ref d_TESTS) else if s = "fits_variable" then (.ref f24) else if s = "fits_variables" then (.ref f23) else if s = "fits_word" then (.ref f22) else if s = "fits_many" then (.ref f28) else if s = "fits_operation" then (.ref f26) else if s = "fits_name" then (.ref f27) else if s = "fits_row" then (.ref f25) else if s = "fits_chain" then (.ref f30) else if s = "fits_block" then (.ref f31) else if s = "fits_later" then (.ref f29) else .ref 0) none) 1 m_check_blocks) := ⟨O34, k34, B34, PySem.W.mg_of X G a34⟩
  have O35 := ok_Flow___init__ (P := l.prog) (w := w) (mg := mg) (base := base) (ca := fun s => if s = "BadFlow" then C_BadFlow else if s = "Flow" then C_Flow else if s = "RunsError" then C_RunsError else if s = "BadSpot" then C_BadSpot else if s = "BadSite" then C_BadSite else if s = "BadRow" then C_BadRow else if s = "BadLine" then C_BadLine else 0) (fa := fun s => if s = "SHAPES" then (.ref d_SHAPES) else if s = "TESTS" then (.ref d_TESTS) else if s = "fits_variable" then (.ref f24) else if s = "fits_variables" then (.ref f23) else if s = "fits_word" then (.ref f22) else if s = "fits_many" then (.ref f28) else if s = "fits_operation" then (.ref f26) else if s = "fits_name" then (.ref f27) else if s = "fits_row" then (.ref f25) else if s = "fits_chain" then (.ref f30) else if s = "fits_block" then (.ref f31) else if s = "fits_later" then (.ref f29) else .ref 0) F35 ((if_neg (by decide +kernel)).trans (if_pos rfl)) (PySem.W.mg_of X G zc_Flow) ⟨⟨pg_Flow, hd_Flow, po_Flow, sa_Flow⟩, by intro f hf; simp only [List.mem_cons, List.not_mem_nil, or_false] at hf; rcases hf with rfl | rfl | rfl | rfl | rfl <;> assumption⟩ C21 C34 (PySem.W.mg_none_of X G z_tuple)
  have C35 : CalleeMX l.prog w K mg base 5 f35 _ _ (spM (M.Env.mk K (fun s => if s = "BadFlow" then C_BadFlow else if s = "Flow" then C_Flow else if s = "RunsError" then C_RunsError else if s = "BadSpot" then C_BadSpot else if s = "BadSite" then C_BadSite else if s = "BadRow" then C_BadRow else if s = "BadLine" then C_BadLine else 0) (fun s => if s = "SHAPES" then (.ref d_SHAPES) else if s = "TESTS" then (.ref d_TESTS) else if s = "fits_variable" then (.ref f24) else if s = "fits_variables" then (.ref f23) else if s = "fits_word" then (.ref f22) else if s = "fits_many" then (.ref f28) else if s = "fits_operation" then (.ref f26) else if s = "fits_name" then (.ref f27) else if s = "fits_row" then (.ref f25) else if s = "fits_chain" then (.ref f30) else if s = "fits_block" then (.ref f31) else if s = "fits_later" then (.ref f29) else .ref 0) none) 6 m_Flow___init__) := ⟨O35, B35⟩
  have OR36 := ok__law_same (P := l.prog) (w := w) (mg := mg) (base := base) (ca := fun s => if s = "BadFlow" then C_BadFlow else if s = "Flow" then C_Flow else if s = "RunsError" then C_RunsError else if s = "BadSpot" then C_BadSpot else if s = "BadSite" then C_BadSite else if s = "BadRow" then C_BadRow else if s = "BadLine" then C_BadLine else 0) (fa := fun s => if s = "SHAPES" then (.ref d_SHAPES) else if s = "TESTS" then (.ref d_TESTS) else if s = "fits_variable" then (.ref f24) else if s = "fits_variables" then (.ref f23) else if s = "fits_word" then (.ref f22) else if s = "fits_many" then (.ref f28) else if s = "fits_operation" then (.ref f26) else if s = "fits_name" then (.ref f27) else if s = "fits_row" then (.ref f25) else if s = "fits_chain" then (.ref f30) else if s = "fits_block" then (.ref f31) else if s = "fits_later" then (.ref f29) else .ref 0) nonfaP F36 B36 k36 (PySem.W.mg_of X G a36) (PySem.W.mg_none_of X G z_isinstance) (PySem.W.mg_none_of X G z_tuple) (PySem.W.mg_none_of X G z_len) (PySem.W.mg_none_of X G z_range) (PySem.W.mg_none_of X G z_all) (PySem.W.mg_none_of X G z_str) (PySem.W.mg_none_of X G z_int) (PySem.W.mg_none_of X G z_bool) 40
  have C36 : Callee l.prog w K mg base 41 f36 _ "_law_same" _ (spM (M.Env.mk K (fun s => if s = "BadFlow" then C_BadFlow else if s = "Flow" then C_Flow else if s = "RunsError" then C_RunsError else if s = "BadSpot" then C_BadSpot else if s = "BadSite" then C_BadSite else if s = "BadRow" then C_BadRow else if s = "BadLine" then C_BadLine else 0) (fun s => if s = "SHAPES" then (.ref d_SHAPES) else if s = "TESTS" then (.ref d_TESTS) else if s = "fits_variable" then (.ref f24) else if s = "fits_variables" then (.ref f23) else if s = "fits_word" then (.ref f22) else if s = "fits_many" then (.ref f28) else if s = "fits_operation" then (.ref f26) else if s = "fits_name" then (.ref f27) else if s = "fits_row" then (.ref f25) else if s = "fits_chain" then (.ref f30) else if s = "fits_block" then (.ref f31) else if s = "fits_later" then (.ref f29) else .ref 0) none) 2 m__law_same) := ⟨OR36, k36, B36, PySem.W.mg_of X G a36⟩
  have O37 := ok_Flow_parts (P := l.prog) (w := w) (mg := mg) (base := base) (ca := fun s => if s = "BadFlow" then C_BadFlow else if s = "Flow" then C_Flow else if s = "RunsError" then C_RunsError else if s = "BadSpot" then C_BadSpot else if s = "BadSite" then C_BadSite else if s = "BadRow" then C_BadRow else if s = "BadLine" then C_BadLine else 0) (fa := fun s => if s = "SHAPES" then (.ref d_SHAPES) else if s = "TESTS" then (.ref d_TESTS) else if s = "fits_variable" then (.ref f24) else if s = "fits_variables" then (.ref f23) else if s = "fits_word" then (.ref f22) else if s = "fits_many" then (.ref f28) else if s = "fits_operation" then (.ref f26) else if s = "fits_name" then (.ref f27) else if s = "fits_row" then (.ref f25) else if s = "fits_chain" then (.ref f30) else if s = "fits_block" then (.ref f31) else if s = "fits_later" then (.ref f29) else .ref 0) F37 ((if_neg (by decide +kernel)).trans (if_pos rfl)) (PySem.W.mg_of X G zc_Flow) ⟨⟨pg_Flow, hd_Flow, po_Flow, sa_Flow⟩, by intro f hf; simp only [List.mem_cons, List.not_mem_nil, or_false] at hf; rcases hf with rfl | rfl | rfl | rfl | rfl <;> assumption⟩
  have C37 : CalleeM l.prog w K mg base 1 f37 _ _ (spM (M.Env.mk K (fun s => if s = "BadFlow" then C_BadFlow else if s = "Flow" then C_Flow else if s = "RunsError" then C_RunsError else if s = "BadSpot" then C_BadSpot else if s = "BadSite" then C_BadSite else if s = "BadRow" then C_BadRow else if s = "BadLine" then C_BadLine else 0) (fun s => if s = "SHAPES" then (.ref d_SHAPES) else if s = "TESTS" then (.ref d_TESTS) else if s = "fits_variable" then (.ref f24) else if s = "fits_variables" then (.ref f23) else if s = "fits_word" then (.ref f22) else if s = "fits_many" then (.ref f28) else if s = "fits_operation" then (.ref f26) else if s = "fits_name" then (.ref f27) else if s = "fits_row" then (.ref f25) else if s = "fits_chain" then (.ref f30) else if s = "fits_block" then (.ref f31) else if s = "fits_later" then (.ref f29) else .ref 0) none) 1 m_Flow_parts) := ⟨O37, B37⟩
  have O38 := ok__law_tried (P := l.prog) (w := w) (mg := mg) (base := base) (ca := fun s => if s = "BadFlow" then C_BadFlow else if s = "Flow" then C_Flow else if s = "RunsError" then C_RunsError else if s = "BadSpot" then C_BadSpot else if s = "BadSite" then C_BadSite else if s = "BadRow" then C_BadRow else if s = "BadLine" then C_BadLine else 0) (fa := fun s => if s = "SHAPES" then (.ref d_SHAPES) else if s = "TESTS" then (.ref d_TESTS) else if s = "fits_variable" then (.ref f24) else if s = "fits_variables" then (.ref f23) else if s = "fits_word" then (.ref f22) else if s = "fits_many" then (.ref f28) else if s = "fits_operation" then (.ref f26) else if s = "fits_name" then (.ref f27) else if s = "fits_row" then (.ref f25) else if s = "fits_chain" then (.ref f30) else if s = "fits_block" then (.ref f31) else if s = "fits_later" then (.ref f29) else .ref 0) F38 (if_pos rfl) (PySem.W.mg_of X G zc_BadFlow) ((if_neg (by decide +kernel)).trans (if_pos rfl)) (PySem.W.mg_of X G zc_Flow) ((if_neg (by decide +kernel)).trans ((if_neg (by decide +kernel)).trans (if_pos rfl))) (PySem.W.mg_of X G zc_RunsError) ((if_neg (by decide +kernel)).trans ((if_neg (by decide +kernel)).trans ((if_neg (by decide +kernel)).trans (if_pos rfl)))) (PySem.W.mg_of X G zc_BadSpot) ((if_neg (by decide +kernel)).trans ((if_neg (by decide +kernel)).trans ((if_neg (by decide +kernel)).trans ((if_neg (by decide +kernel)).trans (if_pos rfl))))) (PySem.W.mg_of X G zc_BadSite) ((if_neg (by decide +kernel)).trans ((if_neg (by decide +kernel)).trans ((if_neg (by decide +kernel)).trans ((if_neg (by decide +kernel)).trans ((if_neg (by decide +kernel)).trans (if_pos rfl)))))) (PySem.W.mg_of X G zc_BadRow) ((if_neg (by decide +kernel)).trans ((if_neg (by decide +kernel)).trans ((if_neg (by decide +kernel)).trans ((if_neg (by decide +kernel)).trans ((if_neg (by decide +kernel)).trans ((if_neg (by decide +kernel)).trans (if_pos rfl))))))) (PySem.W.mg_of X G zc_BadLine) ⟨⟨pg_Flow, hd_Flow, po_Flow, sa_Flow⟩, by intro f hf; simp only [List.mem_cons, List.not_mem_nil, or_false] at hf; rcases hf with rfl | rfl | rfl | rfl | rfl <;> assumption⟩ C35 C36 C37 ⟨mk_Flow, a35, ki_Flow, kc_Flow⟩ (exm_own ze1_BadFlow_BadFlow ze2_BadFlow_BadFlow ze3_BadFlow_BadFlow ze4_BadFlow_BadFlow) ⟨⟨⟨_, _, _, _, _, _, _, _, _, _, _, _, _, _, _, xL_BadFlow, by rfl⟩, xs_BadFlow, xe_BadFlow, xt_BadFlow, xk_BadFlow⟩, ⟨xg_BadFlow, xh_BadFlow, xe_BadFlow, xd_BadFlow⟩, ⟨xg_BadFlow, xh_BadFlow, xe_BadFlow, xd_BadFlow, xa_BadFlow, xn_BadFlow, xq_BadFlow, xm_BadFlow⟩, by intro f hf; simp only [List.mem_cons, List.not_mem_nil, or_false] at hf; rcases hf with rfl | rfl <;> assumption⟩ (kit_own zk1_BadFlow_RunsError zk2_BadFlow_RunsError zk3_BadFlow_RunsError zk4_BadFlow_RunsError) (kit_type (by decide +kernel) zk3_BadFlow_ValueError) (kit_own zk1_BadFlow_BadSpot zk2_BadFlow_BadSpot zk3_BadFlow_BadSpot zk4_BadFlow_BadSpot) (kit_own zk1_BadFlow_BadSite zk2_BadFlow_BadSite zk3_BadFlow_BadSite zk4_BadFlow_BadSite) (kit_own zk1_BadFlow_BadRow zk2_BadFlow_BadRow zk3_BadFlow_BadRow zk4_BadFlow_BadRow) (kit_own zk1_BadFlow_BadLine zk2_BadFlow_BadLine zk3_BadFlow_BadLine zk4_BadFlow_BadLine) ⟨a37, mi_Flow_parts, k37⟩ (PySem.W.mg_none_of X G z_tuple) (PySem.W.mg_none_of X G z_isinstance) (PySem.W.mg_none_of X G z_ValueError)
  have C38 : Callee l.prog w K mg base 42 f38 _ "_law_tried" _ (spM (M.Env.mk K (fun s => if s = "BadFlow" then C_BadFlow else if s = "Flow" then C_Flow else if s = "RunsError" then C_RunsError else if s = "BadSpot" then C_BadSpot else if s = "BadSite" then C_BadSite else if s = "BadRow" then C_BadRow else if s = "BadLine" then C_BadLine else 0) (fun s => if s = "SHAPES" then (.ref d_SHAPES) else if s = "TESTS" then (.ref d_TESTS) else if s = "fits_variable" then (.ref f24) else if s = "fits_variables" then (.ref f23) else if s = "fits_word" then (.ref f22) else if s = "fits_many" then (.ref f28) else if s = "fits_operation" then (.ref f26) else if s = "fits_name" then (.ref f27) else if s = "fits_row" then (.ref f25) else if s = "fits_chain" then (.ref f30) else if s = "fits_block" then (.ref f31) else if s = "fits_later" then (.ref f29) else .ref 0) none) 4 m__law_tried) := ⟨O38, k38, B38, PySem.W.mg_of X G a38⟩
  have O39 := ok__law_odd_row (P := l.prog) (w := w) (mg := mg) (base := base) (ca := fun s => if s = "BadFlow" then C_BadFlow else if s = "Flow" then C_Flow else if s = "RunsError" then C_RunsError else if s = "BadSpot" then C_BadSpot else if s = "BadSite" then C_BadSite else if s = "BadRow" then C_BadRow else if s = "BadLine" then C_BadLine else 0) (fa := fun s => if s = "SHAPES" then (.ref d_SHAPES) else if s = "TESTS" then (.ref d_TESTS) else if s = "fits_variable" then (.ref f24) else if s = "fits_variables" then (.ref f23) else if s = "fits_word" then (.ref f22) else if s = "fits_many" then (.ref f28) else if s = "fits_operation" then (.ref f26) else if s = "fits_name" then (.ref f27) else if s = "fits_row" then (.ref f25) else if s = "fits_chain" then (.ref f30) else if s = "fits_block" then (.ref f31) else if s = "fits_later" then (.ref f29) else .ref 0) F39 C2 C1 (PySem.W.mg_none_of X G z_len) (PySem.W.mg_none_of X G z_max)
  have C39 : Callee l.prog w K mg base 3 f39 _ "_law_odd_row" _ (spM (M.Env.mk K (fun s => if s = "BadFlow" then C_BadFlow else if s = "Flow" then C_Flow else if s = "RunsError" then C_RunsError else if s = "BadSpot" then C_BadSpot else if s = "BadSite" then C_BadSite else if s = "BadRow" then C_BadRow else if s = "BadLine" then C_BadLine else 0) (fun s => if s = "SHAPES" then (.ref d_SHAPES) else if s = "TESTS" then (.ref d_TESTS) else if s = "fits_variable" then (.ref f24) else if s = "fits_variables" then (.ref f23) else if s = "fits_word" then (.ref f22) else if s = "fits_many" then (.ref f28) else if s = "fits_operation" then (.ref f26) else if s = "fits_name" then (.ref f27) else if s = "fits_row" then (.ref f25) else if s = "fits_chain" then (.ref f30) else if s = "fits_block" then (.ref f31) else if s = "fits_later" then (.ref f29) else .ref 0) none) 3 m__law_odd_row) := ⟨O39, k39, B39, PySem.W.mg_of X G a39⟩
  have O40 := ok__law_odd (P := l.prog) (w := w) (mg := mg) (base := base) (ca := fun s => if s = "BadFlow" then C_BadFlow else if s = "Flow" then C_Flow else if s = "RunsError" then C_RunsError else if s = "BadSpot" then C_BadSpot else if s = "BadSite" then C_BadSite else if s = "BadRow" then C_BadRow else if s = "BadLine" then C_BadLine else 0) (fa := fun s => if s = "SHAPES" then (.ref d_SHAPES) else if s = "TESTS" then (.ref d_TESTS) else if s = "fits_variable" then (.ref f24) else if s = "fits_variables" then (.ref f23) else if s = "fits_word" then (.ref f22) else if s = "fits_many" then (.ref f28) else if s = "fits_operation" then (.ref f26) else if s = "fits_name" then (.ref f27) else if s = "fits_row" then (.ref f25) else if s = "fits_chain" then (.ref f30) else if s = "fits_block" then (.ref f31) else if s = "fits_later" then (.ref f29) else .ref 0) F40 C2
  have C40 : Callee l.prog w K mg base 3 f40 _ "_law_odd" _ (spM (M.Env.mk K (fun s => if s = "BadFlow" then C_BadFlow else if s = "Flow" then C_Flow else if s = "RunsError" then C_RunsError else if s = "BadSpot" then C_BadSpot else if s = "BadSite" then C_BadSite else if s = "BadRow" then C_BadRow else if s = "BadLine" then C_BadLine else 0) (fun s => if s = "SHAPES" then (.ref d_SHAPES) else if s = "TESTS" then (.ref d_TESTS) else if s = "fits_variable" then (.ref f24) else if s = "fits_variables" then (.ref f23) else if s = "fits_word" then (.ref f22) else if s = "fits_many" then (.ref f28) else if s = "fits_operation" then (.ref f26) else if s = "fits_name" then (.ref f27) else if s = "fits_row" then (.ref f25) else if s = "fits_chain" then (.ref f30) else if s = "fits_block" then (.ref f31) else if s = "fits_later" then (.ref f29) else .ref 0) none) 5 m__law_odd) := ⟨O40, k40, B40, PySem.W.mg_of X G a40⟩
  have O41 := ok__law_entry_bent (P := l.prog) (w := w) (mg := mg) (base := base) (ca := fun s => if s = "BadFlow" then C_BadFlow else if s = "Flow" then C_Flow else if s = "RunsError" then C_RunsError else if s = "BadSpot" then C_BadSpot else if s = "BadSite" then C_BadSite else if s = "BadRow" then C_BadRow else if s = "BadLine" then C_BadLine else 0) (fa := fun s => if s = "SHAPES" then (.ref d_SHAPES) else if s = "TESTS" then (.ref d_TESTS) else if s = "fits_variable" then (.ref f24) else if s = "fits_variables" then (.ref f23) else if s = "fits_word" then (.ref f22) else if s = "fits_many" then (.ref f28) else if s = "fits_operation" then (.ref f26) else if s = "fits_name" then (.ref f27) else if s = "fits_row" then (.ref f25) else if s = "fits_chain" then (.ref f30) else if s = "fits_block" then (.ref f31) else if s = "fits_later" then (.ref f29) else .ref 0) F41 C1 C39 C40 (PySem.W.mg_none_of X G z_len) (PySem.W.mg_none_of X G z_list) (PySem.W.mg_none_of X G z_tuple)
  have C41 : Callee l.prog w K mg base 4 f41 _ "_law_entry_bent" _ (spM (M.Env.mk K (fun s => if s = "BadFlow" then C_BadFlow else if s = "Flow" then C_Flow else if s = "RunsError" then C_RunsError else if s = "BadSpot" then C_BadSpot else if s = "BadSite" then C_BadSite else if s = "BadRow" then C_BadRow else if s = "BadLine" then C_BadLine else 0) (fun s => if s = "SHAPES" then (.ref d_SHAPES) else if s = "TESTS" then (.ref d_TESTS) else if s = "fits_variable" then (.ref f24) else if s = "fits_variables" then (.ref f23) else if s = "fits_word" then (.ref f22) else if s = "fits_many" then (.ref f28) else if s = "fits_operation" then (.ref f26) else if s = "fits_name" then (.ref f27) else if s = "fits_row" then (.ref f25) else if s = "fits_chain" then (.ref f30) else if s = "fits_block" then (.ref f31) else if s = "fits_later" then (.ref f29) else .ref 0) none) 4 m__law_entry_bent) := ⟨O41, k41, B41, PySem.W.mg_of X G a41⟩
  have O42 := ok__law_deed_bent (P := l.prog) (w := w) (mg := mg) (base := base) (ca := fun s => if s = "BadFlow" then C_BadFlow else if s = "Flow" then C_Flow else if s = "RunsError" then C_RunsError else if s = "BadSpot" then C_BadSpot else if s = "BadSite" then C_BadSite else if s = "BadRow" then C_BadRow else if s = "BadLine" then C_BadLine else 0) (fa := fun s => if s = "SHAPES" then (.ref d_SHAPES) else if s = "TESTS" then (.ref d_TESTS) else if s = "fits_variable" then (.ref f24) else if s = "fits_variables" then (.ref f23) else if s = "fits_word" then (.ref f22) else if s = "fits_many" then (.ref f28) else if s = "fits_operation" then (.ref f26) else if s = "fits_name" then (.ref f27) else if s = "fits_row" then (.ref f25) else if s = "fits_chain" then (.ref f30) else if s = "fits_block" then (.ref f31) else if s = "fits_later" then (.ref f29) else .ref 0) F42 C1 C2 C41 (PySem.W.mg_none_of X G z_len)
  have C42 : Callee l.prog w K mg base 5 f42 _ "_law_deed_bent" _ (spM (M.Env.mk K (fun s => if s = "BadFlow" then C_BadFlow else if s = "Flow" then C_Flow else if s = "RunsError" then C_RunsError else if s = "BadSpot" then C_BadSpot else if s = "BadSite" then C_BadSite else if s = "BadRow" then C_BadRow else if s = "BadLine" then C_BadLine else 0) (fun s => if s = "SHAPES" then (.ref d_SHAPES) else if s = "TESTS" then (.ref d_TESTS) else if s = "fits_variable" then (.ref f24) else if s = "fits_variables" then (.ref f23) else if s = "fits_word" then (.ref f22) else if s = "fits_many" then (.ref f28) else if s = "fits_operation" then (.ref f26) else if s = "fits_name" then (.ref f27) else if s = "fits_row" then (.ref f25) else if s = "fits_chain" then (.ref f30) else if s = "fits_block" then (.ref f31) else if s = "fits_later" then (.ref f29) else .ref 0) none) 4 m__law_deed_bent) := ⟨O42, k42, B42, PySem.W.mg_of X G a42⟩
  have O43 := ok__law_block_bent (P := l.prog) (w := w) (mg := mg) (base := base) (ca := fun s => if s = "BadFlow" then C_BadFlow else if s = "Flow" then C_Flow else if s = "RunsError" then C_RunsError else if s = "BadSpot" then C_BadSpot else if s = "BadSite" then C_BadSite else if s = "BadRow" then C_BadRow else if s = "BadLine" then C_BadLine else 0) (fa := fun s => if s = "SHAPES" then (.ref d_SHAPES) else if s = "TESTS" then (.ref d_TESTS) else if s = "fits_variable" then (.ref f24) else if s = "fits_variables" then (.ref f23) else if s = "fits_word" then (.ref f22) else if s = "fits_many" then (.ref f28) else if s = "fits_operation" then (.ref f26) else if s = "fits_name" then (.ref f27) else if s = "fits_row" then (.ref f25) else if s = "fits_chain" then (.ref f30) else if s = "fits_block" then (.ref f31) else if s = "fits_later" then (.ref f29) else .ref 0) F43 C1 C12 C42 (PySem.W.mg_none_of X G z_len) (PySem.W.mg_none_of X G z_list) (PySem.W.mg_none_of X G z_tuple)
  have C43 : Callee l.prog w K mg base 6 f43 _ "_law_block_bent" _ (spM (M.Env.mk K (fun s => if s = "BadFlow" then C_BadFlow else if s = "Flow" then C_Flow else if s = "RunsError" then C_RunsError else if s = "BadSpot" then C_BadSpot else if s = "BadSite" then C_BadSite else if s = "BadRow" then C_BadRow else if s = "BadLine" then C_BadLine else 0) (fun s => if s = "SHAPES" then (.ref d_SHAPES) else if s = "TESTS" then (.ref d_TESTS) else if s = "fits_variable" then (.ref f24) else if s = "fits_variables" then (.ref f23) else if s = "fits_word" then (.ref f22) else if s = "fits_many" then (.ref f28) else if s = "fits_operation" then (.ref f26) else if s = "fits_name" then (.ref f27) else if s = "fits_row" then (.ref f25) else if s = "fits_chain" then (.ref f30) else if s = "fits_block" then (.ref f31) else if s = "fits_later" then (.ref f29) else .ref 0) none) 4 m__law_block_bent) := ⟨O43, k43, B43, PySem.W.mg_of X G a43⟩
  have O44 := ok__law_heads_bent (P := l.prog) (w := w) (mg := mg) (base := base) (ca := fun s => if s = "BadFlow" then C_BadFlow else if s = "Flow" then C_Flow else if s = "RunsError" then C_RunsError else if s = "BadSpot" then C_BadSpot else if s = "BadSite" then C_BadSite else if s = "BadRow" then C_BadRow else if s = "BadLine" then C_BadLine else 0) (fa := fun s => if s = "SHAPES" then (.ref d_SHAPES) else if s = "TESTS" then (.ref d_TESTS) else if s = "fits_variable" then (.ref f24) else if s = "fits_variables" then (.ref f23) else if s = "fits_word" then (.ref f22) else if s = "fits_many" then (.ref f28) else if s = "fits_operation" then (.ref f26) else if s = "fits_name" then (.ref f27) else if s = "fits_row" then (.ref f25) else if s = "fits_chain" then (.ref f30) else if s = "fits_block" then (.ref f31) else if s = "fits_later" then (.ref f29) else .ref 0) F44 C2 C1 (PySem.W.mg_none_of X G z_list) (PySem.W.mg_none_of X G z_len)
  have C44 : Callee l.prog w K mg base 3 f44 _ "_law_heads_bent" _ (spM (M.Env.mk K (fun s => if s = "BadFlow" then C_BadFlow else if s = "Flow" then C_Flow else if s = "RunsError" then C_RunsError else if s = "BadSpot" then C_BadSpot else if s = "BadSite" then C_BadSite else if s = "BadRow" then C_BadRow else if s = "BadLine" then C_BadLine else 0) (fun s => if s = "SHAPES" then (.ref d_SHAPES) else if s = "TESTS" then (.ref d_TESTS) else if s = "fits_variable" then (.ref f24) else if s = "fits_variables" then (.ref f23) else if s = "fits_word" then (.ref f22) else if s = "fits_many" then (.ref f28) else if s = "fits_operation" then (.ref f26) else if s = "fits_name" then (.ref f27) else if s = "fits_row" then (.ref f25) else if s = "fits_chain" then (.ref f30) else if s = "fits_block" then (.ref f31) else if s = "fits_later" then (.ref f29) else .ref 0) none) 3 m__law_heads_bent) := ⟨O44, k44, B44, PySem.W.mg_of X G a44⟩
  have O45 := ok_law (P := l.prog) (w := w) (mg := mg) (base := base) (ca := fun s => if s = "BadFlow" then C_BadFlow else if s = "Flow" then C_Flow else if s = "RunsError" then C_RunsError else if s = "BadSpot" then C_BadSpot else if s = "BadSite" then C_BadSite else if s = "BadRow" then C_BadRow else if s = "BadLine" then C_BadLine else 0) (fa := fun s => if s = "SHAPES" then (.ref d_SHAPES) else if s = "TESTS" then (.ref d_TESTS) else if s = "fits_variable" then (.ref f24) else if s = "fits_variables" then (.ref f23) else if s = "fits_word" then (.ref f22) else if s = "fits_many" then (.ref f28) else if s = "fits_operation" then (.ref f26) else if s = "fits_name" then (.ref f27) else if s = "fits_row" then (.ref f25) else if s = "fits_chain" then (.ref f30) else if s = "fits_block" then (.ref f31) else if s = "fits_later" then (.ref f29) else .ref 0) F45 nonfaP C0 C2 C1 C3 C4 C13 C18 C38 C43 C44 C36 (PySem.W.mg_none_of X G z_len) (PySem.W.mg_none_of X G z_range)
  exact O45
end Lk84
open PySem PySem.W PyProof.Rows
set_option maxRecDepth 100000 in
set_option maxHeartbeats 0 in
theorem PySem.Challenge.cw_sameruns_k84_bad_flows_holds : PySem.Challenge.rw_sameruns_k84_bad_flows.Holds := by
  w_on; o_law; k_head; (case hw => w_witness2)
  k_fill
  refine L2.walk_of (l := PySem.Challenge.rw_sameruns_k84_bad_flows) (n := 63) (k := 46) (x := "script") (CX := fun _ => L2.CX0) (sp := fun w => M.spLaw _) rfl (by decide) rfl ⟨rfl, by decide, by decide⟩ (fun w h Y => PySem.W.kIn_of Y) ?F (fun _ _ a ns hl _ hS => ⟨a, ns, rfl, hS, hl, fun _ => rfl⟩) (fun _ _ _ _ _ h => h)
  case F =>
    intro w mg fa h KX G hmg
    refine' M.law_end Lk84.law_true (Lk84.all_mk KX G hmg ?zc_BadFlow ?zc_RunsError ?zc_Flow ?zc_BadSpot ?zc_BadSite ?zc_BadRow ?zc_BadLine ?a0 ?l0 ?c0 ?k0 ?a1 ?l1 ?c1 ?k1 ?a2 ?l2 ?c2 ?k2 ?a3 ?l3 ?c3 ?k3 ?a4 ?l4 ?c4 ?k4 ?a5 ?l5 ?c5 ?k5 ?a6 ?l6 ?c6 ?k6 ?a7 ?l7 ?c7 ?k7 ?a8 ?l8 ?c8 ?k8 ?a9 ?l9 ?c9 ?k9 ?a10 ?l10 ?c10 ?k10 ?a11 ?l11 ?c11 ?k11 ?a12 ?l12 ?c12 ?k12 ?a13 ?l13 ?c13 ?k13 ?a14 ?l14 ?c14 ?k14 ?a15 ?l15 ?c15 ?k15 ?a16 ?l16 ?c16 ?k16 ?a17 ?l17 ?c17 ?k17 ?a18 ?l18 ?c18 ?k18 ?a19 ?l19 ?c19 ?k19 ?a20 ?l20 ?c20 ?k20 ?a21 ?l21 ?c21 ?k21 ?a22 ?l22 ?c22 ?k22 ?a23 ?l23 ?c23 ?k23 ?a24 ?l24 ?c24 ?k24 ?a25 ?l25 ?c25 ?k25 ?a26 ?l26 ?c26 ?k26 ?a27 ?l27 ?c27 ?k27 ?a28 ?l28 ?c28 ?k28 ?a29 ?l29 ?c29 ?k29 ?a30 ?l30 ?c30 ?k30 ?a31 ?l31 ?c31 ?k31 ?a32 ?l32 ?c32 ?k32 ?a33 ?l33 ?c33 ?k33 ?a34 ?l34 ?c34 ?k34 ?a35 ?l35 ?c35 ?k35 ?a36 ?l36 ?c36 ?k36 ?a37 ?l37 ?c37 ?k37 ?a38 ?l38 ?c38 ?k38 ?a39 ?l39 ?c39 ?k39 ?a40 ?l40 ?c40 ?k40 ?a41 ?l41 ?c41 ?k41 ?a42 ?l42 ?c42 ?k42 ?a43 ?l43 ?c43 ?k43 ?a44 ?l44 ?c44 ?k44 ?a45 ?l45 ?c45 ?k45 ?z_list ?z_len ?z_abs ?z_int ?z_range ?z_min ?z_tuple ?z_isinstance ?z_bool ?z_str ?z_all ?z_enumerate ?z_zip ?z_set ?z_ValueError ?z_max ?z_LEAST ?z_GREATEST ?pg_Flow ?hd_Flow ?po_Flow ?sa_Flow ?n_Flow_name ?n_Flow_params ?n_Flow_count ?n_Flow_arrays ?n_Flow_blocks ?z_OPERATIONS ?zy_OPERATIONS ?zx_OPERATIONS ?zw_OPERATIONS ?z_MOST_PLACES ?zA_SHAPES ?zD_SHAPES ?zL_SHAPES ?zS_SHAPES ?ze_SHAPES_k0 ?zy_SHAPES_k0 ?zx_SHAPES_k0 ?zw_SHAPES_k0 ?ze_SHAPES_k1 ?zy_SHAPES_k1 ?zx_SHAPES_k1 ?zw_SHAPES_k1 ?ze_SHAPES_k2 ?zy_SHAPES_k2 ?zx_SHAPES_k2 ?zw_SHAPES_k2 ?ze_SHAPES_k3 ?zy_SHAPES_k3 ?zx_SHAPES_k3 ?zw_SHAPES_k3 ?ze_SHAPES_k4 ?zy_SHAPES_k4 ?zx_SHAPES_k4 ?zw_SHAPES_k4 ?ze_SHAPES_k5 ?zy_SHAPES_k5 ?zx_SHAPES_k5 ?zw_SHAPES_k5 ?ze_SHAPES_k6 ?zy_SHAPES_k6 ?zx_SHAPES_k6 ?zw_SHAPES_k6 ?ze_SHAPES_k7 ?zy_SHAPES_k7 ?zx_SHAPES_k7 ?zw_SHAPES_k7 ?ze_SHAPES_k8 ?zy_SHAPES_k8 ?zx_SHAPES_k8 ?zw_SHAPES_k8 ?ze_SHAPES_k9 ?zy_SHAPES_k9 ?zx_SHAPES_k9 ?zw_SHAPES_k9 ?ze_SHAPES_k10 ?zy_SHAPES_k10 ?zx_SHAPES_k10 ?zw_SHAPES_k10 ?ze_SHAPES_k11 ?zy_SHAPES_k11 ?zx_SHAPES_k11 ?zw_SHAPES_k11 ?ze_SHAPES_k12 ?zy_SHAPES_k12 ?zx_SHAPES_k12 ?zw_SHAPES_k12 ?ze_SHAPES_k13 ?zy_SHAPES_k13 ?zx_SHAPES_k13 ?zw_SHAPES_k13 ?ze_SHAPES_k14 ?zy_SHAPES_k14 ?zx_SHAPES_k14 ?zw_SHAPES_k14 ?ze_SHAPES_k15 ?zy_SHAPES_k15 ?zx_SHAPES_k15 ?zw_SHAPES_k15 ?ze_SHAPES_k16 ?zy_SHAPES_k16 ?zx_SHAPES_k16 ?zw_SHAPES_k16 ?ze_SHAPES_k17 ?zy_SHAPES_k17 ?zx_SHAPES_k17 ?zw_SHAPES_k17 ?ze_SHAPES_m0 ?ze_SHAPES_m1 ?ze_SHAPES_m2 ?ze_SHAPES_m3 ?ze_SHAPES_m4 ?ze_SHAPES_m5 ?ze_SHAPES_m6 ?zA_TESTS ?zD_TESTS ?zL_TESTS ?zS_TESTS ?ze_TESTS_k0 ?ze_TESTS_k1 ?ze_TESTS_k2 ?ze_TESTS_k3 ?ze_TESTS_k4 ?ze_TESTS_k5 ?ze_TESTS_k6 ?ze_TESTS_k7 ?ze_TESTS_k8 ?ze_TESTS_k9 ?ze_TESTS_k10 ?ze_TESTS_k11 ?ze_TESTS_k12 ?z_ENDS ?zy_ENDS ?zx_ENDS ?zw_ENDS ?xL_BadFlow ?xs_BadFlow ?xe_BadFlow ?xt_BadFlow ?xk_BadFlow ?xg_BadFlow ?xh_BadFlow ?xd_BadFlow ?xa_BadFlow ?xn_BadFlow ?xq_BadFlow ?xm_BadFlow ?xf_block_BadFlow ?xf_position_BadFlow ?jt_BadFlow ?mk_Flow ?ki_Flow ?kc_Flow ?ze1_BadFlow_BadFlow ?ze2_BadFlow_BadFlow ?ze3_BadFlow_BadFlow ?ze4_BadFlow_BadFlow ?zk1_BadFlow_RunsError ?zk2_BadFlow_RunsError ?zk3_BadFlow_RunsError ?zk4_BadFlow_RunsError ?zk3_BadFlow_ValueError ?zk1_BadFlow_BadSpot ?zk2_BadFlow_BadSpot ?zk3_BadFlow_BadSpot ?zk4_BadFlow_BadSpot ?zk1_BadFlow_BadSite ?zk2_BadFlow_BadSite ?zk3_BadFlow_BadSite ?zk4_BadFlow_BadSite ?zk1_BadFlow_BadRow ?zk2_BadFlow_BadRow ?zk3_BadFlow_BadRow ?zk4_BadFlow_BadRow ?zk1_BadFlow_BadLine ?zk2_BadFlow_BadLine ?zk3_BadFlow_BadLine ?zk4_BadFlow_BadLine ?mi_Flow_parts)
    (case zc_BadFlow => k_is); (case zc_RunsError => k_is); (case zc_Flow => k_is); (case zc_BadSpot => k_is); (case zc_BadSite => k_is); (case zc_BadRow => k_is); (case zc_BadLine => k_is); (case a0 => k_is); (case l0 => k_is); (case c0 => k_is); (case k0 => k_is); (case a1 => k_is); (case l1 => k_is); (case c1 => k_is); (case k1 => k_is); (case a2 => k_is); (case l2 => k_is); (case c2 => k_is); (case k2 => k_is); (case a3 => k_is); (case l3 => k_is); (case c3 => k_is); (case k3 => k_is); (case a4 => k_is); (case l4 => k_is); (case c4 => k_is); (case k4 => k_is); (case a5 => k_is); (case l5 => k_is); (case c5 => k_is); (case k5 => k_is); (case a6 => k_is); (case l6 => k_is); (case c6 => k_is); (case k6 => k_is); (case a7 => k_is); (case l7 => k_is); (case c7 => k_is); (case k7 => k_is); (case a8 => k_is); (case l8 => k_is); (case c8 => k_is); (case k8 => k_is); (case a9 => k_is); (case l9 => k_is); (case c9 => k_is); (case k9 => k_is); (case a10 => k_is); (case l10 => k_is); (case c10 => k_is); (case k10 => k_is); (case a11 => k_is); (case l11 => k_is); (case c11 => k_is); (case k11 => k_is); (case a12 => k_is); (case l12 => k_is); (case c12 => k_is); (case k12 => k_is); (case a13 => k_is); (case l13 => k_is); (case c13 => k_is); (case k13 => k_is); (case a14 => k_is); (case l14 => k_is); (case c14 => k_is); (case k14 => k_is); (case a15 => k_is); (case l15 => k_is); (case c15 => k_is); (case k15 => k_is); (case a16 => k_is); (case l16 => k_is); (case c16 => k_is); (case k16 => k_is); (case a17 => k_is); (case l17 => k_is); (case c17 => k_is); (case k17 => k_is); (case a18 => k_is); (case l18 => k_is); (case c18 => k_is); (case k18 => k_is); (case a19 => k_is); (case l19 => k_is); (case c19 => k_is); (case k19 => k_is); (case a20 => k_is); (case l20 => k_is); (case c20 => k_is); (case k20 => k_is); (case a21 => k_is); (case l21 => k_is); (case c21 => k_is); (case k21 => k_is); (case a22 => k_is); (case l22 => k_is); (case c22 => k_is); (case k22 => k_is); (case a23 => k_is); (case l23 => k_is); (case c23 => k_is); (case k23 => k_is); (case a24 => k_is); (case l24 => k_is); (case c24 => k_is); (case k24 => k_is); (case a25 => k_is); (case l25 => k_is); (case c25 => k_is); (case k25 => k_is); (case a26 => k_is); (case l26 => k_is); (case c26 => k_is); (case k26 => k_is); (case a27 => k_is); (case l27 => k_is); (case c27 => k_is); (case k27 => k_is); (case a28 => k_is); (case l28 => k_is); (case c28 => k_is); (case k28 => k_is); (case a29 => k_is); (case l29 => k_is); (case c29 => k_is); (case k29 => k_is); (case a30 => k_is); (case l30 => k_is); (case c30 => k_is); (case k30 => k_is); (case a31 => k_is); (case l31 => k_is); (case c31 => k_is); (case k31 => k_is); (case a32 => k_is); (case l32 => k_is); (case c32 => k_is); (case k32 => k_is); (case a33 => k_is); (case l33 => k_is); (case c33 => k_is); (case k33 => k_is); (case a34 => k_is); (case l34 => k_is); (case c34 => k_is); (case k34 => k_is); (case a35 => k_is); (case l35 => k_is); (case c35 => k_is); (case k35 => k_is); (case a36 => k_is); (case l36 => k_is); (case c36 => k_is); (case k36 => k_is); (case a37 => k_is); (case l37 => k_is); (case c37 => k_is); (case k37 => k_is); (case a38 => k_is); (case l38 => k_is); (case c38 => k_is); (case k38 => k_is); (case a39 => k_is); (case l39 => k_is); (case c39 => k_is); (case k39 => k_is); (case a40 => k_is); (case l40 => k_is); (case c40 => k_is); (case k40 => k_is); (case a41 => k_is); (case l41 => k_is); (case c41 => k_is); (case k41 => k_is); (case a42 => k_is); (case l42 => k_is); (case c42 => k_is); (case k42 => k_is); (case a43 => k_is); (case l43 => k_is); (case c43 => k_is); (case k43 => k_is); (case a44 => k_is); (case l44 => k_is); (case c44 => k_is); (case k44 => k_is); (case a45 => k_is); (case l45 => k_is); (case c45 => k_is); (case k45 => k_is); (case z_list => k_is); (case z_len => k_is); (case z_abs => k_is); (case z_int => k_is); (case z_range => k_is); (case z_min => k_is); (case z_tuple => k_is); (case z_isinstance => k_is); (case z_bool => k_is); (case z_str => k_is); (case z_all => k_is); (case z_enumerate => k_is); (case z_zip => k_is); (case z_set => k_is); (case z_ValueError => k_is); (case z_max => k_is); (case z_LEAST => k_is); (case z_GREATEST => k_is); (case pg_Flow => k_is); (case hd_Flow => k_is); (case po_Flow => k_is); (case sa_Flow => k_is); (case n_Flow_name => k_is); (case n_Flow_params => k_is); (case n_Flow_count => k_is); (case n_Flow_arrays => k_is); (case n_Flow_blocks => k_is); (case z_OPERATIONS => k_is); (case zy_OPERATIONS => k_is); (case zx_OPERATIONS => decide); (case zw_OPERATIONS => (repeat' (first | exact .nil | refine .cons ⟨_, rfl⟩ ?_ | refine .cons rfl ?_))); (case z_MOST_PLACES => k_is); (case zA_SHAPES => k_is); (case zD_SHAPES => k_is); (case zL_SHAPES => (exact ⟨⟨_, _, rfl, rfl⟩, ⟨_, _, rfl, rfl⟩, ⟨_, _, rfl, rfl⟩, ⟨_, _, rfl, rfl⟩, ⟨_, _, rfl, rfl⟩, ⟨_, _, rfl, rfl⟩, ⟨_, _, rfl, rfl⟩, ⟨_, _, rfl, rfl⟩, ⟨_, _, rfl, rfl⟩, ⟨_, _, rfl, rfl⟩, ⟨_, _, rfl, rfl⟩, ⟨_, _, rfl, rfl⟩, ⟨_, _, rfl, rfl⟩, ⟨_, _, rfl, rfl⟩, ⟨_, _, rfl, rfl⟩, ⟨_, _, rfl, rfl⟩, ⟨_, _, rfl, rfl⟩, ⟨_, _, rfl, rfl⟩, trivial⟩)); (case zS_SHAPES => rfl); (case ze_SHAPES_k0 => k_is); (case zy_SHAPES_k0 => k_is); (case zx_SHAPES_k0 => decide); (case zw_SHAPES_k0 => (repeat' (first | exact .nil | refine .cons ⟨_, rfl⟩ ?_ | refine .cons rfl ?_))); (case ze_SHAPES_k1 => k_is); (case zy_SHAPES_k1 => k_is); (case zx_SHAPES_k1 => decide); (case zw_SHAPES_k1 => (repeat' (first | exact .nil | refine .cons ⟨_, rfl⟩ ?_ | refine .cons rfl ?_))); (case ze_SHAPES_k2 => k_is); (case zy_SHAPES_k2 => k_is); (case zx_SHAPES_k2 => decide); (case zw_SHAPES_k2 => (repeat' (first | exact .nil | refine .cons ⟨_, rfl⟩ ?_ | refine .cons rfl ?_))); (case ze_SHAPES_k3 => k_is); (case zy_SHAPES_k3 => k_is); (case zx_SHAPES_k3 => decide); (case zw_SHAPES_k3 => (repeat' (first | exact .nil | refine .cons ⟨_, rfl⟩ ?_ | refine .cons rfl ?_))); (case ze_SHAPES_k4 => k_is); (case zy_SHAPES_k4 => k_is); (case zx_SHAPES_k4 => decide); (case zw_SHAPES_k4 => (repeat' (first | exact .nil | refine .cons ⟨_, rfl⟩ ?_ | refine .cons rfl ?_))); (case ze_SHAPES_k5 => k_is); (case zy_SHAPES_k5 => k_is); (case zx_SHAPES_k5 => decide); (case zw_SHAPES_k5 => (repeat' (first | exact .nil | refine .cons ⟨_, rfl⟩ ?_ | refine .cons rfl ?_))); (case ze_SHAPES_k6 => k_is); (case zy_SHAPES_k6 => k_is); (case zx_SHAPES_k6 => decide); (case zw_SHAPES_k6 => (repeat' (first | exact .nil | refine .cons ⟨_, rfl⟩ ?_ | refine .cons rfl ?_))); (case ze_SHAPES_k7 => k_is); (case zy_SHAPES_k7 => k_is); (case zx_SHAPES_k7 => decide); (case zw_SHAPES_k7 => (repeat' (first | exact .nil | refine .cons ⟨_, rfl⟩ ?_ | refine .cons rfl ?_))); (case ze_SHAPES_k8 => k_is); (case zy_SHAPES_k8 => k_is); (case zx_SHAPES_k8 => decide); (case zw_SHAPES_k8 => (repeat' (first | exact .nil | refine .cons ⟨_, rfl⟩ ?_ | refine .cons rfl ?_))); (case ze_SHAPES_k9 => k_is); (case zy_SHAPES_k9 => k_is); (case zx_SHAPES_k9 => decide); (case zw_SHAPES_k9 => (repeat' (first | exact .nil | refine .cons ⟨_, rfl⟩ ?_ | refine .cons rfl ?_))); (case ze_SHAPES_k10 => k_is); (case zy_SHAPES_k10 => k_is); (case zx_SHAPES_k10 => decide); (case zw_SHAPES_k10 => (repeat' (first | exact .nil | refine .cons ⟨_, rfl⟩ ?_ | refine .cons rfl ?_))); (case ze_SHAPES_k11 => k_is); (case zy_SHAPES_k11 => k_is); (case zx_SHAPES_k11 => decide); (case zw_SHAPES_k11 => (repeat' (first | exact .nil | refine .cons ⟨_, rfl⟩ ?_ | refine .cons rfl ?_))); (case ze_SHAPES_k12 => k_is); (case zy_SHAPES_k12 => k_is); (case zx_SHAPES_k12 => decide); (case zw_SHAPES_k12 => (repeat' (first | exact .nil | refine .cons ⟨_, rfl⟩ ?_ | refine .cons rfl ?_))); (case ze_SHAPES_k13 => k_is); (case zy_SHAPES_k13 => k_is); (case zx_SHAPES_k13 => decide); (case zw_SHAPES_k13 => (repeat' (first | exact .nil | refine .cons ⟨_, rfl⟩ ?_ | refine .cons rfl ?_))); (case ze_SHAPES_k14 => k_is); (case zy_SHAPES_k14 => k_is); (case zx_SHAPES_k14 => decide); (case zw_SHAPES_k14 => (repeat' (first | exact .nil | refine .cons ⟨_, rfl⟩ ?_ | refine .cons rfl ?_))); (case ze_SHAPES_k15 => k_is); (case zy_SHAPES_k15 => k_is); (case zx_SHAPES_k15 => decide); (case zw_SHAPES_k15 => (repeat' (first | exact .nil | refine .cons ⟨_, rfl⟩ ?_ | refine .cons rfl ?_))); (case ze_SHAPES_k16 => k_is); (case zy_SHAPES_k16 => k_is); (case zx_SHAPES_k16 => decide); (case zw_SHAPES_k16 => (repeat' (first | exact .nil | refine .cons ⟨_, rfl⟩ ?_ | refine .cons rfl ?_))); (case ze_SHAPES_k17 => k_is); (case zy_SHAPES_k17 => k_is); (case zx_SHAPES_k17 => decide); (case zw_SHAPES_k17 => (repeat' (first | exact .nil | refine .cons ⟨_, rfl⟩ ?_ | refine .cons rfl ?_))); (case ze_SHAPES_m0 => k_is); (case ze_SHAPES_m1 => k_is); (case ze_SHAPES_m2 => k_is); (case ze_SHAPES_m3 => k_is); (case ze_SHAPES_m4 => k_is); (case ze_SHAPES_m5 => k_is); (case ze_SHAPES_m6 => k_is); (case zA_TESTS => k_is); (case zD_TESTS => k_is); (case zL_TESTS => (exact ⟨⟨_, _, rfl, rfl⟩, ⟨_, _, rfl, rfl⟩, ⟨_, _, rfl, rfl⟩, ⟨_, _, rfl, rfl⟩, ⟨_, _, rfl, rfl⟩, ⟨_, _, rfl, rfl⟩, ⟨_, _, rfl, rfl⟩, ⟨_, _, rfl, rfl⟩, ⟨_, _, rfl, rfl⟩, ⟨_, _, rfl, rfl⟩, ⟨_, _, rfl, rfl⟩, ⟨_, _, rfl, rfl⟩, ⟨_, _, rfl, rfl⟩, trivial⟩)); (case zS_TESTS => rfl); (case ze_TESTS_k0 => k_is); (case ze_TESTS_k1 => k_is); (case ze_TESTS_k2 => k_is); (case ze_TESTS_k3 => k_is); (case ze_TESTS_k4 => k_is); (case ze_TESTS_k5 => k_is); (case ze_TESTS_k6 => k_is); (case ze_TESTS_k7 => k_is); (case ze_TESTS_k8 => k_is); (case ze_TESTS_k9 => k_is); (case ze_TESTS_k10 => k_is); (case ze_TESTS_k11 => k_is); (case ze_TESTS_k12 => k_is); (case z_ENDS => k_is); (case zy_ENDS => k_is); (case zx_ENDS => decide); (case zw_ENDS => (repeat' (first | exact .nil | refine .cons ⟨_, rfl⟩ ?_ | refine .cons rfl ?_))); (case xL_BadFlow => k_is); (case xs_BadFlow => k_is); (case xe_BadFlow => k_is); (case xt_BadFlow => k_is); (case xk_BadFlow => k_is); (case xg_BadFlow => k_is); (case xh_BadFlow => k_is); (case xd_BadFlow => k_is); (case xa_BadFlow => k_is); (case xn_BadFlow => k_is); (case xq_BadFlow => k_is); (case xm_BadFlow => k_is); (case xf_block_BadFlow => k_is); (case xf_position_BadFlow => k_is); (case jt_BadFlow => k_is); (case mk_Flow => k_is); (case ki_Flow => k_is); (case kc_Flow => k_is); (case ze1_BadFlow_BadFlow => k_is); (case ze2_BadFlow_BadFlow => k_is); (case ze3_BadFlow_BadFlow => k_is); (case ze4_BadFlow_BadFlow => k_is); (case zk1_BadFlow_RunsError => k_is); (case zk2_BadFlow_RunsError => k_is); (case zk3_BadFlow_RunsError => k_is); (case zk4_BadFlow_RunsError => rfl); (case zk3_BadFlow_ValueError => k_is); (case zk1_BadFlow_BadSpot => k_is); (case zk2_BadFlow_BadSpot => k_is); (case zk3_BadFlow_BadSpot => k_is); (case zk4_BadFlow_BadSpot => rfl); (case zk1_BadFlow_BadSite => k_is); (case zk2_BadFlow_BadSite => k_is); (case zk3_BadFlow_BadSite => k_is); (case zk4_BadFlow_BadSite => rfl); (case zk1_BadFlow_BadRow => k_is); (case zk2_BadFlow_BadRow => k_is); (case zk3_BadFlow_BadRow => k_is); (case zk4_BadFlow_BadRow => rfl); (case zk1_BadFlow_BadLine => k_is); (case zk2_BadFlow_BadLine => k_is); (case zk3_BadFlow_BadLine => k_is); (case zk4_BadFlow_BadLine => rfl); (case mi_Flow_parts => k_is)
