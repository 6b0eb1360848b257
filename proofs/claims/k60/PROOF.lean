import PyProof.Rows.All
import Wide.All
import OpenK.AllK
import Wide.FinOn
import HandS.ForMost
import HandS.ForExc
import HandS.Wide
import HandS.IsInst
import HandS.CallLocal
import HandS.More
import HandS.Codes
import HandS.TupAny
import HandS.Conv
import HandS.ExcInit
import HandS.TryOnly
import HandS.Zip
import HandS.Zip0
import HandS.Iter
import KE.GoesMore
import HandS.ExcIs
import HandS.ExcField
import HandS.ExcOwn
import HandS.WordsExc
import HandS.SetFor
import HandS.NoneIn
import KE.KExcIs
import HandS.TupMul
import HandS.Star
import HandS.Rev
import HandS.DictComp
import KE.KDictWalk
import HandS.Style
import HandS.WideBits
import HandS.SortInts
import HandS.RevRange
import HandS.FStr
import KE.GoesZip
import HandS.Deep
import PyProof.SumAnyB
import PyProof.Rows.SumGenD
import HandS.HotCalls
import HandS.ExcCtx
import HandS.Hot
import HandS.Property
import PySem.Challenge.RW_sameruns_k60_join_brackets
set_option Elab.async false
set_option linter.all false
set_option maxRecDepth 100000
set_option maxHeartbeats 4000000
open PySem PySem.W PyProof.Rows in
set_option maxHeartbeats 0 in
open_top Lk60.top for PySem.Challenge.rw_sameruns_k60_join_brackets
namespace ENT
open PySem PySem.Spec PyProof.Rows L2
theorem meets_enumT (l : Addr) (items : Array Value) :
    Meets (Builtin.«enumerate.__new__» ⟨[.type "enumerate", .ref l], []⟩) (fun _ R s => s.heap.IsTuple l items ∧
      R (.ok (.ret (.ref (s.heap.push { cls := .type "tuple_iterator", data := .fields #[.ref l, .int 0 0] }).objs.size)))
        { s with heap := (s.heap.push { cls := .type "tuple_iterator", data := .fields #[.ref l, .int 0 0] }).push { cls := .type "enumerate", data := .fields #[.none, .bool false, .ref s.heap.objs.size, rawInt 0, .none, .none] } }) :=
  .of_wp fun prog w A R s h => by
    obtain ⟨hp, g, d, tk, os⟩ := s; obtain ⟨hl, h⟩ := h
    have hsub := sub_enumerate
    have hL : Heap.IsTuple (Shared.heap ⟨hp, g, d, tk, os⟩) l items := hl
    wp_walk using wpAny_pyIter_tuple hL
    refine wpAny_stack_any fun st => wpAny_pure ?_
    split
    · rename_i c _ _ _ _ _
      cases (c == Value.type "enumerate")
      · wp_walk using wpAny_pyIter_tuple hL
        exact ⟨_, rfl, h⟩
      · wp_walk using wpAny_pyIter_tuple hL
        exact ⟨_, rfl, h⟩
    · wp_walk using wpAny_pyIter_tuple hL
      exact ⟨_, rfl, h⟩
theorem call_enumT {prog : Program} {w : World} {A : Around} {E : Value → Shared → Prop} {s : Shared} {l : Addr} {items : Array Value} {Q : Value → Shared → Prop} (hL : s.heap.IsTuple l items)
    (h : ∀ h', IsEnum h' (s.heap.objs.size + 1) s.heap.objs.size ((0 : Nat) : Int) .none → h'.IsTupleIter s.heap.objs.size l 0 → h'.objs.size = s.heap.objs.size + 2 →
      (∀ b o, s.heap.get? b = some o → h'.get? b = some o) → Q (.ref (s.heap.objs.size + 1)) { s with heap := h' }) :
    wpAny (model prog w) A (call (.type "enumerate") [.ref l]) Q E s := by
  refine callType_new F.called_enumerate (by decide) (F.typeCall_enumerate_1 _) (F.newCall_enumerate_1 _) (fun obj => F.args_object_init_2 obj _) F.entry_enumerate_new (meets_enumT l items) ⟨hL, ?_⟩
  generalize ho : ({ cls := .type "tuple_iterator", data := .fields #[.ref l, .int 0 0] } : Obj) = o
  have hz : (s.heap.push o).objs.size = s.heap.objs.size + 1 := Heap.size_push ..
  show _ ∧ _
  rw [hz]
  have he : IsEnum ((s.heap.push o).push { cls := .type "enumerate", data := .fields #[.none, .bool false, .ref s.heap.objs.size, rawInt 0, .none, .none] }) (s.heap.objs.size + 1) s.heap.objs.size 0 .none := by
    have := Heap.get?_push_size (s.heap.push o) (o := { cls := .type "enumerate", data := .fields #[.none, .bool false, .ref s.heap.objs.size, rawInt 0, .none, .none] }) rfl
    rw [hz] at this; exact this
  exact ⟨⟨_, he, rfl⟩, h _ he ⟨_, Heap.get?_push_of_some _ (Heap.get?_push_size _ (by subst ho; rfl)), by subst ho; rfl, by subst ho; rfl⟩ (by rw [Heap.size_push, hz]) fun b o x => Heap.get?_push_of_some _ (Heap.get?_push_of_some _ x)⟩
/-- enumerate of the tuple at a -/
def ItT (K : PySem.W.Frag) (a : Addr) : It :=
  ⟨fun i H => ∃ (xs : List V) (x : V), SqT K H a xs ∧ xs[i]? = some x, fun i H v H' => ∃ T x, v = .ref T ∧ H T = none ∧ H' = upd H T (.tup [.int (i : Nat), x]) ∧ ∀ xs, SqT K H a xs → xs[i]? = some x, fun i H => ∃ xs : List V, SqT K H a xs ∧ xs.length ≤ i⟩
theorem turn_enumT {P : Program} {w : World} {K : PySem.W.Frag} {elts : List Expr} {kk : Nat} {tpos : Pos} (a e it : Addr) :
    Turn P w K (.Tuple elts kk tpos) (ItT K a) [e, it] e (fun i h => (∃ old, IsEnum h e it ((i : Nat) : Int) old) ∧ h.IsTupleIter it a i ∧ e ≠ it ∧ a ≠ it ∧ a ≠ e) where
  mem := by simp
  obj := fun i h st b hb => by
    obtain ⟨⟨old, he⟩, ⟨o, ho, hc, hd⟩, _⟩ := st
    rcases List.mem_cons.mp hb with z | z
    · rw [z]; exact ⟨_, he, fun v q => nomatch q⟩
    · rw [List.mem_singleton.mp z]; exact ⟨o, ho, fun v q => by rw [hd] at q; cases q⟩
  keep := fun i h h' st k => let ⟨⟨old, he⟩, hi, hne⟩ := st; ⟨⟨old, k e (by simp) _ he⟩, hi.at fun o q => k it (by simp) o q, hne⟩
  item := by
    intro X hP hw hK hc i pins s σ H E I hf st hg
    subst hP hw hK
    obtain ⟨⟨old, he⟩, hit, hne, hai, hae⟩ := st
    obtain ⟨xs, x, hq, hx⟩ := hg
    obtain ⟨its, rv, p, _⟩ := I.tuple hq
    obtain ⟨u, hu, ru⟩ := rv.get hx
    have hel : e < s.heap.objs.size := Heap.lt_size he
    have hlt : i < its.toArray.size := by
      have := (List.getElem?_eq_some_iff.mp hu).1
      simpa using this
    have p' : s.heap.IsTuple a its.toArray := p
    refine wpAny_pyNext_enum_itemD (Draws.tuple (by exact I.ok.hd hc) it a hai its.toArray) he ⟨hit, p'⟩ hlt hne (by simp [hne, Ne.symm hae]) fun x' h' tk hP ho hst hT hsz hk => ?_
    have ex : x' = u := by
      have hP' : its.toArray[i]? = some x' := hP
      rw [List.getElem?_toArray, hu] at hP'
      exact (Option.some.inj hP').symm
    subst ex
    refine ⟨_, rfl, wpAny_letOwnedTupleGo_enum (s := { s with heap := h', toks := tk + 1 }) ho fun h'' he' sb => ?_⟩
    have hT2 : h''.get? s.heap.objs.size = some { cls := .type "tuple", data := .seq #[.int i tk, x'] } := (sb.2 _ (Nat.ne_of_gt hel)).trans hT
    have new : ObjOk X.prog X.w (upd H s.heap.objs.size (.tup [.int (i : Nat), x])) h'' s.heap.objs.size (.tup [.int (i : Nat), x]) :=
      ⟨by show 2 ≤ sizeLine; decide, [.int i tk, x'], .cons ⟨_, rfl⟩ (.cons ru .nil), ⟨_, hT2, rfl, _, rfl⟩⟩
    have I1 : Inv X pins σ (upd H s.heap.objs.size (.tup [.int (i : Nat), x])) { s with heap := h'', toks := tk + 1 } :=
      I.turnedNew (ch := [e, it]) (fun b ob hb q => (sb.2 b (fun z => hb (by simp [z]))).trans (hk b ob (fun z => hb (by simp [z])) (fun z => hb (by simp [z])) q)) hf (Nat.le_refl _) new
    refine ⟨.ref s.heap.objs.size, _, I1, rfl, ⟨_, x, rfl, I.hok.fresh (Nat.le_refl _), rfl, fun ys hy => by rw [I.tuple_inj hy hq]; exact hx⟩, ⟨⟨x', ?_⟩, hst.1.at fun o q => (sb.2 it (Ne.symm hne)).trans q, hne, hai, hae⟩, fun b hb => ?_⟩
    · have e1 : ((i + 1 : Nat) : Int) = (i : Int) + 1 := by omega
      rw [e1]; exact he'
    · have hb' : b < s.heap.objs.size := by
        rcases List.mem_cons.mp hb with z | z
        · rw [z]; exact hel
        · rw [List.mem_singleton.mp z]; obtain ⟨_, q, _⟩ := hit; exact Heap.lt_size q
      rw [upd_ne (Nat.ne_of_lt hb')]
      exact (hf b hb).1
  done := by
    intro X hP hw hK hc i pins s σ H E I hf st hg
    subst hP hw hK
    obtain ⟨⟨old, he⟩, hit, hne, hai, hae⟩ := st
    obtain ⟨xs, hq, hx⟩ := hg
    obtain ⟨its, rv, p, _⟩ := I.tuple hq
    have p' : s.heap.IsTuple a its.toArray := p
    obtain ⟨f0, f1, f2, f3, f4, f5⟩ := hf it (by simp)
    have hl := rv.length
    have hT : s.TypeIs (.ref e) "enumerate" := ⟨_, he, rfl⟩
    unfold pyNext
    refine wpAny_bind (wpAny_attempt (wpAny_callSpecial?_slot (name := Str.ofString "__next__") hT F.slot_enumerate_next
      (wpAny_call_entry F.slot_enumerate_next hT F.entry_enumerate_next ?_ (F.args_enumerate_next_1 _))))
    show wpAny _ _ (field (.ref e) 2 >>= _) _ _ _
    refine wpAny_bind (wpAny_field he rfl (x := .ref it) rfl ?_)
    refine wpAny_bind (RZ.nextOf_tuple_end (by exact I.ok.hd hc) hit p' (by simp; omega) fun h' x he' hx' => ?_)
    obtain ⟨o, ho, hcl⟩ := hx'
    refine wpAny_bind (wpAny_isInstance (T := "StopIteration") (b := true) ⟨o, ho, hcl⟩ isSubtype_stop ?_)
    exact wpAny_pure ⟨rfl, I.turned (t' := s.toks) (fun b o hb q => he' b o hb q) f0 f1 f3 f4 f5⟩
  self := fun A i s Q E st h => let ⟨⟨_, he⟩, _⟩ := st; wpAny_pyIter_enum he h
def iEnumT (K : PySem.W.Frag) (ta : TA) : TI := fun σ H R => ta σ H fun vs H1 => ∃ a xs, vs = [.ref a] ∧ SqT K H1 a xs ∧ R (ItT K a) H1
theorem pi_enumT {X : Cx} {e : Expr} {ta : TA} {p pos tpos : Pos} {elts : List Expr} {kk : Nat} (hg : Gl X "enumerate") (hm : X.mg "enumerate" = none) (ha : PA X [e] ta) (hs : starEach [e] X.env = [(false, eval e X.env)] := by rfl) :
    PI X (.Tuple elts kk tpos) (.Call (.Name "enumerate" p) [e] [] pos) (iEnumT X.K ta) := by
  refine ⟨fun pins s σ H R I h => ?_⟩
  refine Call_ (ld_blt I hg hm boot_enumerate (PyProof.Rows.callWith_type1 (thn (ha.run pos pins s σ H _ I h) fun us s1 ⟨vs, H1, I1, r1, q1⟩ => ?_) hs rfl))
  obtain ⟨a, xs, ex, hq, q⟩ := q1
  subst ex
  cases r1 with
  | cons r rr =>
    cases rr
    cases r
    obtain ⟨its, rv, p', _⟩ := I1.tuple hq
    have hT : s1.heap.IsTuple a its.toArray := p'
    obtain ⟨oa, hoa, _⟩ := id p'
    have hal : a < s1.heap.objs.size := Heap.lt_size hoa
    refine call_enumT hT fun h' he hit hsz hk => wpAny_pyIter_enum he ?_
    have I2 : Inv X pins σ H1 { s1 with heap := h' } := I1.kept (t' := s1.toks) hk
    refine ⟨s1.heap.objs.size + 1, [s1.heap.objs.size + 1, s1.heap.objs.size], _, _, H1, rfl, I2, turn_enumT a (s1.heap.objs.size + 1) s1.heap.objs.size, ⟨⟨.none, he⟩, hit, Nat.succ_ne_self _, Nat.ne_of_lt hal, Nat.ne_of_lt (Nat.lt_succ_of_lt hal)⟩, fun b hb => ?_, q⟩
    have hle : s1.heap.objs.size ≤ b := by
      rcases List.mem_cons.mp hb with z | z
      · rw [z]; exact Nat.le_add_right _ _
      · rw [List.mem_singleton.mp z]; exact Nat.le_refl _
    exact I1.fpOk hle (I1.hok.fresh hle)
/-- for i, x in enumerate(t), the two names of the target alone changing among the slots -/
theorem for_enumT {K : PySem.W.Frag} {a : Addr} {xs : List V} {tb : TS} {D : Ends} {σ : L2.St} {H : Hp} {g : TG} (Pv : Nat → L2.St → Hp → Prop) (h0 : Pv 0 σ H) (hq : ∀ i σ H, Pv i σ H → SqT K H a xs)
    (hs : ∀ (i : Nat) (x : V) (T : Addr) (σ : L2.St) (H : Hp), xs[i]? = some x → Pv i σ H → H T = none → g (.ref T) σ (upd H T (.tup [.int (i : Nat), x])) fun σ2 H2 => tb { D with nx := Pv (i + 1), ct := Pv (i + 1), bk := D.nx } σ2 H2) (hd : ∀ σ H, Pv xs.length σ H → D.nx σ H) :
    ∃ W : Nat → Nat → L2.St → Hp → Prop, (∃ m, W 0 m σ H) ∧ ∀ i m σ H, W i m σ H →
      ((ItT K a).stop i H ∧ D.nx σ H) ∨ ((ItT K a).go i H ∧ ∃ N : L2.St → Hp → Prop, (∀ σ' H', N σ' H' → ∃ m', m' < m ∧ W (i + 1) m' σ' H') ∧ ∀ v H', (ItT K a).yld i H v H' → g v σ H' fun σ2 H2 => tb { D with nx := N, ct := N, bk := D.nx } σ2 H2) := by
  refine ⟨fun i m σ H => m = xs.length - i ∧ i ≤ xs.length ∧ Pv i σ H, ⟨xs.length, rfl, Nat.zero_le _, h0⟩, ?_⟩
  rintro i m σ H ⟨rfl, hi, p⟩
  have qx := hq i σ H p
  by_cases hlt : i < xs.length
  · have hx : xs[i]? = some xs[i] := List.getElem?_eq_getElem hlt
    refine .inr ⟨⟨xs, _, qx, hx⟩, Pv (i + 1), fun σ' H' p' => ⟨xs.length - (i + 1), by omega, rfl, hlt, p'⟩, fun v H' y => ?_⟩
    obtain ⟨T, x', rfl, hT, rfl, f1⟩ := y
    exact hs i x' T σ H (f1 xs qx) p hT
  · have e : i = xs.length := by omega
    subst e
    exact .inl ⟨⟨xs, qx, Nat.le_refl _⟩, hd σ H p⟩
end ENT
/-! ### values as trees, the tracked heap, and how they stand for the layer's values and heap -/
namespace M
open PySem PySem.Spec PyProof.Rows L2

/-- a value: a tree of what never changes any more, and tracked objects by number -/
inductive T where
  | non | bl (b : Bool) | int (i : Int) | str (x : Str) | ref (a : Str)
  | tup (l : List T) | ktp (l : List T) | lst (l : List T) | rdl (l : List T) | inst (c : Str) (ns : List Str) (l : List T) | dct (ks : List Key) (l : List T) | dctT (ks : List (List Key)) (l : List T)
  | obj (i : Nat)
  deriving Inhabited
/-- a tracked object -/
inductive O where
  | lst (l : List T) | dct (m : List (Key × T)) | dctT (m : List (List Key × T)) | ins (c : Str) (m : List (Str × T))
  deriving Inhabited
abbrev AH := List (Option O)
/-- what is raised: its class, its fields -/
structure Exc where
  c : Str
  ns : List Str
  l : List T
  deriving Inhabited
/-- what an except suite holds: where it stands, its class, its own dict, the slot of its name -/
structure Ex where
  a : Addr
  cls : Value
  d : Option Addr
  i : Nat
  e : Exc
/-- what the names of the module stand for: the written part, the classes, other things by name; what is caught -/
structure Env where
  K : PySem.W.Frag
  ca : Str → Addr
  fa : Str → V
  ex : Option Ex
structure Sta where
  G : Env
  al : List Addr
  h : AH
  H : Hp
  /-- what is being made and may be touched by nobody -/
  pv : List Addr
def Trk (S : Sta) (p : Addr) : Prop := ∃ (i : Nat) (o : O), S.al[i]? = some p ∧ S.h[i]? = some (some o)
def Own (S : Sta) (p : Addr) : Prop := Trk S p ∨ p ∈ S.pv
/-- at p stands o, and it is not tracked -/
def Fz (S : Sta) (p : Addr) (o : HO) : Prop := S.H p = some o ∧ ¬ Own S p
def KL (K : PySem.W.Frag) (a : Addr) (xs : List V) : Prop := ∃ (o : Obj) (its : Array Value) (n : Nat), K.lookup a = some o ∧ o.cls = .type "list" ∧ o.dict = none ∧ o.data = .seq its n ∧ its.size ≤ sizeLine ∧ Vals xs its.toList
def KT (K : PySem.W.Frag) (a : Addr) (xs : List V) : Prop := ∃ (o : Obj) (its : Array Value) (n : Nat), K.lookup a = some o ∧ o.cls = .type "tuple" ∧ o.data = .seq its n ∧ its.size ≤ sizeLine ∧ Vals xs its.toList
/-- a dict that stands, or is walked just now -/
def FzD (S : Sta) (p : Addr) (kvs : List (Key × V)) : Prop := Fz S p (.dK kvs) ∨ ∃ od, Fz S p (.frz od (.dK kvs))
theorem FzD.rd {S : Sta} {p : Addr} {kvs : List (Key × V)} (f : FzD S p kvs) : Rd S.H p (.dK kvs) := f.imp (fun f => f.1) (fun ⟨od, f⟩ => ⟨od, f.1⟩)
/-- a list that may be read but not extended -/
def RdL (S : Sta) (p : Addr) (vs : List V) : Prop := (∃ ob, Fz S p (.frz ob (.lst vs))) ∨ Fz S p (.lst vs) ∨ KL S.G.K p vs
mutual
def Rv (S : Sta) : T → V → Prop
  | .non, v => v = .non
  | .bl b, v => v = .bl b
  | .int i, v => v = .int i
  | .str x, v => v = .str x
  | .ref a, v => v = S.G.fa a
  | .tup l, v => ∃ p vs, v = .ref p ∧ Fz S p (.tup vs) ∧ RvL S l vs
  | .ktp l, v => ∃ p vs, v = .ref p ∧ KT S.G.K p vs ∧ RvL S l vs
  | .lst l, v => ∃ p vs, v = .ref p ∧ Fz S p (.lst vs) ∧ RvL S l vs
  | .rdl l, v => ∃ p vs, v = .ref p ∧ RdL S p vs ∧ RvL S l vs
  | .inst c ns l, v => ∃ p dx vs, v = .ref p ∧ Fz S p (.ins (S.G.ca c) dx (ns.zip vs)) ∧ ns.length = l.length ∧ RvL S l vs
  | .dct ks l, v => ∃ p vs, v = .ref p ∧ FzD S p (ks.zip vs) ∧ ks.length = l.length ∧ RvL S l vs
  | .dctT ks l, v => ∃ p vs, v = .ref p ∧ Fz S p (.dT (ks.zip vs)) ∧ ks.length = l.length ∧ RvL S l vs
  | .obj i, v => ∃ p, S.al[i]? = some p ∧ v = .ref p
def RvL (S : Sta) : List T → List V → Prop
  | [], vs => vs = []
  | t :: ts, vs => ∃ v r, vs = v :: r ∧ Rv S t v ∧ RvL S ts r
end
def RvK {κ : Type} (S : Sta) : List (κ × T) → List (κ × V) → Prop
  | [], m => m = []
  | (k, t) :: r, m => ∃ v m', m = (k, v) :: m' ∧ Rv S t v ∧ RvK S r m'
def RO (S : Sta) : O → HO → Prop
  | .lst l, u => ∃ vs, u = .lst vs ∧ RvL S l vs
  | .dct m, u => ∃ vs, u = .dK vs ∧ RvK S m vs
  | .dctT m, u => ∃ vs, u = .dT vs ∧ RvK S m vs
  | .ins c m, u => ∃ dx vs, u = .ins (S.G.ca c) dx vs ∧ RvK S m vs
structure Ok (S : Sta) : Prop where
  len : S.al.length = S.h.length
  rel : ∀ (i : Nat) (o : O) (p : Addr), S.h[i]? = some (some o) → S.al[i]? = some p → ∃ u, S.H p = some u ∧ RO S o u
  inj : ∀ (i j : Nat) (o o' : O) (p : Addr), S.h[i]? = some (some o) → S.h[j]? = some (some o') → S.al[i]? = some p → S.al[j]? = some p → i = j
  priv : ∀ p ∈ S.pv, (∃ u, S.H p = some u) ∧ ¬ Trk S p
structure Step (S S' : Sta) : Prop where
  G : S'.G = S.G
  al : S.al <+: S'.al
  keep : ∀ b o, S.H b = some o → ¬ Own S b → S'.H b = some o
  own : ∀ b, Own S' b → Own S b ∨ S.H b = none
  pv : S'.pv = S.pv
  pk : ∀ b ∈ S.pv, S'.H b = S.H b
theorem Ok.addr {S : Sta} (k : Ok S) {i : Nat} {o : O} (h : S.h[i]? = some (some o)) : ∃ p, S.al[i]? = some p := by
  have := (List.getElem?_eq_some_iff.mp h).1
  exact ⟨S.al[i]'(by rw [k.len]; exact this), List.getElem?_eq_getElem _⟩
theorem Ok.some {S : Sta} (k : Ok S) {p : Addr} (h : Own S p) : ∃ o, S.H p = some o := by
  rcases h with ⟨i, o, h1, h2⟩ | h
  · obtain ⟨u, hu, _⟩ := k.rel i o p h2 h1
    exact ⟨u, hu⟩
  · exact (k.priv p h).1
theorem Ok.fresh {S : Sta} (k : Ok S) {p : Addr} (h : S.H p = none) : ¬ Own S p := fun o => by
  obtain ⟨u, e⟩ := k.some o
  rw [h] at e; cases e
theorem Step.refl (S : Sta) : Step S S := ⟨rfl, List.prefix_rfl, fun _ _ h _ => h, fun _ h => .inl h, rfl, fun _ _ => rfl⟩
theorem Step.nown {S S' : Sta} (s : Step S S') {b : Addr} {o : HO} (h : S.H b = some o) (n : ¬ Own S b) : ¬ Own S' b := fun z => by
  rcases s.own b z with z | z
  · exact n z
  · rw [h] at z; cases z
theorem Step.trans {S S1 S2 : Sta} (a : Step S S1) (b : Step S1 S2) : Step S S2 :=
  ⟨b.G.trans a.G, a.al.trans b.al, fun c o h n => b.keep c o (a.keep c o h n) (a.nown h n), (fun c h => by
    rcases b.own c h with z | z
    · exact a.own c z
    · by_cases n : Own S c
      · exact .inl n
      · cases e : S.H c with
        | none => exact .inr rfl
        | some o => rw [a.keep c o e n] at z; cases z), b.pv.trans a.pv, fun c h => (b.pk c (by rw [a.pv]; exact h)).trans (a.pk c h)⟩
theorem Fz.mono {S S' : Sta} (s : Step S S') {p : Addr} {o : HO} (f : Fz S p o) : Fz S' p o := by
  obtain ⟨r, n⟩ := f
  exact ⟨s.keep _ _ r n, s.nown r n⟩
/-- what is frozen stays as it is -/
structure Tr (S S' : Sta) : Prop where
  G : S'.G = S.G
  al : S.al <+: S'.al
  fz : ∀ p o, Fz S p o → Fz S' p o
theorem Step.tr {S S' : Sta} (s : Step S S') : Tr S S' := ⟨s.G, s.al, fun _ _ f => f.mono s⟩
theorem Tr.refl (S : Sta) : Tr S S := ⟨rfl, List.prefix_rfl, fun _ _ h => h⟩
theorem Tr.trans {S S1 S2 : Sta} (a : Tr S S1) (b : Tr S1 S2) : Tr S S2 := ⟨b.G.trans a.G, a.al.trans b.al, fun _ _ h => b.fz _ _ (a.fz _ _ h)⟩
theorem RdL.tr {S S' : Sta} (s : Tr S S') {p : Addr} {vs : List V} (h : RdL S p vs) : RdL S' p vs :=
  h.imp (fun ⟨ob, f⟩ => ⟨ob, s.fz _ _ f⟩) (fun z => z.imp (s.fz _ _) (fun z => by rw [s.G]; exact z))
mutual
theorem Rv.tr {S S' : Sta} (s : Tr S S') : ∀ {t : T} {v : V}, Rv S t v → Rv S' t v
  | .non, v, h => by simp only [Rv] at h ⊢; exact h
  | .bl b, v, h => by simp only [Rv] at h ⊢; exact h
  | .int i, v, h => by simp only [Rv] at h ⊢; exact h
  | .str x, v, h => by simp only [Rv] at h ⊢; exact h
  | .ref a, v, h => by simp only [Rv] at h ⊢; rw [s.G]; exact h
  | .tup l, v, h => by
    simp only [Rv] at h ⊢
    obtain ⟨p, vs, e, f, r⟩ := h
    exact ⟨p, vs, e, s.fz _ _ f, RvL.tr s r⟩
  | .ktp l, v, h => by
    simp only [Rv] at h ⊢
    obtain ⟨p, vs, e, f, r⟩ := h
    exact ⟨p, vs, e, by rw [s.G]; exact f, RvL.tr s r⟩
  | .lst l, v, h => by
    simp only [Rv] at h ⊢
    obtain ⟨p, vs, e, f, r⟩ := h
    exact ⟨p, vs, e, s.fz _ _ f, RvL.tr s r⟩
  | .rdl l, v, h => by
    simp only [Rv] at h ⊢
    obtain ⟨p, vs, e, f, r⟩ := h
    exact ⟨p, vs, e, f.tr s, RvL.tr s r⟩
  | .inst c ns l, v, h => by
    simp only [Rv] at h ⊢
    obtain ⟨p, dx, vs, e, f, n, r⟩ := h
    exact ⟨p, dx, vs, e, by rw [s.G]; exact s.fz _ _ f, n, RvL.tr s r⟩
  | .dct ks l, v, h => by
    simp only [Rv] at h ⊢
    obtain ⟨p, vs, e, f, n, r⟩ := h
    exact ⟨p, vs, e, f.imp (s.fz _ _) (fun ⟨od, f⟩ => ⟨od, s.fz _ _ f⟩), n, RvL.tr s r⟩
  | .dctT ks l, v, h => by
    simp only [Rv] at h ⊢
    obtain ⟨p, vs, e, f, n, r⟩ := h
    exact ⟨p, vs, e, s.fz _ _ f, n, RvL.tr s r⟩
  | .obj i, v, h => by
    simp only [Rv] at h ⊢
    obtain ⟨p, e, q⟩ := h
    refine ⟨p, ?_, q⟩
    obtain ⟨r, hr⟩ := s.al
    rw [← hr, List.getElem?_append_left (List.getElem?_eq_some_iff.mp e).1]
    exact e
theorem RvL.tr {S S' : Sta} (s : Tr S S') : ∀ {l : List T} {vs : List V}, RvL S l vs → RvL S' l vs
  | [], _, h => by simp only [RvL] at h ⊢; exact h
  | t :: ts, vs, h => by
    simp only [RvL] at h ⊢
    obtain ⟨v, r, e, h1, h2⟩ := h
    exact ⟨v, r, e, Rv.tr s h1, RvL.tr s h2⟩
end
theorem RdL.mono {S S' : Sta} (s : Step S S') {p : Addr} {vs : List V} (h : RdL S p vs) : RdL S' p vs := h.tr s.tr
theorem Rv.mono {S S' : Sta} (s : Step S S') {t : T} {v : V} (h : Rv S t v) : Rv S' t v := h.tr s.tr
theorem RvL.mono {S S' : Sta} (s : Step S S') {l : List T} {vs : List V} (h : RvL S l vs) : RvL S' l vs := h.tr s.tr
theorem RvK.tr {κ : Type} {S S' : Sta} (s : Tr S S') : ∀ {m : List (κ × T)} {vs : List (κ × V)}, RvK S m vs → RvK S' m vs
  | [], _, h => h
  | (k, t) :: r, _, ⟨v, m', e, h1, h2⟩ => ⟨v, m', e, h1.tr s, RvK.tr s h2⟩
theorem RvK.mono {κ : Type} {S S' : Sta} (s : Step S S') {m : List (κ × T)} {vs : List (κ × V)} (h : RvK S m vs) : RvK S' m vs := h.tr s.tr
theorem RO.tr {S S' : Sta} (s : Tr S S') : ∀ {o : O} {u : HO}, RO S o u → RO S' o u
  | .lst _, _, ⟨vs, e, r⟩ => ⟨vs, e, r.tr s⟩
  | .dct _, _, ⟨vs, e, r⟩ => ⟨vs, e, r.tr s⟩
  | .dctT _, _, ⟨vs, e, r⟩ => ⟨vs, e, r.tr s⟩
  | .ins _ _, _, ⟨dx, vs, e, r⟩ => ⟨dx, vs, by rw [s.G]; exact e, r.tr s⟩
theorem RO.mono {S S' : Sta} (s : Step S S') {o : O} {u : HO} (h : RO S o u) : RO S' o u := h.tr s.tr
theorem RvL.len {S : Sta} : ∀ {l : List T} {vs : List V}, RvL S l vs → vs.length = l.length
  | [], _, h => by simp only [RvL] at h; subst h; rfl
  | t :: ts, vs, h => by
    simp only [RvL] at h
    obtain ⟨v, r, rfl, _, h2⟩ := h
    simp [RvL.len h2]
theorem RvL.get {S : Sta} : ∀ {l : List T} {vs : List V} {i : Nat} {t : T}, RvL S l vs → l[i]? = some t → ∃ v, vs[i]? = some v ∧ Rv S t v
  | [], _, _, _, _, e => by simp at e
  | t :: ts, vs, 0, _, h, e => by
    simp only [RvL] at h
    obtain ⟨v, r, rfl, h1, h2⟩ := h
    simp at e; subst e
    exact ⟨v, by simp, h1⟩
  | t :: ts, vs, i + 1, u, h, e => by
    simp only [RvL] at h
    obtain ⟨v, r, rfl, h1, h2⟩ := h
    obtain ⟨w, hw, q⟩ := RvL.get (i := i) (t := u) h2 (by simpa using e)
    exact ⟨w, by simpa using hw, q⟩
theorem RvL.nil {S : Sta} : RvL S [] [] := by simp only [RvL]
theorem RvL.cons {S : Sta} {t : T} {v : V} {l : List T} {vs : List V} (a : Rv S t v) (b : RvL S l vs) : RvL S (t :: l) (v :: vs) := by
  simp only [RvL]; exact ⟨v, vs, rfl, a, b⟩
theorem RvL.app {S : Sta} : ∀ {l m : List T} {vs ws : List V}, RvL S l vs → RvL S m ws → RvL S (l ++ m) (vs ++ ws)
  | [], _, _, _, a, b => by simp only [RvL] at a; subst a; exact b
  | t :: ts, m, vs, ws, a, b => by
    simp only [RvL] at a
    obtain ⟨v, r, rfl, h1, h2⟩ := a
    exact RvL.cons h1 (RvL.app h2 b)
theorem RvL.take {S : Sta} : ∀ {l : List T} {vs : List V} (n : Nat), RvL S l vs → RvL S (l.take n) (vs.take n)
  | l, vs, 0, _ => by simp only [List.take_zero]; exact RvL.nil
  | [], _, n + 1, h => by simp only [RvL] at h; subst h; exact RvL.nil
  | t :: ts, vs, n + 1, h => by
    simp only [RvL] at h
    obtain ⟨v, r, rfl, h1, h2⟩ := h
    exact RvL.cons h1 (RvL.take n h2)
theorem RvL.drop {S : Sta} : ∀ {l : List T} {vs : List V} (n : Nat), RvL S l vs → RvL S (l.drop n) (vs.drop n)
  | l, vs, 0, h => h
  | [], _, n + 1, h => by simp only [RvL] at h; subst h; exact RvL.nil
  | t :: ts, vs, n + 1, h => by
    simp only [RvL] at h
    obtain ⟨v, r, rfl, h1, h2⟩ := h
    exact RvL.drop n h2
theorem RvL.set {S : Sta} {t : T} {v : V} (a : Rv S t v) : ∀ {l : List T} {vs : List V} (i : Nat), RvL S l vs → RvL S (l.set i t) (vs.set i v)
  | [], _, _, h => by simp only [RvL] at h; subst h; exact RvL.nil
  | t' :: ts, vs, 0, h => by
    simp only [RvL] at h
    obtain ⟨w, r, rfl, h1, h2⟩ := h
    exact RvL.cons a h2
  | t' :: ts, vs, i + 1, h => by
    simp only [RvL] at h
    obtain ⟨w, r, rfl, h1, h2⟩ := h
    exact RvL.cons h1 (RvL.set a i h2)
theorem RvL.erase {S : Sta} : ∀ {l : List T} {vs : List V} (i : Nat), RvL S l vs → RvL S (l.eraseIdx i) (vs.eraseIdx i)
  | [], _, _, h => by simp only [RvL] at h; subst h; exact RvL.nil
  | t' :: ts, vs, 0, h => by
    simp only [RvL] at h
    obtain ⟨w, r, rfl, h1, h2⟩ := h
    exact h2
  | t' :: ts, vs, i + 1, h => by
    simp only [RvL] at h
    obtain ⟨w, r, rfl, h1, h2⟩ := h
    exact RvL.cons h1 (RvL.erase i h2)
theorem RvL.rev {S : Sta} : ∀ {l : List T} {vs : List V}, RvL S l vs → RvL S l.reverse vs.reverse
  | [], _, h => by simp only [RvL] at h; subst h; exact RvL.nil
  | t :: ts, vs, h => by
    simp only [RvL] at h
    obtain ⟨w, r, rfl, h1, h2⟩ := h
    rw [List.reverse_cons, List.reverse_cons]
    exact (RvL.rev h2).app (RvL.cons h1 RvL.nil)
/-- ints -/
theorem RvL.ints {S : Sta} : ∀ {ns : List Int} {vs : List V}, RvL S (ns.map T.int) vs → vs = ns.map V.int
  | [], _, h => by simp only [List.map_nil, RvL] at h; exact h
  | n :: ns, vs, h => by
    simp only [List.map_cons, RvL] at h
    obtain ⟨w, r, rfl, h1, h2⟩ := h
    simp only [Rv] at h1
    subst h1
    rw [RvL.ints h2]; rfl

/-! ### the moves of the tracked heap -/
variable {S : Sta}
/-- a new tracked object -/
def Sta.push (S : Sta) (p : Addr) (o : O) (H' : Hp) : Sta := ⟨S.G, S.al ++ [p], S.h ++ [some o], H', S.pv⟩
theorem Step.al_lt {S S' : Sta} (s : Step S S') {i : Nat} {p : Addr} (h : S.al[i]? = some p) : S'.al[i]? = some p := by
  obtain ⟨r, hr⟩ := s.al
  rw [← hr, List.getElem?_append_left (List.getElem?_eq_some_iff.mp h).1]
  exact h
theorem trk_push {p : Addr} {o : O} {H' : Hp} (k : Ok S) {b : Addr} : Trk (S.push p o H') b ↔ Trk S b ∨ b = p := by
  constructor
  · rintro ⟨i, o', h1, h2⟩
    by_cases hi : i < S.al.length
    · simp only [Sta.push] at h1 h2
      rw [List.getElem?_append_left hi] at h1
      rw [List.getElem?_append_left (by rw [← k.len]; exact hi)] at h2
      exact .inl ⟨i, o', h1, h2⟩
    · simp only [Sta.push] at h1
      rw [List.getElem?_append_right (by omega)] at h1
      have : i - S.al.length = 0 := by
        have := (List.getElem?_eq_some_iff.mp h1).1
        simp at this; omega
      rw [this] at h1
      simp at h1
      exact .inr h1.symm
  · rintro (⟨i, o', h1, h2⟩ | rfl)
    · refine ⟨i, o', ?_, ?_⟩
      · simp only [Sta.push]; rw [List.getElem?_append_left (List.getElem?_eq_some_iff.mp h1).1]; exact h1
      · simp only [Sta.push]; rw [List.getElem?_append_left (List.getElem?_eq_some_iff.mp h2).1]; exact h2
    · refine ⟨S.al.length, o, ?_, ?_⟩
      · simp [Sta.push]
      · simp only [Sta.push]; rw [k.len]; simp
theorem own_push {p : Addr} {o : O} {H' : Hp} (k : Ok S) {b : Addr} : Own (S.push p o H') b ↔ Own S b ∨ b = p := by
  unfold Own
  rw [trk_push k]
  show (Trk S b ∨ b = p) ∨ b ∈ S.pv ↔ _
  constructor
  · rintro ((h | h) | h)
    · exact .inl (.inl h)
    · exact .inr h
    · exact .inl (.inr h)
  · rintro ((h | h) | h)
    · exact .inl (.inl h)
    · exact .inr h
    · exact .inl (.inr h)
/-- the heap that grows by what was free -/
def Grow (H H' : Hp) : Prop := ∀ b o, H b = some o → H' b = some o
theorem Grow.upd {H : Hp} {p : Addr} {u : HO} (n : H p = none) : Grow H (upd H p u) := fun b o e => by
  rw [upd_ne (ne_of_none e n)]; exact e
theorem Grow.trans {H H1 H2 : Hp} (a : Grow H H1) (b : Grow H1 H2) : Grow H H2 := fun c o e => b c o (a c o e)
theorem grow_pv {H' : Hp} (k : Ok S) (g : Grow S.H H') : ∀ b ∈ S.pv, H' b = S.H b := fun b hb => by
  obtain ⟨u, hu⟩ := (k.priv b hb).1
  rw [hu]; exact g _ _ hu
theorem step_push {p : Addr} {o : O} {H' : Hp} (k : Ok S) (n : S.H p = none) (g : Grow S.H H') : Step S (S.push p o H') :=
  ⟨rfl, List.prefix_append _ _, fun b o e _ => g b o e, fun b h => ((own_push k).mp h).imp id (fun e => by rw [e]; exact n), rfl, grow_pv k g⟩
theorem ok_push {p : Addr} {o : O} {u : HO} {H' : Hp} (k : Ok S) (n : S.H p = none) (g : Grow S.H H') (hp : H' p = some u) (r : RO (S.push p o H') o u) : Ok (S.push p o H') := by
  have st := step_push (o := o) k n g
  refine ⟨by simp [Sta.push, k.len], ?_, ?_, fun q hq => ⟨?_, fun z => ?_⟩⟩
  rotate_left 2
  · obtain ⟨u', hu⟩ := (k.priv q hq).1
    exact ⟨u', g _ _ hu⟩
  · rcases (trk_push k).mp z with z | z
    · exact (k.priv q hq).2 z
    · obtain ⟨u', hu⟩ := (k.priv q hq).1
      rw [z, n] at hu; cases hu
  · intro i o' q h1 h2
    by_cases hi : i < S.h.length
    · simp only [Sta.push] at h1 h2
      rw [List.getElem?_append_left hi] at h1
      rw [List.getElem?_append_left (by rw [k.len]; exact hi)] at h2
      obtain ⟨u', hu, ru⟩ := k.rel i o' q h1 h2
      exact ⟨u', g _ _ hu, ru.mono st⟩
    · simp only [Sta.push] at h1 h2
      rw [List.getElem?_append_right (by omega)] at h1
      rw [List.getElem?_append_right (by rw [k.len]; omega)] at h2
      have : i - S.h.length = 0 := by
        have := (List.getElem?_eq_some_iff.mp h1).1
        simp at this; omega
      rw [k.len, this] at h2
      rw [this] at h1
      simp at h1 h2
      subst h1; subst h2
      exact ⟨u, hp, r⟩
  · intro i j o1 o2 q h1 h2 a1 a2
    have key : ∀ i o1, (S.push p o H').h[i]? = some (some o1) → (S.push p o H').al[i]? = some q → (i < S.h.length ∧ S.h[i]? = some (some o1) ∧ S.al[i]? = some q ∧ S.H q ≠ none) ∨ (i = S.h.length ∧ q = p) := by
      intro i o1 h1 a1
      by_cases hi : i < S.h.length
      · simp only [Sta.push] at h1 a1
        rw [List.getElem?_append_left hi] at h1
        rw [List.getElem?_append_left (by rw [k.len]; exact hi)] at a1
        obtain ⟨u', hu, _⟩ := k.rel i o1 q h1 a1
        exact .inl ⟨hi, h1, a1, by rw [hu]; simp⟩
      · simp only [Sta.push] at h1 a1
        rw [List.getElem?_append_right (by omega)] at h1
        rw [List.getElem?_append_right (by rw [k.len]; omega)] at a1
        have e : i - S.h.length = 0 := by
          have := (List.getElem?_eq_some_iff.mp h1).1
          simp at this; omega
        rw [k.len, e] at a1
        simp at a1
        exact .inr ⟨by omega, a1.symm⟩
    rcases key i o1 h1 a1 with ⟨b1, b2, b3, b4⟩ | ⟨b1, b2⟩ <;> rcases key j o2 h2 a2 with ⟨c1, c2, c3, c4⟩ | ⟨c1, c2⟩
    · exact k.inj i j o1 o2 q b2 c2 b3 c3
    · subst c2; exact absurd n b4
    · subst b2; exact absurd n c4
    · omega
/-- the heap grows, nothing new is tracked -/
def Sta.at (S : Sta) (H' : Hp) : Sta := ⟨S.G, S.al, S.h, H', S.pv⟩
theorem own_at {H' : Hp} {b : Addr} : Own (S.at H') b ↔ Own S b := Iff.rfl
theorem step_at {H' : Hp} (k : Ok S) (g : Grow S.H H') : Step S (S.at H') := ⟨rfl, List.prefix_rfl, fun b o e _ => g b o e, fun _ h => .inl h, rfl, grow_pv k g⟩
theorem ok_at {H' : Hp} (k : Ok S) (g : Grow S.H H') : Ok (S.at H') :=
  ⟨k.len, fun i o p h1 h2 => by
    obtain ⟨u, hu, r⟩ := k.rel i o p h1 h2
    exact ⟨u, g _ _ hu, r.mono (step_at k g)⟩, k.inj, fun q hq => ⟨by
      obtain ⟨u', hu⟩ := (k.priv q hq).1
      exact ⟨u', g _ _ hu⟩, (k.priv q hq).2⟩⟩
theorem fz_new {H' : Hp} {p : Addr} {u : HO} (k : Ok S) (n : S.H p = none) (hp : H' p = some u) : Fz (S.at H') p u := ⟨hp, fun z => k.fresh n z⟩
/-- a tracked object changes -/
def Sta.put (S : Sta) (i : Nat) (o : O) (H' : Hp) : Sta := ⟨S.G, S.al, S.h.set i (some o), H', S.pv⟩
theorem trk_put {i : Nat} {o o' : O} {H' : Hp} (h : S.h[i]? = some (some o)) {b : Addr} : Trk (S.put i o' H') b ↔ Trk S b := by
  have hl := (List.getElem?_eq_some_iff.mp h).1
  constructor
  · rintro ⟨j, u, h1, h2⟩
    by_cases e : i = j
    · subst e; exact ⟨i, o, h1, h⟩
    · exact ⟨j, u, h1, by simp only [Sta.put] at h2; rw [List.getElem?_set_ne e] at h2; exact h2⟩
  · rintro ⟨j, u, h1, h2⟩
    by_cases e : i = j
    · subst e; exact ⟨i, o', h1, by simp only [Sta.put]; rw [List.getElem?_set_self hl]⟩
    · exact ⟨j, u, h1, by simp only [Sta.put]; rw [List.getElem?_set_ne e]; exact h2⟩
theorem own_put {i : Nat} {o o' : O} {H' : Hp} (h : S.h[i]? = some (some o)) {b : Addr} : Own (S.put i o' H') b ↔ Own S b := by
  unfold Own
  rw [trk_put h]
  exact Iff.rfl
theorem step_put {i : Nat} {o o' : O} {p : Addr} {u : HO} (k : Ok S) (h : S.h[i]? = some (some o)) (hp : S.al[i]? = some p) : Step S (S.put i o' (upd S.H p u)) :=
  ⟨rfl, List.prefix_rfl, fun b w e n => by
    simp only [Sta.put]
    rw [upd_ne (fun z => n (by rw [z]; exact .inl ⟨i, o, hp, h⟩))]; exact e, fun b z => .inl ((own_put h).mp z), rfl, fun b hb => by
    show upd S.H p u b = _
    rw [upd_ne (fun z => (k.priv b hb).2 (by rw [z]; exact ⟨i, o, hp, h⟩))]⟩
theorem ok_put {i : Nat} {o o' : O} {p : Addr} {u : HO} (k : Ok S) (h : S.h[i]? = some (some o)) (hp : S.al[i]? = some p) (r : RO S o' u) : Ok (S.put i o' (upd S.H p u)) := by
  have st := step_put (o' := o') (u := u) k h hp
  have hl := (List.getElem?_eq_some_iff.mp h).1
  have back : ∀ (j : Nat) (w : O), (S.put i o' (upd S.H p u)).h[j]? = some (some w) → ∃ w' : O, S.h[j]? = some (some w') := by
    intro j w hj
    simp only [Sta.put] at hj
    by_cases e : i = j
    · subst e; exact ⟨o, h⟩
    · rw [List.getElem?_set_ne e] at hj; exact ⟨w, hj⟩
  refine ⟨by simp [Sta.put, k.len], ?_, ?_, fun q hq => ⟨?_, fun z => (k.priv q hq).2 ((trk_put h).mp z)⟩⟩
  rotate_left 2
  · obtain ⟨u', hu⟩ := (k.priv q hq).1
    rw [← st.pk q hq] at hu
    exact ⟨u', hu⟩
  · intro j w q h1 h2
    by_cases e : i = j
    · subst e
      simp only [Sta.put] at h1 h2
      rw [List.getElem?_set_self hl] at h1
      rw [hp] at h2
      cases h1; cases h2
      exact ⟨u, upd_same, r.mono st⟩
    · simp only [Sta.put] at h1 h2
      rw [List.getElem?_set_ne e] at h1
      obtain ⟨u', hu, ru⟩ := k.rel j w q h1 h2
      refine ⟨u', ?_, ru.mono st⟩
      simp only [Sta.put]
      rw [upd_ne]
      · exact hu
      · rintro rfl
        exact e (k.inj i j o w q h h1 hp h2)
  · intro j l w1 w2 q h1 h2 a1 a2
    obtain ⟨w1', h1'⟩ := back j w1 h1
    obtain ⟨w2', h2'⟩ := back l w2 h2
    exact k.inj j l w1' w2' q h1' h2' a1 a2
/-- a tracked object is let go -/
def Sta.gone (S : Sta) (i : Nat) : Sta := ⟨S.G, S.al, S.h.set i none, S.H, S.pv⟩
theorem trk_gone {i : Nat} {b : Addr} (h : Trk (S.gone i) b) : ∃ (j : Nat) (o : O), j ≠ i ∧ S.al[j]? = some b ∧ S.h[j]? = some (some o) := by
  obtain ⟨j, o, h1, h2⟩ := h
  simp only [Sta.gone] at h1 h2
  by_cases e : i = j
  · subst e
    rw [List.getElem?_set] at h2
    simp at h2
  · rw [List.getElem?_set_ne e] at h2
    exact ⟨j, o, Ne.symm e, h1, h2⟩
theorem own_gone {i : Nat} {b : Addr} (h : Own (S.gone i) b) : Own S b := by
  rcases h with h | h
  · obtain ⟨j, o, _, h1, h2⟩ := trk_gone h
    exact .inl ⟨j, o, h1, h2⟩
  · exact .inr h
theorem step_gone (i : Nat) : Step S (S.gone i) := ⟨rfl, List.prefix_rfl, fun _ _ h _ => h, fun b z => .inl (own_gone z), rfl, fun _ _ => rfl⟩
theorem ok_gone {i : Nat} (k : Ok S) : Ok (S.gone i) := by
  have back : ∀ (j : Nat) (w : O), (S.gone i).h[j]? = some (some w) → S.h[j]? = some (some w) := by
    intro j w hj
    simp only [Sta.gone] at hj
    by_cases e : i = j
    · subst e; rw [List.getElem?_set] at hj; simp at hj
    · rw [List.getElem?_set_ne e] at hj; exact hj
  exact ⟨by simp [Sta.gone, k.len], fun j w q h1 h2 => by
    obtain ⟨u, hu, ru⟩ := k.rel j w q (back j w h1) h2
    exact ⟨u, hu, ru.mono (step_gone i)⟩, fun j l w1 w2 q h1 h2 => k.inj j l w1 w2 q (back _ _ h1) (back _ _ h2), fun q hq => ⟨(k.priv q hq).1, fun z => by
      obtain ⟨j, o, _, h1, h2⟩ := trk_gone z
      exact (k.priv q hq).2 ⟨j, o, h1, h2⟩⟩⟩
theorem nown_gone {i : Nat} {o : O} {p : Addr} (k : Ok S) (h : S.h[i]? = some (some o)) (hp : S.al[i]? = some p) : ¬ Own (S.gone i) p := fun z => by
  rcases z with z | z
  · obtain ⟨j, o', ne, h1, h2⟩ := trk_gone z
    exact ne (k.inj j i o' o p h2 h h1 hp)
  · exact (k.priv p z).2 ⟨i, o, hp, h⟩
/-- something new is made in private -/
def Sta.hide (S : Sta) (p : Addr) (H' : Hp) : Sta := ⟨S.G, S.al, S.h, H', p :: S.pv⟩
/-- what was made in private is given out -/
def Sta.show (S : Sta) (pv : List Addr) : Sta := ⟨S.G, S.al, S.h, S.H, pv⟩
theorem tr_hide {p : Addr} {u : HO} (n : S.H p = none) : Tr S (S.hide p (upd S.H p u)) := ⟨rfl, List.prefix_rfl, fun q o f => by
  have ne : q ≠ p := fun z => by rw [z] at f; rw [f.1] at n; cases n
  refine ⟨by show upd S.H p u q = _; rw [upd_ne ne]; exact f.1, fun z => ?_⟩
  rcases z with z | z
  · exact f.2 (.inl z)
  · rcases List.mem_cons.mp z with z | z
    · exact ne z
    · exact f.2 (.inr z)⟩
theorem ok_hide {p : Addr} {u : HO} (k : Ok S) (n : S.H p = none) : Ok (S.hide p (upd S.H p u)) := ⟨k.len, fun i o q h1 h2 => by
    obtain ⟨w, hw, r⟩ := k.rel i o q h1 h2
    exact ⟨w, Grow.upd n _ _ hw, r.tr (tr_hide n)⟩, k.inj, fun q hq => by
    rcases List.mem_cons.mp hq with rfl | hq
    · exact ⟨⟨u, upd_same⟩, fun z => k.fresh n (.inl z)⟩
    · obtain ⟨⟨w, hw⟩, nt⟩ := k.priv q hq
      exact ⟨⟨w, Grow.upd n _ _ hw⟩, nt⟩⟩
theorem tr_show {p : Addr} {pv : List Addr} (e : S.pv = p :: pv) : Tr S (S.show pv) := ⟨rfl, List.prefix_rfl, fun q o f => ⟨f.1, fun z => by
  rcases z with z | z
  · exact f.2 (.inl z)
  · exact f.2 (.inr (by rw [e]; exact List.mem_cons_of_mem _ z))⟩⟩
theorem ok_show {p : Addr} {pv : List Addr} (k : Ok S) (e : S.pv = p :: pv) : Ok (S.show pv) := ⟨k.len, fun i o q h1 h2 => by
    obtain ⟨w, hw, r⟩ := k.rel i o q h1 h2
    exact ⟨w, hw, r.tr (tr_show e)⟩, k.inj, fun q hq => k.priv q (by rw [e]; exact List.mem_cons_of_mem _ hq)⟩
/-- the private thing changes -/
def Sta.fill (S : Sta) (H' : Hp) : Sta := ⟨S.G, S.al, S.h, H', S.pv⟩
theorem tr_fill {p : Addr} {u : HO} (h : p ∈ S.pv) : Tr S (S.fill (upd S.H p u)) := ⟨rfl, List.prefix_rfl, fun q o f => ⟨by
    show upd S.H p u q = _
    rw [upd_ne (fun z => f.2 (.inr (by rw [z]; exact h)))]; exact f.1, f.2⟩⟩
theorem ok_fill {p : Addr} {u : HO} (k : Ok S) (h : p ∈ S.pv) : Ok (S.fill (upd S.H p u)) := ⟨k.len, fun i o q h1 h2 => by
    obtain ⟨w, hw, r⟩ := k.rel i o q h1 h2
    refine ⟨w, ?_, r.tr (tr_fill h)⟩
    show upd S.H p u q = _
    rw [upd_ne (fun z => (k.priv p h).2 ⟨i, o, by rw [← z]; exact h2, h1⟩)]; exact hw, k.inj, fun q hq => by
    obtain ⟨⟨w, hw⟩, nt⟩ := k.priv q hq
    by_cases z : q = p
    · subst z; exact ⟨⟨u, upd_same⟩, nt⟩
    · exact ⟨⟨w, by show upd S.H p u q = _; rw [upd_ne z]; exact hw⟩, nt⟩⟩
/-- what the public sees while something is made in private: S0 before, S now -/
structure Priv (S0 S : Sta) (p : Addr) : Prop where
  st : Step S0 (S.show S0.pv)
  pv : S.pv = p :: S0.pv
  new : S0.H p = none
theorem Priv.start {p : Addr} {u : HO} (k : Ok S) (n : S.H p = none) : Priv S (S.hide p (upd S.H p u)) p :=
  ⟨⟨rfl, List.prefix_rfl, fun b o e _ => Grow.upd n b o e, fun b z => .inl z, rfl, fun b hb => grow_pv k (Grow.upd n) b hb⟩, rfl, n⟩
theorem Priv.tr {S0 S : Sta} {p : Addr} (x : Priv S0 S p) : Tr S0 S := ⟨x.st.G, x.st.al, fun q o f => by
  obtain ⟨h1, h2⟩ := f.mono x.st
  refine ⟨h1, fun z => ?_⟩
  rcases z with z | z
  · exact h2 (.inl z)
  · rw [x.pv] at z
    rcases List.mem_cons.mp z with z | z
    · rw [z] at f; have := f.1; rw [x.new] at this; cases this
    · exact h2 (.inr z)⟩
theorem Priv.step {S0 S S' : Sta} {p : Addr} (x : Priv S0 S p) (k0 : Ok S0) (k : Ok S) (k' : Ok S') (s : Step S S') : Priv S0 S' p := by
  have hp : p ∈ S.pv := by rw [x.pv]; exact List.mem_cons_self
  refine ⟨x.st.trans ⟨s.G, s.al, fun b o e n => ?_, fun b z => ?_, rfl, fun b hb => ?_⟩, s.pv.trans x.pv, x.new⟩
  · by_cases z : b = p
    · subst z; exact (s.pk b hp).trans e
    · refine s.keep b o e fun w => ?_
      rcases w with w | w
      · exact n (.inl w)
      · rw [x.pv] at w
        rcases List.mem_cons.mp w with w | w
        · exact z w
        · exact n (.inr w)
  · have hb : Own S' b := by
      rcases z with z | z
      · exact .inl z
      · exact .inr (by rw [s.pv, x.pv]; exact List.mem_cons_of_mem _ z)
    rcases s.own b hb with w | w
    · rcases w with w | w
      · exact .inl (.inl w)
      · rw [x.pv] at w
        rcases List.mem_cons.mp w with w | w
        · subst w
          rcases z with z | z
          · exact absurd z (k'.priv b (by rw [s.pv]; exact hp)).2
          · exact .inl (.inr z)
        · exact .inl (.inr w)
    · exact .inr w
  · exact s.pk b (by rw [x.pv]; exact List.mem_cons_of_mem _ hb)
theorem Priv.fill {S0 S : Sta} {p : Addr} {u : HO} (x : Priv S0 S p) (k0 : Ok S0) : Priv S0 (S.fill (upd S.H p u)) p := by
  refine ⟨⟨x.st.G, x.st.al, fun b o e n => ?_, x.st.own, rfl, fun b hb => ?_⟩, x.pv, x.new⟩
  · have ne : b ≠ p := fun z => by rw [z, x.new] at e; cases e
    show upd S.H p u b = _
    rw [upd_ne ne]; exact x.st.keep b o e n
  · have ne : b ≠ p := fun z => by
      obtain ⟨w, hw⟩ := (k0.priv b hb).1
      rw [z, x.new] at hw; cases hw
    show upd S.H p u b = _
    rw [upd_ne ne]; exact x.st.pk b hb
theorem Priv.nown {S0 S : Sta} {p : Addr} (x : Priv S0 S p) (k0 : Ok S0) (k : Ok S) : ¬ Own (S.show S0.pv) p := fun z => by
  rcases z with z | z
  · exact (k.priv p (by rw [x.pv]; exact List.mem_cons_self)).2 z
  · exact k0.fresh x.new (.inr z)
/-- the private thing becomes a tracked one -/
def Sta.adopt (S : Sta) (pv : List Addr) (p : Addr) (o : O) : Sta := ⟨S.G, S.al ++ [p], S.h ++ [some o], S.H, pv⟩
theorem Priv.adopt {S0 S : Sta} {p : Addr} {o : O} {u : HO} (x : Priv S0 S p) (k0 : Ok S0) (k : Ok S) (hp : S.H p = some u) (r : RO S o u) : Ok (S.adopt S0.pv p o) ∧ Step S0 (S.adopt S0.pv p o) := by
  have hm : p ∈ S.pv := by rw [x.pv]; exact List.mem_cons_self
  have nt := (k.priv p hm).2
  have trk : ∀ b, Trk (S.adopt S0.pv p o) b → Trk S b ∨ b = p := by
    rintro b ⟨i, o', h1, h2⟩
    by_cases hi : i < S.al.length
    · simp only [Sta.adopt] at h1 h2
      rw [List.getElem?_append_left hi] at h1
      rw [List.getElem?_append_left (by rw [← k.len]; exact hi)] at h2
      exact .inl ⟨i, o', h1, h2⟩
    · simp only [Sta.adopt] at h1
      rw [List.getElem?_append_right (by omega)] at h1
      have : i - S.al.length = 0 := by
        have := (List.getElem?_eq_some_iff.mp h1).1
        simp at this; omega
      rw [this] at h1
      simp at h1
      exact .inr h1.symm
  have tr : Tr S (S.adopt S0.pv p o) := ⟨rfl, List.prefix_append _ _, fun q w f => ⟨f.1, fun z => by
    rcases z with z | z
    · rcases trk q z with z | z
      · exact f.2 (.inl z)
      · exact f.2 (.inr (by rw [z]; exact hm))
    · exact f.2 (.inr (by rw [x.pv]; exact List.mem_cons_of_mem _ z))⟩⟩
  constructor
  · refine ⟨by simp [Sta.adopt, k.len], ?_, ?_, ?_⟩
    · intro i o' q h1 h2
      by_cases hi : i < S.h.length
      · simp only [Sta.adopt] at h1 h2
        rw [List.getElem?_append_left hi] at h1
        rw [List.getElem?_append_left (by rw [k.len]; exact hi)] at h2
        obtain ⟨u', hu, ru⟩ := k.rel i o' q h1 h2
        exact ⟨u', hu, ru.tr tr⟩
      · simp only [Sta.adopt] at h1 h2
        rw [List.getElem?_append_right (by omega)] at h1
        rw [List.getElem?_append_right (by rw [k.len]; omega)] at h2
        have : i - S.h.length = 0 := by
          have := (List.getElem?_eq_some_iff.mp h1).1
          simp at this; omega
        rw [k.len, this] at h2
        rw [this] at h1
        simp at h1 h2
        subst h1; subst h2
        exact ⟨u, hp, r.tr tr⟩
    · intro i j o1 o2 q h1 h2 a1 a2
      have key : ∀ (i : Nat) (o1 : O), (S.adopt S0.pv p o).h[i]? = some (some o1) → (S.adopt S0.pv p o).al[i]? = some q → (i < S.h.length ∧ S.h[i]? = some (some o1) ∧ S.al[i]? = some q ∧ q ≠ p) ∨ (i = S.h.length ∧ q = p) := by
        intro i o1 h1 a1
        by_cases hi : i < S.h.length
        · simp only [Sta.adopt] at h1 a1
          rw [List.getElem?_append_left hi] at h1
          rw [List.getElem?_append_left (by rw [k.len]; exact hi)] at a1
          exact .inl ⟨hi, h1, a1, fun z => nt ⟨i, o1, by rw [← z]; exact a1, h1⟩⟩
        · simp only [Sta.adopt] at h1 a1
          rw [List.getElem?_append_right (by omega)] at h1
          rw [List.getElem?_append_right (by rw [k.len]; omega)] at a1
          have e : i - S.h.length = 0 := by
            have := (List.getElem?_eq_some_iff.mp h1).1
            simp at this; omega
          rw [k.len, e] at a1
          simp at a1
          exact .inr ⟨by omega, a1.symm⟩
      rcases key i o1 h1 a1 with ⟨b1, b2, b3, b4⟩ | ⟨b1, b2⟩ <;> rcases key j o2 h2 a2 with ⟨c1, c2, c3, c4⟩ | ⟨c1, c2⟩
      · exact k.inj i j o1 o2 q b2 c2 b3 c3
      · exact absurd c2 b4
      · exact absurd b2 c4
      · omega
    · intro q hq
      refine ⟨(k.priv q (by rw [x.pv]; exact List.mem_cons_of_mem _ hq)).1, fun z => ?_⟩
      rcases trk q z with z | z
      · exact (k.priv q (by rw [x.pv]; exact List.mem_cons_of_mem _ hq)).2 z
      · exact k0.fresh x.new (.inr (by rw [← z]; exact hq))
  · refine ⟨x.st.G, x.st.al.trans (List.prefix_append _ _), x.st.keep, fun b z => ?_, rfl, x.st.pk⟩
    rcases z with z | z
    · rcases trk b z with z | z
      · exact x.st.own b (.inl z)
      · rw [z]; exact .inr x.new
    · exact .inl (.inr z)
end M
/-! ### what a piece of the program does, as a function on trees and the tracked heap; and that it stands for the layer's readings -/
namespace M
open PySem PySem.Spec PyProof.Rows L2

inductive Res (α : Type) where
  | bad | ok (a : α) (h : AH) | exc (e : Exc) (h : AH)
  deriving Inhabited
def Res.bind {α β : Type} (x : Res α) (f : α → AH → Res β) : Res β := match x with | .bad => .bad | .ok a h => f a h | .exc e h => .exc e h
@[simp] theorem bind_ok {α β : Type} {a : α} {h : AH} {f : α → AH → Res β} : Res.bind (.ok a h) f = f a h := rfl
@[simp] theorem bind_bad {α β : Type} {f : α → AH → Res β} : Res.bind .bad f = .bad := rfl
@[simp] theorem bind_exc {α β : Type} {e : Exc} {h : AH} {f : α → AH → Res β} : Res.bind (.exc e h) f = .exc e h := rfl
def pur {α : Type} (o : Option α) (h : AH) : Res α := match o with | some a => .ok a h | none => .bad
@[simp] theorem pur_some {α : Type} {a : α} {h : AH} : pur (some a) h = .ok a h := rfl
@[simp] theorem pur_none {α : Type} {h : AH} : pur (none : Option α) h = .bad := rfl
def PostG {α : Type} (S : Sta) (X : Exc → Sta → Prop) (P : α → Sta → Prop) : Res α → Prop
  | .bad => False
  | .ok a h' => ∀ S', S'.h = h' → Ok S' → Step S S' → P a S'
  | .exc e h' => ∀ S', S'.h = h' → Ok S' → Step S S' → X e S'
theorem PostG.mono {α : Type} {S S1 : Sta} {X : Exc → Sta → Prop} {P : α → Sta → Prop} (s : Step S S1) : ∀ {r : Res α}, PostG S X P r → PostG S1 X P r
  | .bad, h => h
  | .ok _ _, h => fun S' e k st => h S' e k (s.trans st)
  | .exc _ _, h => fun S' e k st => h S' e k (s.trans st)
theorem PostG.imp {α : Type} {S : Sta} {X : Exc → Sta → Prop} {P P' : α → Sta → Prop} : ∀ {r : Res α}, (∀ a S', P a S' → P' a S') → PostG S X P r → PostG S X P' r
  | .bad, _, h => h
  | .ok _ _, f, h => fun S' e k st => f _ _ (h S' e k st)
  | .exc _ _, _, h => h
theorem PostG.bind {α β : Type} {S : Sta} {X : Exc → Sta → Prop} {P : β → Sta → Prop} {f : α → AH → Res β} : ∀ {x : Res α}, PostG S X P (x.bind f) → PostG S X (fun a S1 => Ok S1 ∧ Step S S1 ∧ PostG S1 X P (f a S1.h)) x
  | .bad, h => h
  | .ok a h', h => fun S' e k st => by
    subst e
    exact ⟨k, st, PostG.mono st h⟩
  | .exc _ _, h => h
/-- the caught thing, as the layer has it -/
def RX (S : Sta) (e : Exc) (cls : Value) (d : Option Addr) : Prop := cls = .ref (S.G.ca e.c) ∧ ((e.ns = [] ∧ e.l = [] ∧ d = none) ∨ ∃ a vs, d = some a ∧ Fz S a (.xd (e.ns.zip vs)) ∧ e.ns.length = e.l.length ∧ RvL S e.l vs)
def XP (E : XK) : Exc → Sta → Prop := fun e S => ∀ cls d, RX S e cls d → E cls d S.H
abbrev LS := List (Option T)
def RS0 (S : Sta) : LS → L2.St → Prop
  | [], σ => σ = []
  | o :: τ, σ => ∃ v r, σ = v :: r ∧ (∀ t, o = some t → ∃ w, v = some w ∧ Rv S t w) ∧ RS0 S τ r
theorem RS0.mono {S S' : Sta} (s : Step S S') : ∀ {τ : LS} {σ : L2.St}, RS0 S τ σ → RS0 S' τ σ
  | [], _, h => h
  | _ :: _, _, ⟨v, r, e, h, q⟩ => ⟨v, r, e, fun t ht => let ⟨w, h1, h2⟩ := h t ht; ⟨w, h1, h2.mono s⟩, RS0.mono s q⟩
theorem RS0.get {S : Sta} : ∀ {τ : LS} {σ : L2.St} {i : Nat} {t : T}, RS0 S τ σ → τ[i]? = some (some t) → ∃ w : V, σ[i]? = some (some w) ∧ Rv S t w
  | [], _, _, _, _, e => by simp at e
  | o :: τ, _, 0, t, ⟨v, r, rfl, h, q⟩, e => by
    simp at e
    obtain ⟨w, h1, h2⟩ := h t e
    exact ⟨w, by simp [h1], h2⟩
  | o :: τ, _, i + 1, t, ⟨v, r, rfl, h, q⟩, e => by
    obtain ⟨w, h1, h2⟩ := RS0.get (i := i) q (by simpa using e)
    exact ⟨w, by simpa using h1, h2⟩
theorem RS0.set {S : Sta} {t : T} {w : V} (a : Rv S t w) : ∀ {τ : LS} {σ : L2.St} (i : Nat), RS0 S τ σ → RS0 S (τ.set i (some t)) (σ.set i (some w))
  | [], _, _, h => by rw [show _ = [] from h]; rfl
  | _ :: _, _, 0, ⟨v, r, rfl, h, q⟩ => ⟨_, _, rfl, fun t' ht => by cases ht; exact ⟨w, rfl, a⟩, q⟩
  | _ :: _, _, i + 1, ⟨v, r, rfl, h, q⟩ => ⟨_, _, rfl, h, RS0.set a i q⟩
theorem RS0.unset {S : Sta} {v' : Option V} : ∀ {τ : LS} {σ : L2.St} (i : Nat), RS0 S τ σ → RS0 S (τ.set i none) (σ.set i v')
  | [], _, _, h => by rw [show _ = [] from h]; rfl
  | _ :: _, _, 0, ⟨v, r, rfl, h, q⟩ => ⟨_, _, rfl, (fun t' ht => by cases ht), q⟩
  | _ :: _, _, i + 1, ⟨v, r, rfl, h, q⟩ => ⟨_, _, rfl, h, RS0.unset i q⟩
/-- a slot is forgotten -/
theorem RS0.drop1 {S : Sta} : ∀ {τ : LS} {σ : L2.St} (i : Nat), RS0 S τ σ → RS0 S (τ.set i none) σ
  | [], _, _, h => by rw [show _ = [] from h]; rfl
  | _ :: _, _, 0, ⟨v, r, e, h, q⟩ => ⟨v, r, e, (fun t' ht => by cases ht), q⟩
  | _ :: _, _, i + 1, ⟨v, r, e, h, q⟩ => ⟨v, r, e, h, RS0.drop1 i q⟩

theorem RX.tr {S S' : Sta} (s : Tr S S') {e : Exc} {cls : Value} {d : Option Addr} (h : RX S e cls d) : RX S' e cls d := by
  obtain ⟨h1, h2⟩ := h
  refine ⟨by rw [s.G]; exact h1, h2.imp id ?_⟩
  rintro ⟨a, vs, e1, f, n, r⟩
  exact ⟨a, vs, e1, s.fz _ _ f, n, r.tr s⟩
/-- what is caught stands in its slot -/
def XI (S : Sta) (σ : L2.St) : Prop := ∀ x, S.G.ex = some x → σ[x.i]? = some (some (.ref x.a)) ∧ RX S x.e x.cls x.d
theorem XI.tr {S S' : Sta} (s : Tr S S') {σ : L2.St} (h : XI S σ) : XI S' σ := fun x hx => by
  rw [s.G] at hx
  exact ⟨(h x hx).1, (h x hx).2.tr s⟩
/-- the slot is not that of what is caught -/
def NoSl (G : Env) (i : Nat) : Prop := ∀ x, G.ex = some x → i ≠ x.i
theorem noSl_none {G : Env} {i : Nat} (h : G.ex = none) : NoSl G i := fun x hx => by rw [h] at hx; cases hx
theorem noSl_ne {K : PySem.W.Frag} {ca : Str → Addr} {fa : Str → V} {a : Addr} {cls : Value} {d : Option Addr} {i0 : Nat} {e : Exc} {i : Nat} (h : i ≠ i0) : NoSl (Env.mk K ca fa (some ⟨a, cls, d, i0, e⟩)) i := fun y hy => by cases hy; exact h
theorem XI.set {S : Sta} {σ : L2.St} {i : Nat} {v : Option V} (h : XI S σ) (hn : NoSl S.G i) : XI S (σ.set i v) := fun x hx => by
  refine ⟨?_, (h x hx).2⟩
  rw [List.getElem?_set_ne (hn x hx)]
  exact (h x hx).1
structure RS (S : Sta) (τ : LS) (σ : L2.St) : Prop where
  r : RS0 S τ σ
  x : XI S σ
theorem RS.mono {S S' : Sta} (s : Step S S') {τ : LS} {σ : L2.St} (h : RS S τ σ) : RS S' τ σ := ⟨h.r.mono s, h.x.tr s.tr⟩
theorem RS.get {S : Sta} {τ : LS} {σ : L2.St} {i : Nat} {t : T} (h : RS S τ σ) (e : τ[i]? = some (some t)) : ∃ w : V, σ[i]? = some (some w) ∧ Rv S t w := h.r.get e
theorem RS.set {S : Sta} {t : T} {w : V} (a : Rv S t w) {τ : LS} {σ : L2.St} (i : Nat) (hn : NoSl S.G i) (h : RS S τ σ) : RS S (τ.set i (some t)) (σ.set i (some w)) := ⟨RS0.set a i h.r, h.x.set hn⟩
theorem RS.unset {S : Sta} {v' : Option V} {τ : LS} {σ : L2.St} (i : Nat) (hn : NoSl S.G i) (h : RS S τ σ) : RS S (τ.set i none) (σ.set i v') := ⟨RS0.unset i h.r, h.x.set hn⟩
theorem RS.drop1 {S : Sta} {τ : LS} {σ : L2.St} (i : Nat) (h : RS S τ σ) : RS S (τ.set i none) σ := ⟨RS0.drop1 i h.r, h.x⟩
abbrev FE := LS → AH → Res T
abbrev FA := LS → AH → Res (List T)
abbrev FT := LS → AH → Res Bool
def SimE (G : Env) (E : L2.St → XK) (te : TE) (f : FE) : Prop := ∀ (S : Sta) (σ : L2.St) (τ : LS) (Q : VK), S.G = G → Ok S → RS S τ σ → PostG S (XP (E σ)) (fun t S' => ∀ v, Rv S' t v → Q v S'.H) (f τ S.h) → te σ S.H Q
def SimA (G : Env) (E : L2.St → XK) (te : TA) (f : FA) : Prop := ∀ (S : Sta) (σ : L2.St) (τ : LS) (Q : List V → Hp → Prop), S.G = G → Ok S → RS S τ σ → PostG S (XP (E σ)) (fun t S' => ∀ v, RvL S' t v → Q v S'.H) (f τ S.h) → te σ S.H Q
def SimT (G : Env) (E : L2.St → XK) (te : TT) (f : FT) : Prop := ∀ (S : Sta) (σ : L2.St) (τ : LS) (Q : Bool → Hp → Prop), S.G = G → Ok S → RS S τ σ → PostG S (XP (E σ)) (fun t S' => Q t S'.H) (f τ S.h) → te σ S.H Q
def SimR2 (G : Env) (r : R2) (g : T → T → AH → Res T) : Prop := ∀ (S : Sta) (x y : T) (u v : V) (X : Exc → Sta → Prop) (Q : VK), S.G = G → Ok S → Rv S x u → Rv S y v → PostG S X (fun t S' => ∀ v, Rv S' t v → Q v S'.H) (g x y S.h) → r u v S.H Q
def SimR1 (G : Env) (r : V → Hp → VK → Prop) (g : T → AH → Res T) : Prop := ∀ (S : Sta) (x : T) (u : V) (X : Exc → Sta → Prop) (Q : VK), S.G = G → Ok S → Rv S x u → PostG S X (fun t S' => ∀ v, Rv S' t v → Q v S'.H) (g x S.h) → r u S.H Q
def SimRC (G : Env) (r : List V → Hp → VK → Prop) (g : List T → AH → Res T) : Prop := ∀ (S : Sta) (xs : List T) (us : List V) (X : Exc → Sta → Prop) (Q : VK), S.G = G → Ok S → RvL S xs us → PostG S X (fun t S' => ∀ v, Rv S' t v → Q v S'.H) (g xs S.h) → r us S.H Q

section
variable {G : Env} {E : L2.St → XK} {ta tb tc : TE} {fa fb fc : FE}
@[simp] def mVar (i : Nat) : FE := fun τ h => match τ[i]? with | some (some t) => .ok t h | _ => .bad
theorem sim_var {i : Nat} : SimE G E (tVar i) (mVar i) := fun S σ τ Q e k r p => by
  unfold mVar at p
  split at p
  · rename_i t ht
    obtain ⟨w, h1, h2⟩ := r.get ht
    exact ⟨w, h1, p S rfl k (Step.refl S) w h2⟩
  · exact p.elim
@[simp] def mC (t : T) : FE := fun _ h => .ok t h
theorem sim_c {t : T} {v : V} (h : ∀ S, S.G = G → Rv S t v) : SimE G E (tC v) (mC t) := fun S σ τ Q e k r p => p S rfl k (Step.refl S) v (h S e)
theorem sim_int {i : Int} : SimE G E (tC (.int i)) (mC (.int i)) := sim_c fun _ _ => by simp only [Rv]
theorem sim_bl {b : Bool} : SimE G E (tC (.bl b)) (mC (.bl b)) := sim_c fun _ _ => by simp only [Rv]
theorem sim_str {x : Str} : SimE G E (tC (.str x)) (mC (.str x)) := sim_c fun _ _ => by simp only [Rv]
theorem sim_non : SimE G E (tC .non) (mC .non) := sim_c fun _ _ => by simp only [Rv]
theorem sim_ref {x : Str} {v : V} (h : G.fa x = v) : SimE G E (tC v) (mC (.ref x)) := sim_c fun S e => by simp only [Rv]; rw [e]; exact h.symm
@[simp] def mOp (g : T → T → AH → Res T) (fa fb : FE) : FE := fun τ h => (fa τ h).bind fun x h1 => (fb τ h1).bind fun y h2 => g x y h2
theorem sim_op {r : R2} {g : T → T → AH → Res T} (hr : SimR2 G r g) (ha : SimE G E ta fa) (hb : SimE G E tb fb) : SimE G E (tOp r ta tb) (mOp g fa fb) := fun S σ τ Q e k rs p => by
  refine ha S σ τ _ e k rs (PostG.imp (fun x S1 q u ru => ?_) (PostG.bind p))
  obtain ⟨k1, s1, q⟩ := q
  refine hb S1 σ τ _ (s1.G.trans e) k1 (rs.mono s1) (PostG.imp (fun y S2 q v rv => ?_) (PostG.bind q))
  obtain ⟨k2, s2, q⟩ := q
  exact hr S2 x y u v _ Q (s2.G.trans (s1.G.trans e)) k2 (ru.mono s2) rv q
@[simp] def mUn (g : T → AH → Res T) (fa : FE) : FE := fun τ h => (fa τ h).bind fun x h1 => g x h1
theorem sim_un {r : V → Hp → VK → Prop} {g : T → AH → Res T} (hr : SimR1 G r g) (ha : SimE G E ta fa) : SimE G E (tUn r ta) (mUn g fa) := fun S σ τ Q e k rs p => by
  refine ha S σ τ _ e k rs (PostG.imp (fun x S1 q u ru => ?_) (PostG.bind p))
  obtain ⟨k1, s1, q⟩ := q
  exact hr S1 x u _ Q (s1.G.trans e) k1 ru q
/-! arguments -/
@[simp] def mNil : FA := fun _ h => .ok [] h
@[simp] def mCons (fa : FE) (fr : FA) : FA := fun τ h => (fa τ h).bind fun x h1 => (fr τ h1).bind fun xs h2 => .ok (x :: xs) h2
theorem sim_nil : SimA G E tNil mNil := fun S σ τ Q e k rs p => p S rfl k (Step.refl S) [] RvL.nil
theorem sim_cons {tr : TA} {fr : FA} (ha : SimE G E ta fa) (hb : SimA G E tr fr) : SimA G E (tCons ta tr) (mCons fa fr) := fun S σ τ Q e k rs p => by
  refine ha S σ τ _ e k rs (PostG.imp (fun x S1 q u ru => ?_) (PostG.bind p))
  obtain ⟨k1, s1, q⟩ := q
  refine hb S1 σ τ _ (s1.G.trans e) k1 (rs.mono s1) (PostG.imp (fun y S2 q v rv => ?_) (PostG.bind q))
  obtain ⟨k2, s2, q⟩ := q
  exact q S2 rfl k2 (Step.refl S2) _ (RvL.cons (ru.mono s2) rv)
@[simp] def mCB (g : List T → AH → Res T) (fr : FA) : FE := fun τ h => (fr τ h).bind fun xs h1 => g xs h1
theorem sim_CB {r : List V → Hp → VK → Prop} {g : List T → AH → Res T} {tr : TA} {fr : FA} (hr : SimRC G r g) (ha : SimA G E tr fr) : SimE G E (tCB r tr) (mCB g fr) := fun S σ τ Q e k rs p => by
  refine ha S σ τ _ e k rs (PostG.imp (fun x S1 q u ru => ?_) (PostG.bind p))
  obtain ⟨k1, s1, q⟩ := q
  exact hr S1 x u _ Q (s1.G.trans e) k1 ru q
/-! tests -/
@[simp] def mB (fa : FE) : FT := fun τ h => (fa τ h).bind fun x h1 => match x with | .bl b => .ok b h1 | _ => .bad
theorem sim_B (ha : SimE G E ta fa) : SimT G E (tB ta) (mB fa) := fun S σ τ Q e k rs p => by
  refine ha S σ τ _ e k rs (PostG.imp (fun x S1 q u ru => ?_) (PostG.bind p))
  obtain ⟨k1, s1, q⟩ := q
  split at q
  · simp only [Rv] at ru; exact ⟨_, ru, q S1 rfl k1 (Step.refl S1)⟩
  · exact q.elim
theorem sim_test (ha : SimE G E ta fa) : SimT G E (tTest ta) (mB fa) := fun S σ τ Q e k rs p => by
  refine ha S σ τ _ e k rs (PostG.imp (fun x S1 q u ru => ?_) (PostG.bind p))
  obtain ⟨k1, s1, q⟩ := q
  split at q
  · simp only [Rv] at ru; exact ⟨_, ru, q S1 rfl k1 (Step.refl S1)⟩
  · exact q.elim
@[simp] def mAnd (f g : FT) : FT := fun τ h => (f τ h).bind fun c h1 => if c = true then g τ h1 else .ok false h1
@[simp] def mOr (f g : FT) : FT := fun τ h => (f τ h).bind fun c h1 => if c = true then .ok true h1 else g τ h1
@[simp] def mNot (f : FT) : FT := fun τ h => (f τ h).bind fun c h1 => .ok (!c) h1
theorem sim_and {t u : TT} {f g : FT} (ha : SimT G E t f) (hb : SimT G E u g) : SimT G E (tAnd t u) (mAnd f g) := fun S σ τ Q e k rs p => by
  refine ha S σ τ _ e k rs (PostG.imp (fun c S1 q => ?_) (PostG.bind p))
  obtain ⟨k1, s1, q⟩ := q
  cases c with
  | true => exact hb S1 σ τ Q (s1.G.trans e) k1 (rs.mono s1) q
  | false => exact q S1 rfl k1 (Step.refl S1)
theorem sim_or {t u : TT} {f g : FT} (ha : SimT G E t f) (hb : SimT G E u g) : SimT G E (tOr t u) (mOr f g) := fun S σ τ Q e k rs p => by
  refine ha S σ τ _ e k rs (PostG.imp (fun c S1 q => ?_) (PostG.bind p))
  obtain ⟨k1, s1, q⟩ := q
  cases c with
  | true => exact q S1 rfl k1 (Step.refl S1)
  | false => exact hb S1 σ τ Q (s1.G.trans e) k1 (rs.mono s1) q
theorem sim_not {t : TT} {f : FT} (ha : SimT G E t f) : SimT G E (tNot t) (mNot f) := fun S σ τ Q e k rs p => by
  refine ha S σ τ _ e k rs (PostG.imp (fun c S1 q => ?_) (PostG.bind p))
  obtain ⟨k1, s1, q⟩ := q
  exact q S1 rfl k1 (Step.refl S1)
@[simp] def mAndV (fa fb : FE) : FE := fun τ h => (fa τ h).bind fun x h1 => match x with | .bl c => if c = true then fb τ h1 else .ok (.bl false) h1 | _ => .bad
@[simp] def mOrV (fa fb : FE) : FE := fun τ h => (fa τ h).bind fun x h1 => match x with | .bl c => if c = true then .ok (.bl true) h1 else fb τ h1 | _ => .bad
@[simp] def mNotV (fa : FE) : FE := fun τ h => (fa τ h).bind fun x h1 => match x with | .bl c => .ok (.bl (!c)) h1 | _ => .bad
theorem sim_andV (ha : SimE G E ta fa) (hb : SimE G E tb fb) : SimE G E (tAndV ta tb) (mAndV fa fb) := fun S σ τ Q e k rs p => by
  refine ha S σ τ _ e k rs (PostG.imp (fun x S1 q u ru => ?_) (PostG.bind p))
  obtain ⟨k1, s1, q⟩ := q
  split at q
  · rename_i c
    simp only [Rv] at ru
    refine ⟨c, ru, ?_⟩
    cases c with
    | true => exact hb S1 σ τ Q (s1.G.trans e) k1 (rs.mono s1) q
    | false => exact q S1 rfl k1 (Step.refl S1) _ (by simp only [Rv])
  · exact q.elim
theorem sim_orV (ha : SimE G E ta fa) (hb : SimE G E tb fb) : SimE G E (tOrV ta tb) (mOrV fa fb) := fun S σ τ Q e k rs p => by
  refine ha S σ τ _ e k rs (PostG.imp (fun x S1 q u ru => ?_) (PostG.bind p))
  obtain ⟨k1, s1, q⟩ := q
  split at q
  · rename_i c
    simp only [Rv] at ru
    refine ⟨c, ru, ?_⟩
    cases c with
    | true => exact q S1 rfl k1 (Step.refl S1) _ (by simp only [Rv])
    | false => exact hb S1 σ τ Q (s1.G.trans e) k1 (rs.mono s1) q
  · exact q.elim
theorem sim_notV (ha : SimE G E ta fa) : SimE G E (tNotV ta) (mNotV fa) := fun S σ τ Q e k rs p => by
  refine ha S σ τ _ e k rs (PostG.imp (fun x S1 q u ru => ?_) (PostG.bind p))
  obtain ⟨k1, s1, q⟩ := q
  split at q
  · simp only [Rv] at ru
    exact ⟨_, ru, q S1 rfl k1 (Step.refl S1) _ (by simp only [Rv])⟩
  · exact q.elim
@[simp] def mIfE (f : FT) (fa fb : FE) : FE := fun τ h => (f τ h).bind fun c h1 => if c = true then fa τ h1 else fb τ h1
theorem sim_ifE {t : TT} {f : FT} (hc : SimT G E t f) (ha : SimE G E ta fa) (hb : SimE G E tb fb) : SimE G E (tIf t ta tb) (mIfE f fa fb) := fun S σ τ Q e k rs p => by
  refine hc S σ τ _ e k rs (PostG.imp (fun c S1 q => ?_) (PostG.bind p))
  obtain ⟨k1, s1, q⟩ := q
  cases c with
  | true => exact ha S1 σ τ Q (s1.G.trans e) k1 (rs.mono s1) q
  | false => exact hb S1 σ τ Q (s1.G.trans e) k1 (rs.mono s1) q
@[simp] def mChain (g g' : T → T → AH → Res T) (fa fb fc : FE) : FE := fun τ h => (fa τ h).bind fun x h1 => (fb τ h1).bind fun y h2 => (g x y h2).bind fun z h3 => match z with
  | .bl c => if c = true then (fc τ h3).bind fun w h4 => g' y w h4 else .ok (.bl false) h3
  | _ => .bad
theorem sim_chain {r r' : R2} {g g' : T → T → AH → Res T} (hr : SimR2 G r g) (hr' : SimR2 G r' g') (ha : SimE G E ta fa) (hb : SimE G E tb fb) (hc : SimE G E tc fc) : SimE G E (tChain r r' ta tb tc) (mChain g g' fa fb fc) := fun S σ τ Q e k rs p => by
  refine ha S σ τ _ e k rs (PostG.imp (fun x S1 q u ru => ?_) (PostG.bind p))
  obtain ⟨k1, s1, q⟩ := q
  refine hb S1 σ τ _ (s1.G.trans e) k1 (rs.mono s1) (PostG.imp (fun y S2 q v rv => ?_) (PostG.bind q))
  obtain ⟨k2, s2, q⟩ := q
  refine hr S2 x y u v _ _ (s2.G.trans (s1.G.trans e)) k2 (ru.mono s2) rv (PostG.imp (fun z S3 q w rw' => ?_) (PostG.bind q))
  obtain ⟨k3, s3, q⟩ := q
  split at q
  · rename_i c
    simp only [Rv] at rw'
    refine ⟨c, rw', ?_⟩
    cases c with
    | false => exact q S3 rfl k3 (Step.refl S3) _ (by simp only [Rv])
    | true =>
      have e3 := s3.G.trans (s2.G.trans (s1.G.trans e))
      refine hc S3 σ τ _ e3 k3 (rs.mono ((s1.trans s2).trans s3)) (PostG.imp (fun w S4 q a ra => ?_) (PostG.bind q))
      obtain ⟨k4, s4, q⟩ := q
      exact hr' S4 y w v a _ Q (s4.G.trans e3) k4 (rv.mono (s3.trans s4)) ra q
  · exact q.elim
end
end M
/-! ### operations, subscripts, displays, built-ins -/
namespace M
open PySem PySem.Spec PyProof.Rows L2
variable {G : Env} {E : L2.St → XK} {S : Sta}

/-- a pure operation -/
@[simp] def P2 (g : T → T → Option T) : T → T → AH → Res T := fun x y h => pur (g x y) h
@[simp] def P1 (g : T → Option T) : T → AH → Res T := fun x h => pur (g x) h
theorem simP2 {r : R2} {g : T → T → Option T} (hr : ∀ (S : Sta) (x y t : T) (u v : V) (Q : VK), S.G = G → Ok S → Rv S x u → Rv S y v → g x y = some t → (∀ w, Rv S t w → Q w S.H) → r u v S.H Q) : SimR2 G r (P2 g) := fun S x y u v X Q e k ru rv p => by
  unfold P2 pur at p
  split at p
  · rename_i t ht
    exact hr S x y t u v Q e k ru rv ht fun w rw' => p S rfl k (Step.refl S) w rw'
  · exact p.elim
theorem simP1 {r : V → Hp → VK → Prop} {g : T → Option T} (hr : ∀ (S : Sta) (x t : T) (u : V) (Q : VK), S.G = G → Ok S → Rv S x u → g x = some t → (∀ w, Rv S t w → Q w S.H) → r u S.H Q) : SimR1 G r (P1 g) := fun S x u X Q e k ru p => by
  unfold P1 pur at p
  split at p
  · rename_i t ht
    exact hr S x t u Q e k ru ht fun w rw' => p S rfl k (Step.refl S) w rw'
  · exact p.elim
/-! ints -/
@[simp] def iiT (g : Int → Int → T) : T → T → Option T | .int i, .int j => some (g i j) | _, _ => none
@[simp] def iiC (C : Int → Int → Bool) (g : Int → Int → T) : T → T → Option T | .int i, .int j => if C i j = true then some (g i j) else none | _, _ => none
theorem simI0 {gV : Int → Int → V} {gT : Int → Int → T} (h : ∀ i j S, Rv S (gT i j) (gV i j)) : SimR2 G (rI0 gV) (P2 (iiT gT)) := simP2 fun S x y t u v Q e k ru rv hg q => by
  unfold iiT at hg
  split at hg
  · simp only [Rv] at ru rv
    cases hg
    exact ⟨_, _, ru, rv, q _ (h _ _ _)⟩
  · cases hg
theorem simIC {C : Int → Int → Prop} {B : Int → Int → Bool} {gV : Int → Int → V} {gT : Int → Int → T} (h : ∀ i j S, Rv S (gT i j) (gV i j)) (hc : ∀ i j, B i j = true → C i j) : SimR2 G (rI C gV) (P2 (iiC B gT)) := simP2 fun S x y t u v Q e k ru rv hg q => by
  unfold iiC at hg
  split at hg
  · simp only [Rv] at ru rv
    split at hg
    · rename_i hb
      cases hg
      exact ⟨_, _, ru, rv, hc _ _ hb, q _ (h _ _ _)⟩
    · cases hg
  · cases hg
@[simp] theorem rv_int {i : Int} {v : V} : Rv S (.int i) v ↔ v = .int i := by simp only [Rv]
@[simp] theorem rv_bl {b : Bool} {v : V} : Rv S (.bl b) v ↔ v = .bl b := by simp only [Rv]
@[simp] theorem rv_str {b : Str} {v : V} : Rv S (.str b) v ↔ v = .str b := by simp only [Rv]
@[simp] theorem rv_non {v : V} : Rv S .non v ↔ v = .non := by simp only [Rv]
@[simp] abbrev oAdd := P2 (iiT fun i j => .int (i + j))
@[simp] abbrev oSub := P2 (iiT fun i j => .int (i - j))
@[simp] abbrev oMul := P2 (iiC (fun i j => decide (i.natAbs.log2 + j.natAbs.log2 < 1000000)) fun i j => .int (i * j))
@[simp] abbrev oDiv := P2 (iiC (fun _ j => decide (0 < j) && decide (j.natAbs.log2 < 9000)) fun i j => .int (i / j))
@[simp] abbrev oMod := P2 (iiC (fun _ j => decide (0 < j)) fun i j => .int (i % j))
@[simp] abbrev oShl := P2 (iiC (fun i j => decide (0 ≤ j) && decide (j ≤ 1000000) && decide (i.natAbs < 2 ^ 64)) fun i j => .int (i * 2 ^ j.toNat))
@[simp] abbrev oShr := P2 (iiC (fun _ j => decide (0 ≤ j)) fun i j => .int (i / 2 ^ j.toNat))
@[simp] abbrev oAnd := P2 (iiT fun i j => .int (Builtin.bitAnd i j))
@[simp] abbrev oOr := P2 (iiT fun i j => .int (Builtin.bitOr i j))
@[simp] abbrev oXor := P2 (iiT fun i j => .int (Builtin.bitXor i j))
@[simp] abbrev oLt := P2 (iiT fun i j => .bl (decide (i < j)))
@[simp] abbrev oLe := P2 (iiT fun i j => .bl (decide (i ≤ j)))
@[simp] abbrev oGt := P2 (iiT fun i j => .bl (decide (j < i)))
@[simp] abbrev oGe := P2 (iiT fun i j => .bl (decide (j ≤ i)))
theorem so_add : SimR2 G (rI0 fun i j => .int (i + j)) oAdd := simI0 fun _ _ _ => by simp
theorem so_sub : SimR2 G (rI0 fun i j => .int (i - j)) oSub := simI0 fun _ _ _ => by simp
theorem so_mul : SimR2 G (rI CMulW fun i j => .int (i * j)) oMul := simIC (fun _ _ _ => by simp) fun i j h => (of_decide_eq_true h : i.natAbs.log2 + j.natAbs.log2 < 1000000)
theorem so_div : SimR2 G (rI CDivW fun i j => .int (i / j)) oDiv := simIC (fun _ _ _ => by simp) fun i j h => by
  rw [Bool.and_eq_true] at h
  exact ⟨of_decide_eq_true h.1, of_decide_eq_true h.2⟩
theorem so_mod : SimR2 G (rI (fun _ j => 0 < j) fun i j => .int (i % j)) oMod := simIC (fun _ _ _ => by simp) fun i j h => of_decide_eq_true h
theorem so_shl : SimR2 G (rI CPow fun i j => .int (i * 2 ^ j.toNat)) oShl := simIC (fun _ _ _ => by simp) fun i j h => by
  rw [Bool.and_eq_true, Bool.and_eq_true] at h
  exact ⟨of_decide_eq_true h.1.1, of_decide_eq_true h.1.2, of_decide_eq_true h.2⟩
theorem so_shr : SimR2 G (rI (fun _ j => 0 ≤ j) fun i j => .int (i / 2 ^ j.toNat)) oShr := simIC (fun _ _ _ => by simp) fun i j h => of_decide_eq_true h
theorem so_and : SimR2 G (rI0 fun i j => .int (Builtin.bitAnd i j)) oAnd := simI0 fun _ _ _ => by simp
theorem so_or : SimR2 G (rI0 fun i j => .int (Builtin.bitOr i j)) oOr := simI0 fun _ _ _ => by simp
theorem so_xor : SimR2 G (rI0 fun i j => .int (Builtin.bitXor i j)) oXor := simI0 fun _ _ _ => by simp
theorem so_lt : SimR2 G (rI0 fun i j => .bl (decide (i < j))) oLt := simI0 fun _ _ _ => by simp
theorem so_le : SimR2 G (rI0 fun i j => .bl (decide (i ≤ j))) oLe := simI0 fun _ _ _ => by simp
theorem so_gt : SimR2 G (rI0 fun i j => .bl (decide (j < i))) oGt := simI0 fun _ _ _ => by simp
theorem so_ge : SimR2 G (rI0 fun i j => .bl (decide (j ≤ i))) oGe := simI0 fun _ _ _ => by simp
@[simp] def iT (g : Int → T) : T → Option T | .int i => some (g i) | _ => none
@[simp] abbrev oNeg := P1 (iT fun i => .int (-i))
@[simp] abbrev oInv := P1 (iT fun i => .int (Builtin.bitNot i))
theorem simU {gV : Int → V} {gT : Int → T} (h : ∀ i S, Rv S (gT i) (gV i)) : SimR1 G (rU gV) (P1 (iT gT)) := simP1 fun S x t u Q e k ru hg q => by
  unfold iT at hg
  split at hg
  · simp only [Rv] at ru
    cases hg
    exact ⟨_, ru, q _ (h _ _)⟩
  · cases hg
theorem so_neg : SimR1 G (rU fun i => .int (-i)) oNeg := simU fun _ _ => by simp
theorem so_inv : SimR1 G (rU fun i => .int (Builtin.bitNot i)) oInv := simU fun _ _ => by simp
/-! equality -/
mutual
def toD : T → Option PyData
  | .non => some .none
  | .bl b => some (.bool b)
  | .int i => some (.int i)
  | .str x => some (.str x)
  | .tup l => (toDL l).map .tuple
  | .ktp l => (toDL l).map .tuple
  | .lst l => (toDL l).map .list
  | .rdl l => (toDL l).map .list
  | _ => none
def toDL : List T → Option (List PyData)
  | [] => some []
  | t :: ts => match toD t, toDL ts with
    | some d, some ds => some (d :: ds)
    | _, _ => none
end
theorem sqt_of {p : Addr} {vs : List V} (h : Fz S p (.tup vs)) : SqT S.G.K S.H p vs := .inl (.inl h.1)
theorem sql_of {p : Addr} {vs : List V} (h : Fz S p (.lst vs)) : SqL S.G.K S.H p vs := .inl (.inl h.1)
theorem sql_rd {p : Addr} {vs : List V} (h : RdL S p vs) : SqL S.G.K S.H p vs := by
  rcases h with ⟨ob, h⟩ | h | h
  · exact .inl (.inr ⟨ob, h.1⟩)
  · exact .inl (.inl h.1)
  · exact .inr h
mutual
theorem toD_ok : ∀ {t : T} {v : V} {d : PyData}, Rv S t v → toD t = some d → Dp S.G.K S.H v d
  | .non, v, d, r, h => by simp only [Rv] at r; simp only [toD] at h; cases h; subst r; exact .non
  | .bl b, v, d, r, h => by simp only [Rv] at r; simp only [toD] at h; cases h; subst r; exact .bl b
  | .int b, v, d, r, h => by simp only [Rv] at r; simp only [toD] at h; cases h; subst r; exact .int b
  | .str b, v, d, r, h => by simp only [Rv] at r; simp only [toD] at h; cases h; subst r; exact .str b
  | .tup l, v, d, r, h => by
    simp only [Rv] at r; simp only [toD] at h
    obtain ⟨p, vs, rfl, f, rl⟩ := r
    obtain ⟨ds, h1, rfl⟩ := Option.map_eq_some_iff.mp h
    exact .tup (sqt_of f) (toDL_ok rl h1)
  | .ktp l, v, d, r, h => by
    simp only [Rv] at r; simp only [toD] at h
    obtain ⟨p, vs, rfl, f, rl⟩ := r
    obtain ⟨ds, h1, rfl⟩ := Option.map_eq_some_iff.mp h
    exact .tup (.inr f) (toDL_ok rl h1)
  | .lst l, v, d, r, h => by
    simp only [Rv] at r; simp only [toD] at h
    obtain ⟨p, vs, rfl, f, rl⟩ := r
    obtain ⟨ds, h1, rfl⟩ := Option.map_eq_some_iff.mp h
    exact .lst (sql_of f) (toDL_ok rl h1)
  | .rdl l, v, d, r, h => by
    simp only [Rv] at r; simp only [toD] at h
    obtain ⟨p, vs, rfl, f, rl⟩ := r
    obtain ⟨ds, h1, rfl⟩ := Option.map_eq_some_iff.mp h
    exact .lst (sql_rd f) (toDL_ok rl h1)
  | .ref _, _, _, _, h => by simp only [toD] at h; cases h
  | .obj _, _, _, _, h => by simp only [toD] at h; cases h
  | .inst _ _ _, _, _, _, h => by simp only [toD] at h; cases h
  | .dct _ _, _, _, _, h => by simp only [toD] at h; cases h
  | .dctT _ _, _, _, _, h => by simp only [toD] at h; cases h
theorem toDL_ok : ∀ {l : List T} {vs : List V} {ds : List PyData}, RvL S l vs → toDL l = some ds → DpAll S.G.K S.H vs ds
  | [], vs, ds, r, h => by simp only [RvL] at r; simp only [toDL] at h; cases h; subst r; exact .nil
  | t :: ts, vs, ds, r, h => by
    simp only [RvL] at r
    obtain ⟨v, q, rfl, r1, r2⟩ := r
    simp only [toDL] at h
    split at h
    · rename_i d ds' h1 h2
      cases h
      exact .cons (toD_ok r1 h1) (toDL_ok r2 h2)
    · cases h
end
/-- x == y: scalars as they are, data at any depth by what they hold -/
def eqT : T → T → Option Bool
  | .int i, .int j => some (decide (i = j))
  | .bl i, .bl j => some (decide (i = j))
  | .str i, .str j => some (decide (i = j))
  | .non, .non => some true
  | .int _, .str _ => some false
  | .str _, .int _ => some false
  | .non, .int _ => some false
  | .int _, .non => some false
  | .non, .str _ => some false
  | .str _, .non => some false
  | .non, .bl _ => some false
  | .bl _, .non => some false
  | .bl _, .str _ => some false
  | .str _, .bl _ => some false
  | x, y => match toD x, toD y with
    | some d, some e => if SeqAt.shaped d = true ∧ SeqAt.shaped e = true then some (PyData.eqv d e) else none
    | _, _ => none
@[simp] theorem eqT_int {i j : Int} : eqT (.int i) (.int j) = some (decide (i = j)) := rfl
@[simp] theorem eqT_bl {i j : Bool} : eqT (.bl i) (.bl j) = some (decide (i = j)) := rfl
@[simp] theorem eqT_str {i j : Str} : eqT (.str i) (.str j) = some (decide (i = j)) := rfl
@[simp] theorem eqT_non : eqT .non .non = some true := rfl
@[simp] abbrev oEq := P2 fun x y => (eqT x y).map .bl
@[simp] abbrev oNe := P2 fun x y => (eqT x y).map fun b => .bl (!b)
theorem so_eq : SimR2 G (fun x y H Q => rEq x y H Q ∨ rEqD G.K x y H Q) oEq := simP2 fun S x y t u v Q e k ru rv hg q => by
  obtain ⟨b, hb, rfl⟩ := Option.map_eq_some_iff.mp hg
  have q := q (.bl b) (by simp)
  unfold eqT at hb
  split at hb
  all_goals first
    | (simp only [Rv] at ru rv; subst ru; subst rv; cases hb; exact .inl ⟨rfl, by first | exact q | (simpa using q)⟩)
    | skip
  split at hb
  · rename_i d e' hd he
    split at hb
    · rename_i hs
      cases hb
      have a := toD_ok ru hd
      have c := toD_ok rv he
      rw [e] at a c
      exact .inr ⟨d, e', a, c, hs.1, hs.2, q⟩
    · cases hb
  · cases hb
theorem so_ne : SimR2 G (fun x y H Q => rNe x y H Q ∨ rNeD G.K x y H Q) oNe := simP2 fun S x y t u v Q e k ru rv hg q => by
  obtain ⟨b, hb, rfl⟩ := Option.map_eq_some_iff.mp hg
  have q := q (.bl (!b)) (by simp)
  unfold eqT at hb
  split at hb
  all_goals first
    | (simp only [Rv] at ru rv; subst ru; subst rv; cases hb; exact .inl ⟨rfl, by first | exact q | (simpa using q)⟩)
    | skip
  split at hb
  · rename_i d e' hd he
    split at hb
    · rename_i hs
      cases hb
      have a := toD_ok ru hd
      have c := toD_ok rv he
      rw [e] at a c
      exact .inr ⟨d, e', a, c, hs.1, hs.2, q⟩
    · cases hb
  · cases hb
/-! texts -/
@[simp] abbrev oAddS := P2 fun x y => match x, y with | .str i, .str j => if i.length + j.length ≤ sizeLine then some (.str (i ++ j)) else none | _, _ => none
theorem so_addS : SimR2 G (fun x y H Q => ∃ i j, x = .str i ∧ y = .str j ∧ i.length + j.length ≤ sizeLine ∧ Q (.str (i ++ j)) H) oAddS := simP2 fun S x y t u v Q e k ru rv hg q => by
  split at hg
  · simp only [Rv] at ru rv
    split at hg
    · rename_i hb
      cases hg
      exact ⟨_, _, ru, rv, hb, q _ (by simp)⟩
    · cases hg
  · cases hg
@[simp] abbrev oLtS := P2 fun x y => match x, y with | .str i, .str j => some (.bl (decide (i.cps.toList < j.cps.toList))) | _, _ => none
theorem so_ltS : SimR2 G (fun x y H Q => ∃ i j, x = .str i ∧ y = .str j ∧ Q (.bl (decide (i.cps.toList < j.cps.toList))) H) oLtS := simP2 fun S x y t u v Q e k ru rv hg q => by
  split at hg
  · simp only [Rv] at ru rv
    cases hg
    exact ⟨_, _, ru, rv, q _ (by simp)⟩
  · cases hg
@[simp] abbrev oInS := P2 fun x y => match x, y with | .str i, .str j => some (.bl (!(Builtin.Str.occurrences j i 0 j.length 1).isEmpty)) | _, _ => none
theorem so_inS : SimR2 G (fun x y H Q => ∃ i j, x = .str i ∧ y = .str j ∧ Q (.bl (!(Builtin.Str.occurrences j i 0 j.length 1).isEmpty)) H) oInS := simP2 fun S x y t u v Q e k ru rv hg q => by
  split at hg
  · simp only [Rv] at ru rv
    cases hg
    exact ⟨_, _, ru, rv, q _ (by simp)⟩
  · cases hg
@[simp] abbrev oNinS := P2 fun x y => match x, y with | .str i, .str j => some (.bl (!(!(Builtin.Str.occurrences j i 0 j.length 1).isEmpty))) | _, _ => none
theorem so_ninS : SimR2 G (fun x y H Q => ∃ i j, x = .str i ∧ y = .str j ∧ Q (.bl (!(!(Builtin.Str.occurrences j i 0 j.length 1).isEmpty))) H) oNinS := simP2 fun S x y t u v Q e k ru rv hg q => by
  split at hg
  · simp only [Rv] at ru rv
    cases hg
    exact ⟨_, _, ru, rv, q _ (by simp)⟩
  · cases hg
/-! is None -/
@[simp] def isNon : T → Bool | .non => true | _ => false
theorem rv_isNon {x : T} {u : V} (hf : ∀ a, S.G.fa a ≠ .non) (r : Rv S x u) : decide (u = .non) = isNon x := by
  cases x <;> simp only [Rv] at r <;> first
    | (subst r; rfl)
    | (subst r; simp [isNon, hf])
    | (obtain ⟨p, vs, rfl, _⟩ := r; rfl)
    | (obtain ⟨p, dx, vs, rfl, _⟩ := r; rfl)
    | (obtain ⟨p, _, rfl⟩ := r; rfl)
@[simp] abbrev mIsN (fa : FE) : FE := mUn (fun x h => .ok (.bl (isNon x)) h) fa
@[simp] abbrev mNotN (fa : FE) : FE := mUn (fun x h => .ok (.bl (!isNon x)) h) fa
theorem sim_isN {ta : TE} {fa : FE} (hf : ∀ a, G.fa a ≠ .non) (ha : SimE G E ta fa) : SimE G E (tIsN ta) (mIsN fa) := fun S σ τ Q e k rs p => by
  refine ha S σ τ _ e k rs (PostG.imp (fun x S1 q u ru => ?_) (PostG.bind p))
  obtain ⟨k1, s1, q⟩ := q
  exact q S1 rfl k1 (Step.refl S1) _ (by rw [rv_isNon (by rw [s1.G, e]; exact hf) ru]; simp)
theorem sim_notN {ta : TE} {fa : FE} (hf : ∀ a, G.fa a ≠ .non) (ha : SimE G E ta fa) : SimE G E (tNotN ta) (mNotN fa) := fun S σ τ Q e k rs p => by
  refine ha S σ τ _ e k rs (PostG.imp (fun x S1 q u ru => ?_) (PostG.bind p))
  obtain ⟨k1, s1, q⟩ := q
  exact q S1 rfl k1 (Step.refl S1) _ (by rw [rv_isNon (by rw [s1.G, e]; exact hf) ru]; simp)
/-! sequences -/
@[simp] def tupOf : T → Option (List T) | .tup l => some l | .ktp l => some l | _ => none
@[simp] def lstOf : T → AH → Option (List T)
  | .lst l, _ => some l
  | .rdl l, _ => some l
  | .obj i, h => match h[i]? with | some (some (.lst l)) => some l | _ => none
  | _, _ => none
/-- a list that is wholly known -/
@[simp] def lstIn : T → AH → Option (List T)
  | .lst l, _ => some l
  | .obj i, h => match h[i]? with | some (some (.lst l)) => some l | _ => none
  | _, _ => none
theorem tupOf_ok {x : T} {l : List T} {u : V} (h : tupOf x = some l) (r : Rv S x u) : ∃ p vs, u = .ref p ∧ SqT S.G.K S.H p vs ∧ RvL S l vs := by
  cases x <;> simp only [tupOf] at h <;> first
    | (cases h; done)
    | (cases h; simp only [Rv] at r; obtain ⟨p, vs, rfl, f, rl⟩ := r; first | exact ⟨p, vs, rfl, sqt_of f, rl⟩ | exact ⟨p, vs, rfl, .inr f, rl⟩)
theorem obj_lst {i : Nat} {l : List T} {u : V} (k : Ok S) (h : S.h[i]? = some (some (.lst l))) (r : Rv S (.obj i) u) : ∃ p vs, u = .ref p ∧ S.al[i]? = some p ∧ S.H p = some (.lst vs) ∧ RvL S l vs := by
  simp only [Rv] at r
  obtain ⟨p, hp, rfl⟩ := r
  obtain ⟨u, hu, vs, rfl, rl⟩ := k.rel i _ p h hp
  exact ⟨p, vs, rfl, hp, hu, rl⟩
theorem lstOf_ok {x : T} {l : List T} {u : V} (k : Ok S) (h : lstOf x S.h = some l) (r : Rv S x u) : ∃ p vs, u = .ref p ∧ SqL S.G.K S.H p vs ∧ RvL S l vs := by
  cases x <;> simp only [lstOf] at h <;> try (cases h; done)
  · cases h; simp only [Rv] at r; obtain ⟨p, vs, rfl, f, rl⟩ := r; exact ⟨p, vs, rfl, sql_of f, rl⟩
  · cases h; simp only [Rv] at r; obtain ⟨p, vs, rfl, f, rl⟩ := r; exact ⟨p, vs, rfl, sql_rd f, rl⟩
  · split at h
    · rename_i l' hl
      cases h
      obtain ⟨p, vs, rfl, _, hp, rl⟩ := obj_lst k hl r
      exact ⟨p, vs, rfl, .inl (.inl hp), rl⟩
    · cases h
theorem lstIn_ok {x : T} {l : List T} {u : V} (k : Ok S) (h : lstIn x S.h = some l) (r : Rv S x u) : ∃ p vs, u = .ref p ∧ S.H p = some (.lst vs) ∧ RvL S l vs := by
  cases x <;> simp only [lstIn] at h <;> try (cases h; done)
  · cases h; simp only [Rv] at r; obtain ⟨p, vs, rfl, f, rl⟩ := r; exact ⟨p, vs, rfl, f.1, rl⟩
  · split at h
    · rename_i l' hl
      cases h
      obtain ⟨p, vs, rfl, _, hp, rl⟩ := obj_lst k hl r
      exact ⟨p, vs, rfl, hp, rl⟩
    · cases h
theorem RvL.at {l : List T} {vs : List V} {i : Int} {t : T} (r : RvL S l vs) (h : atI l i = some t) : ∃ v, atI vs i = some v ∧ Rv S t v := by
  unfold atI at h ⊢
  rw [r.len]
  obtain ⟨j, hj, e⟩ := Option.bind_eq_some_iff.mp h
  obtain ⟨v, h1, h2⟩ := r.get e
  exact ⟨v, by rw [hj]; exact h1, h2⟩
@[simp] def gIxL (x y : T) (h : AH) : Option T := match y with | .int i => (lstOf x h).bind fun l => atI l i | _ => none
@[simp] def gIxT (x y : T) (_ : AH) : Option T := match y with | .int i => (tupOf x).bind fun l => atI l i | _ => none
@[simp] abbrev oIxL : T → T → AH → Res T := fun x y h => pur (gIxL x y h) h
@[simp] abbrev oIxT : T → T → AH → Res T := fun x y h => pur (gIxT x y h) h
/-- xs[i], a list or a tuple -/
@[simp] abbrev oIx : T → T → AH → Res T := fun x y h => pur (match gIxT x y h with | some t => some t | none => gIxL x y h) h
theorem simPh2 {r : R2} {g : T → T → AH → Option T} (hr : ∀ (S : Sta) (x y t : T) (u v : V) (Q : VK), S.G = G → Ok S → Rv S x u → Rv S y v → g x y S.h = some t → (∀ w, Rv S t w → Q w S.H) → r u v S.H Q) : SimR2 G r (fun x y h => pur (g x y h) h) := fun S x y u v X Q e k ru rv p => by
  change PostG S X _ (pur (g x y S.h) S.h) at p
  unfold pur at p
  split at p
  · rename_i t ht
    exact hr S x y t u v Q e k ru rv ht fun w rw' => p S rfl k (Step.refl S) w rw'
  · exact p.elim
theorem ixT_ok {x y t : T} {u v : V} {Q : VK} (ru : Rv S x u) (rv : Rv S y v) (h : gIxT x y S.h = some t) (q : ∀ w, Rv S t w → Q w S.H) : rIxT S.G.K u v S.H Q := by
  unfold gIxT at h
  split at h
  · obtain ⟨l, hl, ha⟩ := Option.bind_eq_some_iff.mp h
    obtain ⟨p, vs, rfl, hs, rl⟩ := tupOf_ok hl ru
    obtain ⟨w, h1, h2⟩ := rl.at ha
    simp only [Rv] at rv
    exact ⟨p, vs, _, w, rfl, rv, hs, h1, q w h2⟩
  · cases h
theorem ixL_ok {x y t : T} {u v : V} {Q : VK} (k : Ok S) (ru : Rv S x u) (rv : Rv S y v) (h : gIxL x y S.h = some t) (q : ∀ w, Rv S t w → Q w S.H) : rIxL S.G.K u v S.H Q := by
  unfold gIxL at h
  split at h
  · obtain ⟨l, hl, ha⟩ := Option.bind_eq_some_iff.mp h
    obtain ⟨p, vs, rfl, hs, rl⟩ := lstOf_ok k hl ru
    obtain ⟨w, h1, h2⟩ := rl.at ha
    simp only [Rv] at rv
    exact ⟨p, vs, _, w, rfl, rv, hs, h1, q w h2⟩
  · cases h
theorem so_ix : SimR2 G (rIx G.K) oIx := simPh2 fun S x y t u v Q e k ru rv hg q => by
  rw [← e]
  split at hg
  · rename_i t' ht
    cases hg
    exact .inr (.inl (ixT_ok ru rv ht q))
  · exact .inl (ixL_ok k ru rv hg q)
@[simp] abbrev oIxS := P2 fun x y => match x, y with | .str z, .int i => if z.length ≤ sizeLine then (atI z.cps.toList i).map fun c => .str ⟨#[c]⟩ else none | _, _ => none
theorem so_ixS : SimR2 G rIxS oIxS := simP2 fun S x y t u v Q e k ru rv hg q => by
  split at hg
  · simp only [Rv] at ru rv
    split at hg
    · rename_i hb
      obtain ⟨c, hc, rfl⟩ := Option.map_eq_some_iff.mp hg
      exact ⟨_, _, c, ru, rv, hb, hc, q _ (by simp)⟩
    · cases hg
  · cases hg
/-! in -/
@[simp] def flatT : T → Bool | .non => true | .bl _ => true | .int _ => true | .str _ => true | _ => false
def eqF : T → T → Bool
  | .non, .non => true
  | .bl a, .bl b => a == b
  | .bl a, .int b => (if a then 1 else 0) == b
  | .int a, .bl b => a == (if b then 1 else 0)
  | .int a, .int b => a == b
  | .str a, .str b => a == b
  | _, _ => false
def inT (x : T) (l : List T) : Bool := l.any fun y => eqF y x
theorem flat_ok {x : T} {u : V} (r : Rv S x u) (h : flatT x = true) : flatV u = true := by
  cases x <;> simp only [Rv] at r <;> first
    | (subst r; rfl)
    | (simp [flatT] at h)
theorem eqF_ok {x y : T} {u v : V} (rx : Rv S x u) (ry : Rv S y v) (hx : flatT x = true) (hy : flatT y = true) : eqV v u = eqF y x := by
  cases x <;> simp [flatT] at hx <;> cases y <;> simp [flatT] at hy <;> simp only [Rv] at rx ry <;> subst rx <;> subst ry <;> rfl
theorem flats_ok : ∀ {l : List T} {vs : List V}, RvL S l vs → l.all flatT = true → vs.all flatV = true
  | [], vs, r, h => by simp only [RvL] at r; subst r; rfl
  | t :: ts, vs, r, h => by
    simp only [RvL] at r
    obtain ⟨v, q, rfl, r1, r2⟩ := r
    rw [List.all_cons, Bool.and_eq_true] at h ⊢
    exact ⟨flat_ok r1 h.1, flats_ok r2 h.2⟩
theorem inT_ok {x : T} {u : V} (rx : Rv S x u) (hx : flatT x = true) : ∀ {l : List T} {vs : List V}, RvL S l vs → l.all flatT = true → inV u vs = inT x l
  | [], vs, r, h => by simp only [RvL] at r; subst r; rfl
  | t :: ts, vs, r, h => by
    simp only [RvL] at r
    obtain ⟨v, q, rfl, r1, r2⟩ := r
    rw [List.all_cons, Bool.and_eq_true] at h
    have ih := inT_ok rx hx r2 h.2
    unfold inV inT at ih ⊢
    rw [List.any_cons, List.any_cons, eqF_ok rx r1 hx h.1, ih]
@[simp] def seqOf (x : T) (h : AH) : Option (List T) := match tupOf x with | some l => some l | none => lstOf x h
theorem seqOf_ok {x : T} {l : List T} {u : V} (k : Ok S) (h : seqOf x S.h = some l) (r : Rv S x u) : ∃ p vs, u = .ref p ∧ (SqL S.G.K S.H p vs ∨ SqT S.G.K S.H p vs) ∧ RvL S l vs := by
  unfold seqOf at h
  split at h
  · rename_i l' hl
    cases h
    obtain ⟨p, vs, e, hs, rl⟩ := tupOf_ok hl r
    exact ⟨p, vs, e, .inr hs, rl⟩
  · obtain ⟨p, vs, e, hs, rl⟩ := lstOf_ok k h r
    exact ⟨p, vs, e, .inl hs, rl⟩
@[simp] def gIn (neg : Bool) (x y : T) (h : AH) : Option T := (seqOf y h).bind fun l => if flatT x = true ∧ l.all flatT = true then some (.bl (if neg then !inT x l else inT x l)) else none
@[simp] abbrev oIn : T → T → AH → Res T := fun x y h => pur (gIn false x y h) h
@[simp] abbrev oNin : T → T → AH → Res T := fun x y h => pur (gIn true x y h) h
theorem so_inG {neg : Bool} : SimR2 G (rIn G.K neg) (fun x y h => pur (gIn neg x y h) h) := simPh2 fun S x y t u v Q e k ru rv hg q => by
  rw [← e]
  unfold gIn at hg
  obtain ⟨l, hl, hg⟩ := Option.bind_eq_some_iff.mp hg
  split at hg
  · rename_i hb
    cases hg
    obtain ⟨p, vs, rfl, hs, rl⟩ := seqOf_ok k hl rv
    refine ⟨p, vs, rfl, hs, flat_ok ru hb.1, flats_ok rl hb.2, ?_⟩
    rw [inT_ok ru hb.1 rl hb.2]
    exact q _ (by simp)
  · cases hg
theorem so_in : SimR2 G (rIn G.K false) oIn := so_inG
theorem so_nin : SimR2 G (rIn G.K true) oNin := so_inG
/-! new lists and tuples -/
theorem new_fz {u : HO} {Q : VK} {X : Exc → Sta → Prop} {t : T} (k : Ok S) (p : PostG S X (fun t S' => ∀ v, Rv S' t v → Q v S'.H) (.ok t S.h)) (hv : ∀ p, S.H p = none → Fz (S.at (upd S.H p u)) p u → Rv (S.at (upd S.H p u)) t (.ref p)) :
    ∀ p, S.H p = none → Q (.ref p) (upd S.H p u) := fun a n => by
  have g := Grow.upd (u := u) n
  exact p (S.at (upd S.H a u)) rfl (ok_at k g) (step_at k g) _ (hv a n (fz_new k n upd_same))
theorem new_obj {o : O} {u : HO} {Q : VK} {X : Exc → Sta → Prop} (k : Ok S) (p : PostG S X (fun t S' => ∀ v, Rv S' t v → Q v S'.H) (.ok (.obj S.h.length) (S.h ++ [some o]))) (hv : ∀ S', Step S S' → RO S' o u) :
    ∀ p, S.H p = none → Q (.ref p) (upd S.H p u) := fun a n => by
  have g := Grow.upd (u := u) n
  refine p (S.push a o (upd S.H a u)) rfl (ok_push k n g upd_same (hv _ (step_push k n g))) (step_push k n g) _ ?_
  simp only [Rv]
  exact ⟨a, by simp [Sta.push, k.len], rfl⟩
theorem rv_tup {p : Addr} {l : List T} {vs : List V} (f : Fz S p (.tup vs)) (r : RvL S l vs) : Rv S (.tup l) (.ref p) := by simp only [Rv]; exact ⟨p, vs, rfl, f, r⟩
theorem rv_lst {p : Addr} {l : List T} {vs : List V} (f : Fz S p (.lst vs)) (r : RvL S l vs) : Rv S (.lst l) (.ref p) := by simp only [Rv]; exact ⟨p, vs, rfl, f, r⟩
@[simp] def mTup (fr : FA) : FE := fun τ h => (fr τ h).bind fun xs h1 => if xs.length ≤ sizeLine then .ok (.tup xs) h1 else .bad
@[simp] def mLst (fr : FA) : FE := fun τ h => (fr τ h).bind fun xs h1 => if xs.length ≤ sizeLine then .ok (.lst xs) h1 else .bad
/-- a list that will change -/
@[simp] def mLstO (fr : FA) : FE := fun τ h => (fr τ h).bind fun xs h1 => if xs.length ≤ sizeLine then .ok (.obj h1.length) (h1 ++ [some (.lst xs)]) else .bad
section
variable {tr : TA} {fr : FA}
theorem sim_tup (ha : SimA G E tr fr) : SimE G E (tTup tr) (mTup fr) := fun S σ τ Q e k rs p => by
  refine ha S σ τ _ e k rs (PostG.imp (fun x S1 q u ru => ?_) (PostG.bind p))
  obtain ⟨k1, s1, q⟩ := q
  split at q
  · rename_i hb
    exact ⟨by rw [ru.len]; exact hb, new_fz k1 q fun p n f => rv_tup f (ru.mono (step_at (by assumption) (Grow.upd n)))⟩
  · exact q.elim
theorem sim_lst (ha : SimA G E tr fr) : SimE G E (tLst tr) (mLst fr) := fun S σ τ Q e k rs p => by
  refine ha S σ τ _ e k rs (PostG.imp (fun x S1 q u ru => ?_) (PostG.bind p))
  obtain ⟨k1, s1, q⟩ := q
  split at q
  · rename_i hb
    exact ⟨by rw [ru.len]; exact hb, new_fz k1 q fun p n f => rv_lst f (ru.mono (step_at (by assumption) (Grow.upd n)))⟩
  · exact q.elim
theorem sim_lstO (ha : SimA G E tr fr) : SimE G E (tLst tr) (mLstO fr) := fun S σ τ Q e k rs p => by
  refine ha S σ τ _ e k rs (PostG.imp (fun x S1 q u ru => ?_) (PostG.bind p))
  obtain ⟨k1, s1, q⟩ := q
  split at q
  · rename_i hb
    exact ⟨by rw [ru.len]; exact hb, new_obj k1 q fun S' st => ⟨_, rfl, ru.mono st⟩⟩
  · exact q.elim
end
/-! list + list, tuple + tuple, list * int -/
@[simp] def gCat (x y : T) (h : AH) : Option (List T) := (lstIn x h).bind fun l => (lstIn y h).bind fun m => if l.length + m.length ≤ sizeLine then some (l ++ m) else none
@[simp] abbrev oCat : T → T → AH → Res T := fun x y h => pur ((gCat x y h).map .lst) h
@[simp] abbrev oCatO : T → T → AH → Res T := fun x y h => (pur (gCat x y h) h).bind fun l h1 => .ok (.obj h1.length) (h1 ++ [some (.lst l)])
theorem cat_ok {x y : T} {u v : V} {l : List T} (k : Ok S) (ru : Rv S x u) (rv : Rv S y v) (h : gCat x y S.h = some l) : ∃ p q xs ys, u = .ref p ∧ v = .ref q ∧ S.H p = some (.lst xs) ∧ S.H q = some (.lst ys) ∧ xs.length + ys.length ≤ sizeLine ∧ RvL S l (xs ++ ys) := by
  unfold gCat at h
  obtain ⟨l1, h1, h⟩ := Option.bind_eq_some_iff.mp h
  obtain ⟨l2, h2, h⟩ := Option.bind_eq_some_iff.mp h
  split at h
  · rename_i hb
    cases h
    obtain ⟨p, xs, rfl, hp, r1⟩ := lstIn_ok k h1 ru
    obtain ⟨q, ys, rfl, hq, r2⟩ := lstIn_ok k h2 rv
    exact ⟨p, q, xs, ys, rfl, rfl, hp, hq, by rw [r1.len, r2.len]; exact hb, r1.app r2⟩
  · cases h
theorem so_cat : SimR2 G rCat oCat := fun S x y u v X Q e k ru rv p => by
  unfold oCat pur at p
  split at p
  · rename_i t ht
    obtain ⟨l, hl, rfl⟩ := Option.map_eq_some_iff.mp ht
    obtain ⟨a, b, xs, ys, rfl, rfl, ha, hb, hz, rl⟩ := cat_ok k ru rv hl
    exact ⟨a, b, xs, ys, rfl, rfl, ha, hb, hz, new_fz k p fun p n f => rv_lst f (rl.mono (step_at (by assumption) (Grow.upd n)))⟩
  · exact p.elim
theorem so_catO : SimR2 G rCat oCatO := fun S x y u v X Q e k ru rv p => by
  unfold oCatO pur at p
  split at p
  · rename_i l hl
    obtain ⟨a, b, xs, ys, rfl, rfl, ha, hb, hz, rl⟩ := cat_ok k ru rv hl
    exact ⟨a, b, xs, ys, rfl, rfl, ha, hb, hz, new_obj k p fun S' st => ⟨_, rfl, rl.mono st⟩⟩
  · exact p.elim
@[simp] abbrev oCatT : T → T → AH → Res T := P2 fun x y => (tupOf x).bind fun l => (tupOf y).bind fun m => if l ≠ [] ∧ m ≠ [] ∧ l.length + m.length ≤ sizeLine then some (.tup (l ++ m)) else none
/-! slices -/
@[simp] def cutT (xs : List T) (lo hi : Option Int) : List T := (xs.drop (HT.sIx xs.length 0 lo)).take (HT.sIx xs.length xs.length hi - HT.sIx xs.length 0 lo)
theorem RvL.cut {l : List T} {vs : List V} (r : RvL S l vs) (lo hi : Option Int) : RvL S (cutT l lo hi) (cutV vs lo hi) := by
  unfold cutT cutV
  rw [r.len]
  exact (r.drop _).take _
abbrev FO := LS → AH → Res (Option Int)
def SimO (G : Env) (E : L2.St → XK) (te : TO) (f : FO) : Prop := ∀ (S : Sta) (σ : L2.St) (τ : LS) (Q : Option Int → Hp → Prop), S.G = G → Ok S → RS S τ σ → PostG S (XP (E σ)) (fun t S' => Q t S'.H) (f τ S.h) → te σ S.H Q
@[simp] def mNoPart : FO := fun _ h => .ok none h
@[simp] def mPart (fa : FE) : FO := fun τ h => (fa τ h).bind fun x h1 => match x with | .int i => .ok (some i) h1 | _ => .bad
theorem sim_noPart : SimO G E tNoPart mNoPart := fun S σ τ Q e k rs p => p S rfl k (Step.refl S)
theorem sim_part {ta : TE} {fa : FE} (ha : SimE G E ta fa) : SimO G E (tPart ta) (mPart fa) := fun S σ τ Q e k rs p => by
  refine ha S σ τ _ e k rs (PostG.imp (fun x S1 q u ru => ?_) (PostG.bind p))
  obtain ⟨k1, s1, q⟩ := q
  split at q
  · simp only [Rv] at ru; exact ⟨_, ru, q S1 rfl k1 (Step.refl S1)⟩
  · exact q.elim
def SimSl (G : Env) (r : V → Option Int → Option Int → Hp → VK → Prop) (g : T → Option Int → Option Int → AH → Res T) : Prop := ∀ (S : Sta) (x : T) (u : V) (lo hi : Option Int) (X : Exc → Sta → Prop) (Q : VK), S.G = G → Ok S → Rv S x u → PostG S X (fun t S' => ∀ v, Rv S' t v → Q v S'.H) (g x lo hi S.h) → r u lo hi S.H Q
@[simp] def mSl (g : T → Option Int → Option Int → AH → Res T) (fa : FE) (fl fh : FO) : FE := fun τ h => (fa τ h).bind fun x h1 => (fl τ h1).bind fun lo h2 => (fh τ h2).bind fun hi h3 => g x lo hi h3
theorem sim_sl {r : V → Option Int → Option Int → Hp → VK → Prop} {g : T → Option Int → Option Int → AH → Res T} {ta : TE} {fa : FE} {tl th : TO} {fl fh : FO} (hr : SimSl G r g) (ha : SimE G E ta fa) (hl : SimO G E tl fl) (hh : SimO G E th fh) : SimE G E (tSl r ta tl th) (mSl g fa fl fh) := fun S σ τ Q e k rs p => by
  refine ha S σ τ _ e k rs (PostG.imp (fun x S1 q u ru => ?_) (PostG.bind p))
  obtain ⟨k1, s1, q⟩ := q
  refine hl S1 σ τ _ (s1.G.trans e) k1 (rs.mono s1) (PostG.imp (fun lo S2 q => ?_) (PostG.bind q))
  obtain ⟨k2, s2, q⟩ := q
  refine hh S2 σ τ _ (s2.G.trans (s1.G.trans e)) k2 (rs.mono (s1.trans s2)) (PostG.imp (fun hi S3 q => ?_) (PostG.bind q))
  obtain ⟨k3, s3, q⟩ := q
  exact hr S3 x u lo hi _ Q (s3.G.trans (s2.G.trans (s1.G.trans e))) k3 (ru.mono (s2.trans s3)) q
@[simp] abbrev oSlL : T → Option Int → Option Int → AH → Res T := fun x lo hi h => (pur (lstOf x h) h).bind fun l h1 => .ok (.lst (cutT l lo hi)) h1
@[simp] abbrev oSlLO : T → Option Int → Option Int → AH → Res T := fun x lo hi h => (pur (lstOf x h) h).bind fun l h1 => .ok (.obj h1.length) (h1 ++ [some (.lst (cutT l lo hi))])
theorem so_slL : SimSl G (rSlL G.K) oSlL := fun S x u lo hi X Q e k ru p => by
  rw [← e]
  unfold oSlL pur at p
  split at p
  · rename_i l hl
    obtain ⟨a, vs, rfl, hs, rl⟩ := lstOf_ok k hl ru
    exact ⟨a, vs, rfl, hs, new_fz k p fun p n f => rv_lst f ((rl.cut lo hi).mono (step_at (by assumption) (Grow.upd n)))⟩
  · exact p.elim
theorem so_slLO : SimSl G (rSlL G.K) oSlLO := fun S x u lo hi X Q e k ru p => by
  rw [← e]
  unfold oSlLO pur at p
  split at p
  · rename_i l hl
    obtain ⟨a, vs, rfl, hs, rl⟩ := lstOf_ok k hl ru
    exact ⟨a, vs, rfl, hs, new_obj k p fun S' st => ⟨_, rfl, (rl.cut lo hi).mono st⟩⟩
  · exact p.elim
/-- t[lo:hi] of a tuple -/
abbrev oSlT0 : T → Option Int → Option Int → AH → Res T := fun x lo hi h => (pur (tupOf x) h).bind fun l h1 => if HT.sIx l.length 0 lo = 0 ∧ HT.sIx l.length l.length hi = l.length then .ok x h1 else .ok (.tup (cutT l lo hi)) h1
theorem so_slT0 : SimSl G (rSlA G.K) oSlT0 := fun S x u lo hi X Q e k ru p => by
  rw [← e]
  unfold oSlT0 pur at p
  split at p
  · rename_i l hl
    obtain ⟨a, vs, rfl, hs, rl⟩ := tupOf_ok hl ru
    simp only [Res.bind] at p
    refine ⟨a, vs, rfl, hs, fun hw => ?_, fun hw => ?_⟩
    · rw [rl.len] at hw
      rw [if_pos hw] at p
      exact p S rfl k (Step.refl S) _ ru
    · rw [rl.len] at hw
      rw [if_neg hw] at p
      exact new_fz k p fun p n f => rv_tup f ((rl.cut lo hi).mono (step_at (by assumption) (Grow.upd n)))
  · exact p.elim
@[simp] def oSlT : T → Option Int → Option Int → AH → Res T := fun x lo hi h => match x with
  | .tup l => .ok (.tup (cutT l lo hi)) h
  | x => oSlT0 x lo hi h
theorem so_slT : SimSl G (rSlA G.K) oSlT := fun S x u lo hi X Q e k ru p => so_slT0 S x u lo hi X Q e k ru (by
  unfold oSlT at p
  split at p
  · rename_i l
    show PostG S X _ (if HT.sIx l.length 0 lo = 0 ∧ HT.sIx l.length l.length hi = l.length then Res.ok (T.tup l) S.h else .ok (.tup (cutT l lo hi)) S.h)
    split
    · rename_i hw
      have e : cutT l lo hi = l := by
        unfold cutT
        rw [hw.1, hw.2, List.drop_zero, Nat.sub_zero, List.take_length]
      rw [e] at p; exact p
    · exact p
  · exact p)
@[simp] abbrev oSlS : T → Option Int → Option Int → AH → Res T := fun x lo hi h => match x with | .str z => if z.length ≤ sizeLine then .ok (.str (cutS z lo hi)) h else .bad | _ => .bad
theorem so_slS : SimSl G rSlS oSlS := fun S x u lo hi X Q e k ru p => by
  unfold oSlS at p
  split at p
  · split at p
    · rename_i hb
      simp only [Rv] at ru
      exact ⟨_, ru, hb, p S rfl k (Step.refl S) _ (by simp)⟩
    · exact p.elim
  · exact p.elim
/-! built-ins on values -/
@[simp] def one (g : T → AH → Option T) : List T → AH → Res T := fun xs h => match xs with | [x] => pur (g x h) h | _ => .bad
theorem simC1 {r : List V → Hp → VK → Prop} {g : T → AH → Option T} (hr : ∀ (S : Sta) (x t : T) (u : V) (Q : VK), S.G = G → Ok S → Rv S x u → g x S.h = some t → (∀ w, Rv S t w → Q w S.H) → r [u] S.H Q) : SimRC G r (one g) := fun S xs us X Q e k ru p => by
  unfold one at p
  split at p
  · unfold pur at p
    split at p
    · rename_i t ht
      simp only [RvL] at ru
      obtain ⟨v, _, rfl, h1, rfl⟩ := ru
      exact hr S _ t v Q e k h1 ht fun w rw' => p S rfl k (Step.refl S) w rw'
    · exact p.elim
  · exact p.elim
@[simp] def two (g : T → T → AH → Option T) : List T → AH → Res T := fun xs h => match xs with | [x, y] => pur (g x y h) h | _ => .bad
theorem simC2 {r : List V → Hp → VK → Prop} {g : T → T → AH → Option T} (hr : ∀ (S : Sta) (x y t : T) (u v : V) (Q : VK), S.G = G → Ok S → Rv S x u → Rv S y v → g x y S.h = some t → (∀ w, Rv S t w → Q w S.H) → r [u, v] S.H Q) : SimRC G r (two g) := fun S xs us X Q e k ru p => by
  unfold two at p
  split at p
  · unfold pur at p
    split at p
    · rename_i t ht
      simp only [RvL] at ru
      obtain ⟨v, _, rfl, h1, w, _, rfl, h2, rfl⟩ := ru
      exact hr S _ _ t v w Q e k h1 h2 ht fun w rw' => p S rfl k (Step.refl S) w rw'
    · exact p.elim
  · exact p.elim
@[simp] abbrev bAbs := one fun x _ => match x with | .int i => some (.int (if i < 0 then -i else i)) | _ => none
theorem sb_abs : SimRC G (fun xs H Q => ∃ i, xs = [.int i] ∧ Q (.int (if i < 0 then -i else i)) H) bAbs := simC1 fun S x t u Q e k ru hg q => by
  split at hg
  · simp only [Rv] at ru; cases hg; subst ru; exact ⟨_, rfl, q _ (by simp)⟩
  · cases hg
@[simp] abbrev bMax := two fun x y _ => match x, y with | .int i, .int j => some (.int (if j > i then j else i)) | _, _ => none
@[simp] abbrev bMin := two fun x y _ => match x, y with | .int i, .int j => some (.int (if j < i then j else i)) | _, _ => none
theorem sb_max : SimRC G (fun xs H Q => ∃ i j, xs = [.int i, .int j] ∧ Q (.int (if j > i then j else i)) H) bMax := simC2 fun S x y t u v Q e k ru rv hg q => by
  split at hg
  · simp only [Rv] at ru rv; cases hg; subst ru; subst rv; exact ⟨_, _, rfl, q _ (by simp)⟩
  · cases hg
theorem sb_min : SimRC G (fun xs H Q => ∃ i j, xs = [.int i, .int j] ∧ Q (.int (if j < i then j else i)) H) bMin := simC2 fun S x y t u v Q e k ru rv hg q => by
  split at hg
  · simp only [Rv] at ru rv; cases hg; subst ru; subst rv; exact ⟨_, _, rfl, q _ (by simp)⟩
  · cases hg
@[simp] abbrev bInt := one fun x _ => match x with | .int i => some (.int i) | .bl k => some (.int (if k then 1 else 0)) | _ => none
theorem sb_int : SimRC G (fun xs H Q => (∃ i, xs = [.int i] ∧ Q (.int i) H) ∨ ∃ k, xs = [.bl k] ∧ Q (.int (if k then 1 else 0)) H) bInt := simC1 fun S x t u Q e k ru hg q => by
  split at hg
  · simp only [Rv] at ru; cases hg; subst ru; exact .inl ⟨_, rfl, q _ (by simp)⟩
  · simp only [Rv] at ru; cases hg; subst ru; exact .inr ⟨_, rfl, q _ (by simp)⟩
  · cases hg
@[simp] abbrev bIntS := one fun x _ => match x with | .str a => if a.length ≤ 640 then (PySem.intText? a).map .int else none | _ => none
theorem sb_intS : SimRC G (fun xs H Q => ∃ a n, xs = [.str a] ∧ PySem.intText? a = some n ∧ a.length ≤ 640 ∧ Q (.int n) H) bIntS := simC1 fun S x t u Q e k ru hg q => by
  split at hg
  · split at hg
    · rename_i hb
      obtain ⟨n, hn, rfl⟩ := Option.map_eq_some_iff.mp hg
      simp only [Rv] at ru; subst ru; exact ⟨_, n, rfl, hn, hb, q _ (by simp)⟩
    · cases hg
  · cases hg
@[simp] abbrev bBool := one fun x _ => match x with | .int i => some (.bl (i != 0)) | .bl k => some (.bl k) | _ => none
theorem sb_bool : SimRC G (fun xs H Q => (∃ i, xs = [.int i] ∧ Q (.bl (i != 0)) H) ∨ ∃ k, xs = [.bl k] ∧ Q (.bl k) H) bBool := simC1 fun S x t u Q e k ru hg q => by
  split at hg
  · simp only [Rv] at ru; cases hg; subst ru; exact .inl ⟨_, rfl, q _ (by simp)⟩
  · simp only [Rv] at ru; cases hg; subst ru; exact .inr ⟨_, rfl, q _ (by simp)⟩
  · cases hg
@[simp] abbrev bStr := one fun x _ => match x with | .int i => if i.natAbs.log2 < 1920 then some (.str (toString i)) else none | _ => none
theorem sb_str : SimRC G (fun xs H Q => ∃ i : Int, xs = [.int i] ∧ i.natAbs.log2 < 1920 ∧ Q (.str (toString i)) H) bStr := simC1 fun S x t u Q e k ru hg q => by
  split at hg
  · split at hg
    · rename_i hb
      simp only [Rv] at ru; cases hg; subst ru; exact ⟨_, rfl, hb, q _ (by simp)⟩
    · cases hg
  · cases hg
@[simp] abbrev bLen := one fun x h => (seqOf x h).map fun l => .int l.length
theorem sb_len : SimRC G (fun xs H Q => ∃ p ys, xs = [.ref p] ∧ (SqL G.K H p ys ∨ SqT G.K H p ys) ∧ Q (.int ys.length) H) bLen := simC1 fun S x t u Q e k ru hg q => by
  obtain ⟨l, hl, rfl⟩ := Option.map_eq_some_iff.mp hg
  obtain ⟨p, vs, rfl, hs, rl⟩ := seqOf_ok k hl ru
  rw [e] at hs
  exact ⟨p, vs, rfl, hs, q _ (by rw [rl.len]; simp)⟩
@[simp] abbrev bLenS := one fun x _ => match x with | .str z => if z.length ≤ sizeLine then some (.int z.length) else none | _ => none
theorem sb_lenS : SimRC G (fun xs H Q => ∃ z, xs = [.str z] ∧ z.length ≤ sizeLine ∧ Q (.int z.length) H) bLenS := simC1 fun S x t u Q e k ru hg q => by
  split at hg
  · split at hg
    · rename_i hb
      simp only [Rv] at ru; cases hg; subst ru; exact ⟨_, rfl, hb, q _ (by simp)⟩
    · cases hg
  · cases hg
/-- list(x) of a list or tuple -/
@[simp] abbrev bList : List T → AH → Res T := fun xs h => match xs with | [x] => (pur (seqOf x h) h).bind fun l h1 => .ok (.lst l) h1 | _ => .bad
@[simp] abbrev bListO : List T → AH → Res T := fun xs h => match xs with | [x] => (pur (seqOf x h) h).bind fun l h1 => .ok (.obj h1.length) (h1 ++ [some (.lst l)]) | _ => .bad
theorem sb_list : SimRC G (fun xs H Q => ∃ p ys, xs = [.ref p] ∧ (SqL G.K H p ys ∨ SqT G.K H p ys) ∧ ∀ l, H l = none → Q (.ref l) (upd H l (.lst ys))) bList := fun S xs us X Q e k ru p => by
  rw [← e]
  unfold bList at p
  split at p
  · unfold pur at p
    split at p
    · rename_i l hl
      simp only [RvL] at ru
      obtain ⟨v, _, rfl, h1, rfl⟩ := ru
      obtain ⟨a, vs, rfl, hs, rl⟩ := seqOf_ok k hl h1
      exact ⟨a, vs, rfl, hs, new_fz k p fun p n f => rv_lst f (rl.mono (step_at (by assumption) (Grow.upd n)))⟩
    · exact p.elim
  · exact p.elim
theorem sb_listO : SimRC G (fun xs H Q => ∃ p ys, xs = [.ref p] ∧ (SqL G.K H p ys ∨ SqT G.K H p ys) ∧ ∀ l, H l = none → Q (.ref l) (upd H l (.lst ys))) bListO := fun S xs us X Q e k ru p => by
  rw [← e]
  unfold bListO at p
  split at p
  · unfold pur at p
    split at p
    · rename_i l hl
      simp only [RvL] at ru
      obtain ⟨v, _, rfl, h1, rfl⟩ := ru
      obtain ⟨a, vs, rfl, hs, rl⟩ := seqOf_ok k hl h1
      exact ⟨a, vs, rfl, hs, new_obj k p fun S' st => ⟨_, rfl, rl.mono st⟩⟩
    · exact p.elim
  · exact p.elim
/-- tuple(x) -/
@[simp] abbrev bTuple : List T → AH → Res T := fun xs h => match xs with
  | [x] => match tupOf x with
    | some _ => .ok x h
    | none => (pur (lstOf x h) h).bind fun l h1 => .ok (.tup l) h1
  | _ => .bad
theorem sb_tuple : SimRC G (fun xs H Q => ∃ p ys, xs = [.ref p] ∧ ((SqL G.K H p ys ∧ ∀ l, H l = none → Q (.ref l) (upd H l (.tup ys))) ∨ (SqT G.K H p ys ∧ Q (.ref p) H))) bTuple := fun S xs us X Q e k ru p => by
  rw [← e]
  unfold bTuple at p
  split at p
  · simp only [RvL] at ru
    obtain ⟨v, _, rfl, h1, rfl⟩ := ru
    split at p
    · rename_i l hl
      obtain ⟨a, vs, rfl, hs, rl⟩ := tupOf_ok hl h1
      exact ⟨a, vs, rfl, .inr ⟨hs, p S rfl k (Step.refl S) _ h1⟩⟩
    · unfold pur at p
      split at p
      · rename_i l hl
        obtain ⟨a, vs, rfl, hs, rl⟩ := lstOf_ok k hl h1
        exact ⟨a, vs, rfl, .inl ⟨hs, new_fz k p fun p n f => rv_tup f (rl.mono (step_at (by assumption) (Grow.upd n)))⟩⟩
      · exact p.elim
  · exact p.elim
/-- isinstance(x, T) of a built-in type, by what x is -/
def tyOf : T → AH → Option String
  | .non, _ => some "NoneType" | .bl _, _ => some "bool" | .int _, _ => some "int" | .str _, _ => some "str" | .tup _, _ => some "tuple" | .ktp _, _ => some "tuple" | .lst _, _ => some "list"
  | .obj i, h => match h[i]? with | some (some (.lst _)) => some "list" | some (some (.dct _)) => some "dict" | _ => none
  | .dct _ _, _ => some "dict"
  | _, _ => none
@[simp] abbrev bIsi (n : String) : List T → AH → Res T := one fun x h => (tyOf x h).bind fun a => (kitB a n).map .bl
end M
/-! ### statements, loops, comprehensions, calls, defs -/
namespace M
open PySem PySem.Spec PyProof.Rows L2
variable {G : Env} {E : L2.St → XK} {S : Sta}

inductive Fl where
  | nx (τ : LS) | rt (t : T) | bk (τ : LS) | ct (τ : LS) | xc (e : Exc) (τ : LS)
  deriving Inhabited
abbrev FS := LS → AH → Res Fl
def PF (W : WX) (D : Ends) : Fl → Sta → Prop
  | .nx τ, S => ∀ σ, RS S τ σ → D.nx σ S.H
  | .rt t, S => ∀ v, Rv S t v → D.rt v S.H
  | .bk τ, S => ∀ σ, RS S τ σ → D.bk σ S.H
  | .ct τ, S => ∀ σ, RS S τ σ → D.ct σ S.H
  | .xc e τ, S => ∀ σ, RS S τ σ → XP (WE W σ) e S
abbrev PG (S : Sta) (W : WX) (D : Ends) (r : Res Fl) : Prop := PostG S (fun _ _ => False) (PF W D) r
def SimS (G : Env) (W : WX) (ts : TS) (g : FS) : Prop := ∀ (S : Sta) (σ : L2.St) (τ : LS) (D : Ends), S.G = G → Ok S → RS S τ σ → PG S W D (g τ S.h) → ts D σ S.H
variable {W : WX}
/-- an expression within a statement -/
def liftE {α : Type} (r : Res α) (τ : LS) (k : α → AH → Res Fl) : Res Fl := match r with | .bad => .bad | .ok a h => k a h | .exc e h => .ok (.xc e τ) h
@[simp] theorem lift_ok {α : Type} {a : α} {h : AH} {τ : LS} {k : α → AH → Res Fl} : liftE (.ok a h) τ k = k a h := rfl
@[simp] theorem lift_bad {α : Type} {τ : LS} {k : α → AH → Res Fl} : liftE .bad τ k = .bad := rfl
@[simp] theorem lift_exc {α : Type} {e : Exc} {h : AH} {τ : LS} {k : α → AH → Res Fl} : liftE (.exc e h) τ k = .ok (.xc e τ) h := rfl
theorem PG.lift {α : Type} {σ : L2.St} {τ : LS} {D : Ends} {k : α → AH → Res Fl} (rs : RS S τ σ) : ∀ {r : Res α}, PG S W D (liftE r τ k) → PostG S (XP (WE W σ)) (fun a S1 => Ok S1 ∧ Step S S1 ∧ PG S1 W D (k a S1.h)) r
  | .bad, h => h
  | .ok a h', h => fun S' e k st => by
    subst e
    exact ⟨k, st, PostG.mono st h⟩
  | .exc e h', h => fun S' e' k st => h S' e' k st σ (rs.mono st)
@[simp] def sSkip : FS := fun τ h => .ok (.nx τ) h
theorem sim_next : SimS G W tNext sSkip := fun S σ τ D e k rs p => p S rfl k (Step.refl S) σ rs
@[simp] def sBreak : FS := fun τ h => .ok (.bk τ) h
theorem sim_break : SimS G W tBreak sBreak := fun S σ τ D e k rs p => p S rfl k (Step.refl S) σ rs
@[simp] def sCont : FS := fun τ h => .ok (.ct τ) h
theorem sim_cont : SimS G W tCont sCont := fun S σ τ D e k rs p => p S rfl k (Step.refl S) σ rs
@[simp] def sSeq (f g : FS) : FS := fun τ h => (f τ h).bind fun fl h1 => match fl with | .nx τ' => g τ' h1 | fl => .ok fl h1
theorem sim_seq {t u : TS} {f g : FS} (hf : SimS G W t f) (hg : SimS G W u g) : SimS G W (tSeq t u) (sSeq f g) := fun S σ τ D e k rs p => by
  refine hf S σ τ _ e k rs (PostG.imp (fun fl S1 q => ?_) (PostG.bind p))
  obtain ⟨k1, s1, q⟩ := q
  cases fl with
  | nx τ' => exact fun σ' r => hg S1 σ' τ' D (s1.G.trans e) k1 r q
  | rt t => exact q S1 rfl k1 (Step.refl S1)
  | bk t => exact q S1 rfl k1 (Step.refl S1)
  | ct t => exact q S1 rfl k1 (Step.refl S1)
  | xc e t => exact q S1 rfl k1 (Step.refl S1)
section
variable {te : TE} {fe : FE}
@[simp] def sDrop (fe : FE) : FS := fun τ h => liftE (fe τ h) τ fun _ h1 => .ok (.nx τ) h1
theorem sim_drop (he : SimE G (WE W) te fe) : SimS G W (tDrop te) (sDrop fe) := fun S σ τ D e k rs p => by
  refine he S σ τ _ e k rs (PostG.imp (fun x S1 q u ru => ?_) (PG.lift rs p))
  obtain ⟨k1, s1, q⟩ := q
  exact q S1 rfl k1 (Step.refl S1) σ (rs.mono s1)
@[simp] def sRet (fe : FE) : FS := fun τ h => liftE (fe τ h) τ fun t h1 => .ok (.rt t) h1
theorem sim_ret (he : SimE G (WE W) te fe) : SimS G W (tRet te) (sRet fe) := fun S σ τ D e k rs p => by
  refine he S σ τ _ e k rs (PostG.imp (fun x S1 q u ru => ?_) (PG.lift rs p))
  obtain ⟨k1, s1, q⟩ := q
  exact q S1 rfl k1 (Step.refl S1) u ru
@[simp] def sRetN : FS := fun _ h => .ok (.rt .non) h
theorem sim_retN : SimS G W tRetN sRetN := fun S σ τ D e k rs p => p S rfl k (Step.refl S) _ (by simp only [Rv])
@[simp] def sIf (f : FT) (a b : FS) : FS := fun τ h => liftE (f τ h) τ fun c h1 => if c = true then a τ h1 else b τ h1
theorem sim_if {c : TT} {f : FT} {t u : TS} {a b : FS} (hc : SimT G (WE W) c f) (ha : SimS G W t a) (hb : SimS G W u b) : SimS G W (tIfS c t u) (sIf f a b) := fun S σ τ D e k rs p => by
  refine hc S σ τ _ e k rs (PostG.imp (fun c S1 q => ?_) (PG.lift rs p))
  obtain ⟨k1, s1, q⟩ := q
  cases c with
  | true => exact ha S1 σ τ D (s1.G.trans e) k1 (rs.mono s1) q
  | false => exact hb S1 σ τ D (s1.G.trans e) k1 (rs.mono s1) q
/-! targets -/
abbrev FG := T → LS → Option LS
def SimG (G : Env) (g : TG) (a : FG) : Prop := ∀ (S : Sta) (x : T) (v : V) (τ τ' : LS) (σ : L2.St) (Q : L2.St → Hp → Prop), S.G = G → Ok S → Rv S x v → RS S τ σ → a x τ = some τ' → (∀ σ', RS S τ' σ' → Q σ' S.H) → g v σ S.H Q
@[simp] def aName (i : Nat) : FG := fun x τ => some (τ.set i (some x))
theorem sim_gName {i : Nat} (hn : NoSl G i := by first | exact noSl_none rfl | exact noSl_ne (by decide) | assumption) : SimG G (gName i) (aName i) := fun S x v τ τ' σ Q e k rv rs h q => by
  unfold aName at h; cases h
  exact q _ (RS.set rv i (by rw [e]; exact hn) rs)
abbrev FGs := List T → LS → Option LS
def SimGs (G : Env) (g : TGs) (a : FGs) : Prop := ∀ (S : Sta) (x : List T) (v : List V) (τ τ' : LS) (σ : L2.St) (Q : L2.St → Hp → Prop), S.G = G → Ok S → RvL S x v → RS S τ σ → a x τ = some τ' → (∀ σ', RS S τ' σ' → Q σ' S.H) → g v σ S.H Q
@[simp] def aNil : FGs := fun xs τ => match xs with | [] => some τ | _ => none
@[simp] def aCons (a : FG) (r : FGs) : FGs := fun xs τ => match xs with | x :: xs => (a x τ).bind fun τ' => r xs τ' | [] => none
theorem sim_gNil : SimGs G gNil aNil := fun S x v τ τ' σ Q e k rv rs h q => by
  unfold aNil at h
  split at h
  · cases h
    simp only [RvL] at rv
    exact ⟨rv, q _ rs⟩
  · cases h
theorem sim_gCons {g : TG} {u : TGs} {a : FG} {r : FGs} (hg : SimG G g a) (hu : SimGs G u r) : SimGs G (gCons g u) (aCons a r) := fun S x v τ τ' σ Q e k rv rs h q => by
  unfold aCons at h
  split at h
  · obtain ⟨τ1, h1, h2⟩ := Option.bind_eq_some_iff.mp h
    simp only [RvL] at rv
    obtain ⟨w, m, rfl, r1, r2⟩ := rv
    exact ⟨w, m, rfl, hg S _ _ τ τ1 σ _ e k r1 rs h1 fun σ' rs' => hu S _ _ τ1 τ' σ' Q e k r2 rs' h2 q⟩
  · cases h
@[simp] def aTup (n : Nat) (r : FGs) : FG := fun x τ => (tupOf x).bind fun l => if l.length = n then r l τ else none
theorem sim_gTup {n : Nat} {u : TGs} {r : FGs} (hu : SimGs G u r) : SimG G (gTup G.K n u) (aTup n r) := fun S x v τ τ' σ Q e k rv rs h q => by
  unfold aTup at h
  obtain ⟨l, hl, h⟩ := Option.bind_eq_some_iff.mp h
  split at h
  · rename_i hn
    obtain ⟨p, vs, rfl, hs, rl⟩ := tupOf_ok hl rv
    rw [e] at hs
    exact ⟨p, vs, rfl, hs, by rw [rl.len]; exact hn, hu S l vs τ τ' σ Q e k rl rs h q⟩
  · cases h
@[simp] def sAsg (fe : FE) (a : FG) : FS := fun τ h => liftE (fe τ h) τ fun t h1 => match a t τ with | some τ' => .ok (.nx τ') h1 | none => .bad
theorem sim_asg {g : TG} {a : FG} (he : SimE G (WE W) te fe) (hg : SimG G g a) : SimS G W (tAsg te g) (sAsg fe a) := fun S σ τ D e k rs p => by
  refine he S σ τ _ e k rs (PostG.imp (fun x S1 q u ru => ?_) (PG.lift rs p))
  obtain ⟨k1, s1, q⟩ := q
  split at q
  · rename_i τ' hτ
    exact hg S1 x u τ τ' σ _ (s1.G.trans e) k1 ru (rs.mono s1) hτ fun σ' rs' => q S1 rfl k1 (Step.refl S1) σ' rs'
  · exact q.elim
@[simp] def sSet (i : Nat) (fe : FE) : FS := fun τ h => liftE (fe τ h) τ fun t h1 => .ok (.nx (τ.set i (some t))) h1
theorem sim_set {i : Nat} (he : SimE G (WE W) te fe) (hn : NoSl G i := by first | exact noSl_none rfl | exact noSl_ne (by decide) | assumption) : SimS G W (tAsg te (gName i)) (sSet i fe) := fun S σ τ D e k rs p => by
  refine he S σ τ _ e k rs (PostG.imp (fun x S1 q u ru => ?_) (PG.lift rs p))
  obtain ⟨k1, s1, q⟩ := q
  exact q S1 rfl k1 (Step.refl S1) _ (RS.set ru i (by rw [s1.G, e]; exact hn) (rs.mono s1))
/-- a, b = x, y -/
@[simp] def sPar (i j : Nat) (fa : FA) : FS := fun τ h => liftE (fa τ h) τ fun xs h1 => match xs with | [x, y] => .ok (.nx ((τ.set i (some x)).set j (some y))) h1 | _ => .bad
theorem sim_par {i j : Nat} {ta : TA} {fa : FA} (he : SimA G (WE W) ta fa) (hn : NoSl G i := by first | exact noSl_none rfl | exact noSl_ne (by decide) | assumption) (hm : NoSl G j := by first | exact noSl_none rfl | exact noSl_ne (by decide) | assumption) : SimS G W (tPar i j ta) (sPar i j fa) := fun S σ τ D e k rs p => by
  refine he S σ τ _ e k rs (PostG.imp (fun x S1 q u ru => ?_) (PG.lift rs p))
  obtain ⟨k1, s1, q⟩ := q
  split at q
  · simp only [RvL] at ru
    obtain ⟨v, _, rfl, r1, w, _, rfl, r2, rfl⟩ := ru
    exact ⟨v, w, rfl, q S1 rfl k1 (Step.refl S1) _ (RS.set r2 j (by rw [s1.G, e]; exact hm) (RS.set r1 i (by rw [s1.G, e]; exact hn) (rs.mono s1)))⟩
  · exact q.elim
/-- x op= e -/
@[simp] def sAug (i : Nat) (fe : FE) (g : T → T → AH → Res T) : FS := fun τ h => match τ[i]? with
  | some (some x) => liftE (fe τ h) τ fun y h1 => liftE (g x y h1) τ fun z h2 => .ok (.nx (τ.set i (some z))) h2
  | _ => .bad
def SimIp (G : Env) (r : TIp) (g : T → T → AH → Res T) : Prop := SimR2 G r g
theorem sim_aug {i : Nat} {r : TIp} {g : T → T → AH → Res T} (hr : SimR2 G r g) (he : SimE G (WE W) te fe) (hn : NoSl G i := by first | exact noSl_none rfl | exact noSl_ne (by decide) | assumption) : SimS G W (tAug i te r) (sAug i fe g) := fun S σ τ D e k rs p => by
  unfold sAug at p
  split at p
  · rename_i x hx
    obtain ⟨u, hu, ru⟩ := rs.get hx
    refine ⟨u, hu, ?_⟩
    refine he S σ τ _ e k rs (PostG.imp (fun y S1 q v rv => ?_) (PG.lift rs p))
    obtain ⟨k1, s1, q⟩ := q
    refine hr S1 x y u v _ _ (s1.G.trans e) k1 (ru.mono s1) rv (PostG.imp (fun z S2 q w rw' => ?_) (PG.lift (σ := σ) (rs.mono s1) q))
    obtain ⟨k2, s2, q⟩ := q
    exact q S2 rfl k2 (Step.refl S2) _ (RS.set rw' i (by rw [s2.G, s1.G, e]; exact hn) (rs.mono (s1.trans s2)))
  · exact p.elim
end
/-! while -/
def sWhile (f : FT) (b : FS) : Nat → FS
  | 0 => fun _ _ => .bad
  | n + 1 => fun τ h => liftE (f τ h) τ fun c h1 => if c = true then (b τ h1).bind fun fl h2 => match fl with
      | .nx τ' => sWhile f b n τ' h2
      | .ct τ' => sWhile f b n τ' h2
      | .bk τ' => .ok (.nx τ') h2
      | fl => .ok fl h2
    else .ok (.nx τ) h1
theorem sim_while {c : TT} {f : FT} {t : TS} {b : FS} (n : Nat) (hc : SimT G (WE W) c f) (hb : SimS G W t b) : SimS G W (tWhile c t) (sWhile f b n) := fun S σ τ D e k rs p => by
  refine ⟨fun m σ H => ∃ S τ, S.H = H ∧ S.G = G ∧ Ok S ∧ RS S τ σ ∧ PG S W D (sWhile f b m τ S.h), ⟨n, S, τ, rfl, e, k, rs, p⟩, ?_⟩
  rintro m σ H ⟨S, τ, rfl, e, k, rs, p⟩
  cases m with
  | zero => exact p.elim
  | succ m =>
    refine hc S σ τ _ e k rs (PostG.imp (fun c S1 q => ?_) (PG.lift rs p))
    obtain ⟨k1, s1, q⟩ := q
    cases c with
    | false => exact q S1 rfl k1 (Step.refl S1) σ (rs.mono s1)
    | true =>
      rw [if_pos rfl]
      refine ⟨fun σ' H' => ∃ S τ, S.H = H' ∧ S.G = G ∧ Ok S ∧ RS S τ σ' ∧ PG S W D (sWhile f b m τ S.h), fun σ' H' h => ⟨m, Nat.lt_succ_self m, h⟩, ?_⟩
      refine hb S1 σ τ _ (s1.G.trans e) k1 (rs.mono s1) (PostG.imp (fun fl S2 q => ?_) (PostG.bind q))
      obtain ⟨k2, s2, q⟩ := q
      cases fl with
      | nx τ' => exact fun σ' r => ⟨S2, τ', rfl, s2.G.trans (s1.G.trans e), k2, r, q⟩
      | ct τ' => exact fun σ' r => ⟨S2, τ', rfl, s2.G.trans (s1.G.trans e), k2, r, q⟩
      | bk τ' => exact q S2 rfl k2 (Step.refl S2)
      | rt t => exact q S2 rfl k2 (Step.refl S2)
      | xc e t => exact q S2 rfl k2 (Step.refl S2)
/-! what is walked -/
/-- J gives the items of l, one a turn, whatever else goes on -/
def ItOk (S0 : Sta) (J : It) (l : List T) : Prop := ∀ S, Tr S0 S → Ok S → ∀ i : Nat, (∀ x, l[i]? = some x → J.go i S.H ∧ ∀ v H', J.yld i S.H v H' → ∃ S', S'.H = H' ∧ S'.h = S.h ∧ Ok S' ∧ Step S S' ∧ Rv S' x v) ∧ (l.length ≤ i → J.stop i S.H)
def SimI (G : Env) (E : L2.St → XK) (wi : TI) (fi : FA) : Prop := ∀ (S : Sta) (σ : L2.St) (τ : LS) (R : It → Hp → Prop), S.G = G → Ok S → RS S τ σ → PostG S (XP (E σ)) (fun l S' => ∀ J, ItOk S' J l → R J S'.H) (fi τ S.h) → wi σ S.H R
theorem it_list {p : Addr} {l : List T} {vs : List V} (e : S.G = G) (f : Fz S p (.lst vs)) (r : RvL S l vs) : ItOk S (Itl G.K p) l := fun S1 st k i => by
  have hs : SqL G.K S1.H p vs := by rw [← e, ← st.G]; exact sql_of (st.fz _ _ f)
  have uniq : ∀ xs, SqL G.K S1.H p xs → xs[i]? = vs[i]? ∨ True := fun _ _ => .inr trivial
  refine ⟨fun x hx => ?_, fun h => ⟨vs, hs, by rw [r.len]; exact h⟩⟩
  obtain ⟨v, hv, rv⟩ := (r.tr st).get hx
  refine ⟨⟨vs, v, hs, hv⟩, fun w H' hy => ?_⟩
  obtain ⟨rfl, hy⟩ := hy
  have := hy vs hs
  rw [hv] at this
  cases this
  exact ⟨S1, rfl, rfl, k, Step.refl S1, rv⟩
theorem it_tup {p : Addr} {l : List T} {vs : List V} (e : S.G = G) (hs : ∀ S1, Tr S S1 → SqT G.K S1.H p vs) (r : RvL S l vs) : ItOk S (Itt G.K p) l := fun S1 st k i => by
  have hs := hs S1 st
  refine ⟨fun x hx => ?_, fun h => ⟨vs, hs, by rw [r.len]; exact h⟩⟩
  obtain ⟨v, hv, rv⟩ := (r.tr st).get hx
  refine ⟨⟨vs, v, hs, hv⟩, fun w H' hy => ?_⟩
  obtain ⟨rfl, hy⟩ := hy
  have := hy vs hs
  rw [hv] at this
  cases this
  exact ⟨S1, rfl, rfl, k, Step.refl S1, rv⟩
theorem tup_stay {x : T} {l : List T} {u : V} (e : S.G = G) (h : tupOf x = some l) (r : Rv S x u) : ∃ p vs, u = .ref p ∧ (∀ S1, Tr S S1 → SqT G.K S1.H p vs) ∧ RvL S l vs := by
  subst e
  cases x <;> simp only [tupOf] at h <;> first
    | (cases h; done)
    | (cases h; simp only [Rv] at r; obtain ⟨p, vs, rfl, f, rl⟩ := r; first | exact ⟨p, vs, rfl, fun S1 st => by rw [← st.G]; exact sqt_of (st.fz _ _ f), rl⟩ | exact ⟨p, vs, rfl, fun S1 st => .inr f, rl⟩)
section
variable {te : TE} {fe : FE} {ta : TA} {fa : FA}
@[simp] def iLst (fe : FE) : FA := fun τ h => (fe τ h).bind fun x h1 => match x with | .lst l => .ok l h1 | _ => .bad
theorem sim_iLst (he : SimE G E te fe) : SimI G E (iList G.K te) (iLst fe) := fun S σ τ R e k rs p => by
  refine he S σ τ _ e k rs (PostG.imp (fun x S1 q u ru => ?_) (PostG.bind p))
  obtain ⟨k1, s1, q⟩ := q
  split at q
  · simp only [Rv] at ru
    obtain ⟨p, vs, rfl, f, rl⟩ := ru
    have e1 := s1.G.trans e
    exact ⟨p, rfl, ⟨vs, by rw [← e1]; exact sql_of f⟩, q S1 rfl k1 (Step.refl S1) _ (it_list e1 f rl)⟩
  · exact q.elim
@[simp] def iTupM (fe : FE) : FA := fun τ h => (fe τ h).bind fun x h1 => match tupOf x with | some l => .ok l h1 | none => .bad
theorem sim_iTup (he : SimE G E te fe) : SimI G E (iTup G.K te) (iTupM fe) := fun S σ τ R e k rs p => by
  refine he S σ τ _ e k rs (PostG.imp (fun x S1 q u ru => ?_) (PostG.bind p))
  obtain ⟨k1, s1, q⟩ := q
  split at q
  · rename_i l hl
    have e1 := s1.G.trans e
    obtain ⟨p, vs, rfl, hs, rl⟩ := tup_stay e1 hl ru
    exact ⟨p, rfl, ⟨vs, hs S1 (Tr.refl S1)⟩, q S1 rfl k1 (Step.refl S1) _ (it_tup e1 hs rl)⟩
  · exact q.elim
@[simp] def irange (lo : Int) (n : Nat) : List T := (List.range n).map fun i => .int (lo + (i : Nat))
theorem it_rng {lo : Int} {n : Nat} : ItOk S (Itr lo n) (irange lo n) := fun S1 st k i => by
  refine ⟨fun x hx => ?_, fun h => by rw [irange, List.length_map, List.length_range] at h; exact h⟩
  unfold irange at hx
  rw [List.getElem?_map] at hx
  obtain ⟨j, hj, rfl⟩ := Option.map_eq_some_iff.mp hx
  have h1 := (List.getElem?_eq_some_iff.mp hj).1
  rw [List.length_range] at h1
  have h2 : j = i := by
    rw [List.getElem?_range h1] at hj
    exact (Option.some.inj hj).symm
  subst h2
  refine ⟨h1, fun v H' hy => ?_⟩
  obtain ⟨rfl, rfl⟩ := hy
  exact ⟨S1, rfl, rfl, k, Step.refl S1, by simp only [Rv]⟩
/-- a bound that range takes -/
def r62 (i : Int) : Bool := decide (i.natAbs.log2 < 61)
theorem r62_iff {i : Int} (h : r62 i = true) : -(2 ^ 62) ≤ i ∧ i < 2 ^ 62 := by
  have h : i.natAbs.log2 < 61 := of_decide_eq_true h
  by_cases z : i.natAbs = 0
  · omega
  · have := (Nat.log2_lt z).mp h
    have : (2 : Nat) ^ 61 = 2305843009213693952 := by decide
    omega
theorem r62_ok {i : Int} (h0 : -1000000000000 ≤ i) (h1 : i ≤ 1000000000000) : r62 i = true := by
  refine decide_eq_true ?_
  by_cases z : i.natAbs = 0
  · rw [z]; decide
  · refine (Nat.log2_lt z).mpr ?_
    have : (2 : Nat) ^ 61 = 2305843009213693952 := by decide
    omega
@[simp] theorem r62_0 : r62 0 = true := r62_ok (by decide) (by decide)
@[simp] theorem r62_1 : r62 1 = true := r62_ok (by decide) (by decide)
@[simp] theorem r62_2 : r62 2 = true := r62_ok (by decide) (by decide)
@[simp] theorem r62_3 : r62 3 = true := r62_ok (by decide) (by decide)
@[simp] theorem r62_4 : r62 4 = true := r62_ok (by decide) (by decide)
@[simp] theorem r62_5 : r62 5 = true := r62_ok (by decide) (by decide)
@[simp] theorem r62_6 : r62 6 = true := r62_ok (by decide) (by decide)
@[simp] theorem r62_7 : r62 7 = true := r62_ok (by decide) (by decide)
@[simp] theorem r62_8 : r62 8 = true := r62_ok (by decide) (by decide)
@[simp] theorem r62_32 : r62 32 = true := r62_ok (by decide) (by decide)
/-- range(i, j) -/
def rngI (i j : Int) (h : AH) : Res (List T) := match r62 i && r62 j with | true => .ok (irange i (j - i).toNat) h | false => .bad
@[simp] theorem rngI_ok {i j : Int} {h : AH} (hi : r62 i = true) (hj : r62 j = true) : rngI i j h = .ok (irange i (j - i).toNat) h := by
  unfold rngI; rw [hi, hj]; rfl
@[simp] def iRngA (fa : FA) : FA := fun τ h => (fa τ h).bind fun xs h1 => match xs with | [.int j] => rngI 0 j h1 | _ => .bad
theorem sim_rng1 (ha : SimA G E ta fa) : SimI G E (iRng1 ta) (iRngA fa) := fun S σ τ R e k rs p => by
  refine ha S σ τ _ e k rs (PostG.imp (fun x S1 q u ru => ?_) (PostG.bind p))
  obtain ⟨k1, s1, q⟩ := q
  split at q
  · rename_i j
    by_cases hb : r62 j = true
    · rw [rngI_ok r62_0 hb, Int.sub_zero] at q
      simp only [RvL] at ru
      obtain ⟨v, _, rfl, r1, rfl⟩ := ru
      simp only [Rv] at r1
      subst r1
      exact ⟨_, rfl, (r62_iff hb).1, (r62_iff hb).2, q S1 rfl k1 (Step.refl S1) _ it_rng⟩
    · unfold rngI at q
      rw [Bool.eq_false_iff.mpr hb, Bool.and_false] at q
      exact q.elim
  · exact q.elim
@[simp] def iRngB (fa : FA) : FA := fun τ h => (fa τ h).bind fun xs h1 => match xs with | [.int i, .int j] => rngI i j h1 | _ => .bad
theorem sim_rng2 (ha : SimA G E ta fa) : SimI G E (iRng2 ta) (iRngB fa) := fun S σ τ R e k rs p => by
  refine ha S σ τ _ e k rs (PostG.imp (fun x S1 q u ru => ?_) (PostG.bind p))
  obtain ⟨k1, s1, q⟩ := q
  split at q
  · rename_i i j
    by_cases hb : r62 i = true ∧ r62 j = true
    · rw [rngI_ok hb.1 hb.2] at q
      simp only [RvL] at ru
      obtain ⟨v, _, rfl, r1, w, _, rfl, r2, rfl⟩ := ru
      simp only [Rv] at r1 r2
      subst r1; subst r2
      exact ⟨_, _, rfl, ⟨(r62_iff hb.1).1, (r62_iff hb.1).2, r62_iff hb.2⟩, q S1 rfl k1 (Step.refl S1) _ it_rng⟩
    · unfold rngI at q
      cases h1 : r62 i with
      | false => rw [h1] at q; exact q.elim
      | true => cases h2 : r62 j with
        | false => rw [h1, h2] at q; exact q.elim
        | true => exact (hb ⟨h1, h2⟩).elim
  · exact q.elim
@[simp] def chars (x : Str) : List T := x.cps.toList.map fun c => .str ⟨#[c]⟩
theorem it_str {x : Str} : ItOk S (Its x) (chars x) := fun S1 st k i => by
  refine ⟨fun t ht => ?_, fun h => by rw [chars, List.length_map, Array.length_toList] at h; exact h⟩
  unfold chars at ht
  rw [List.getElem?_map] at ht
  obtain ⟨c, hc, rfl⟩ := Option.map_eq_some_iff.mp ht
  have h1 := (List.getElem?_eq_some_iff.mp hc).1
  rw [Array.length_toList] at h1
  refine ⟨h1, fun v H' hy => ?_⟩
  obtain ⟨rfl, c', hc', rfl⟩ := hy
  rw [Array.getElem?_toList] at hc
  rw [hc] at hc'
  cases hc'
  exact ⟨S1, rfl, rfl, k, Step.refl S1, by simp only [Rv]⟩
@[simp] def iStrM (fe : FE) : FA := fun τ h => (fe τ h).bind fun x h1 => match x with | .str z => .ok (chars z) h1 | _ => .bad
theorem sim_iStr (he : SimE G E te fe) : SimI G E (iStr te) (iStrM fe) := fun S σ τ R e k rs p => by
  refine he S σ τ _ e k rs (PostG.imp (fun x S1 q u ru => ?_) (PostG.bind p))
  obtain ⟨k1, s1, q⟩ := q
  split at q
  · simp only [Rv] at ru
    exact ⟨_, ru, q S1 rfl k1 (Step.refl S1) _ it_str⟩
  · exact q.elim
end
/-! for -/
def sForL (a : FG) (b : FS) : List T → FS
  | [] => fun τ h => .ok (.nx τ) h
  | x :: xs => fun τ h => match a x τ with
    | some τ' => (b τ' h).bind fun fl h1 => match fl with
      | .nx τ2 => sForL a b xs τ2 h1
      | .ct τ2 => sForL a b xs τ2 h1
      | .bk τ2 => .ok (.nx τ2) h1
      | fl => .ok fl h1
    | none => .bad
@[simp] def sFor (fi : FA) (a : FG) (b : FS) : FS := fun τ h => liftE (fi τ h) τ fun l h1 => sForL a b l τ h1
theorem for_at {wi : TI} {fi : FA} {g : TG} {a : FG} {t : TS} {b : FS} {S : Sta} {σ : L2.St} {τ : LS} {D : Ends} (hi : ∀ R, PostG S (XP (WE W σ)) (fun l S' => ∀ J, ItOk S' J l → R J S'.H) (fi τ S.h) → wi σ S.H R) (hg : SimG G g a) (hb : SimS G W t b) (e : S.G = G) (k : Ok S) (rs : RS S τ σ) (p : PG S W D (sFor fi a b τ S.h)) : tFor wi g t D σ S.H := by
  refine hi _ (PostG.imp (fun l S1 q J hJ => ?_) (PG.lift rs p))
  obtain ⟨k1, s1, q⟩ := q
  refine ⟨fun i m σ H => ∃ S τ, S.H = H ∧ S.G = G ∧ Ok S ∧ Step S1 S ∧ RS S τ σ ∧ m = l.length - i ∧ i ≤ l.length ∧ PG S W D (sForL a b (l.drop i) τ S.h), ⟨l.length, S1, τ, rfl, s1.G.trans e, k1, Step.refl S1, rs.mono s1, by simp, Nat.zero_le _, q⟩, ?_⟩
  rintro i m σ H ⟨S, τ, rfl, e, k, st, rs, rfl, hi, p⟩
  obtain ⟨go, stop⟩ := hJ S st.tr k i
  by_cases hl : i < l.length
  · right
    have hx : l[i]? = some l[i] := List.getElem?_eq_getElem hl
    obtain ⟨g1, g2⟩ := go _ hx
    refine ⟨g1, fun σ' H' => ∃ S τ, S.H = H' ∧ S.G = G ∧ Ok S ∧ Step S1 S ∧ RS S τ σ' ∧ PG S W D (sForL a b (l.drop (i + 1)) τ S.h), ?_, ?_⟩
    · rintro σ' H' ⟨S2, τ2, rfl, e2, k2, st2, rs2, p2⟩
      exact ⟨l.length - (i + 1), by omega, S2, τ2, rfl, e2, k2, st2, rs2, rfl, hl, p2⟩
    · intro v H' hy
      obtain ⟨S2, rfl, hh, k2, st2, rv⟩ := g2 v H' hy
      rw [List.drop_eq_getElem_cons hl] at p
      unfold sForL at p
      split at p
      · rename_i τ' hτ
        refine hg S2 _ v τ τ' σ _ (st2.G.trans e) k2 rv (rs.mono st2) hτ fun σ2 rs2 => ?_
        rw [← hh] at p
        refine hb S2 σ2 τ' _ (st2.G.trans e) k2 rs2 (PostG.imp (fun fl S3 q => ?_) (PostG.bind (PostG.mono st2 p)))
        obtain ⟨k3, s3, q⟩ := q
        cases fl with
        | nx τ2 => exact fun σ' r => ⟨S3, τ2, rfl, s3.G.trans (st2.G.trans e), k3, st.trans (st2.trans s3), r, q⟩
        | ct τ2 => exact fun σ' r => ⟨S3, τ2, rfl, s3.G.trans (st2.G.trans e), k3, st.trans (st2.trans s3), r, q⟩
        | bk τ' => exact q S3 rfl k3 (Step.refl S3)
        | rt t => exact q S3 rfl k3 (Step.refl S3)
        | xc e t => exact q S3 rfl k3 (Step.refl S3)
      · exact p.elim
  · left
    refine ⟨stop (by omega), ?_⟩
    rw [List.drop_eq_nil_of_le (by omega)] at p
    exact p S rfl k (Step.refl S) σ rs
theorem sim_for {wi : TI} {fi : FA} {g : TG} {a : FG} {t : TS} {b : FS} (hi : SimI G (WE W) wi fi) (hg : SimG G g a) (hb : SimS G W t b) : SimS G W (tFor wi g t) (sFor fi a b) := fun S σ τ _ e k rs p => for_at (fun R => hi S σ τ R e k rs) hg hb e k rs p
/-! calls -/
/-- a def's promise: what its mirror m of n arguments says -/
def spM (G : Env) (n : Nat) (m : List T → AH → Res T) : Sp := fun vs H Q E => ∃ S ts, S.G = G ∧ Ok S ∧ S.H = H ∧ RvL S ts vs ∧ ts.length = n ∧ PostG S (XP E) (fun t S' => ∀ v, Rv S' t v → Q v S'.H) (m ts S.h)
@[simp] def mCall (n : Nat) (m : List T → AH → Res T) (fr : FA) : FE := fun τ h => (fr τ h).bind fun xs h1 => if xs.length = n then m xs h1 else .bad
theorem PostG.exc {α : Type} {X X' : Exc → Sta → Prop} {P : α → Sta → Prop} (h : ∀ e S', X e S' → X' e S') : ∀ {r : Res α}, PostG S X P r → PostG S X' P r
  | .bad, q => q
  | .ok _ _, q => q
  | .exc _ _, q => fun S' e k st => h _ _ (q S' e k st)
theorem sim_call {n : Nat} {m : List T → AH → Res T} {ta : TA} {fa : FA} (ha : SimA G E ta fa) : SimE G E (tCall (spM G n m) [] (fun _ _ _ => True) ta) (mCall n m fa) := fun S σ τ Q e k rs p => by
  refine ha S σ τ _ e k rs (PostG.imp (fun x S1 q u ru => ?_) (PostG.bind p))
  obtain ⟨k1, s1, q⟩ := q
  split at q
  · rename_i hn
    rw [List.append_nil]
    exact ⟨S1, x, s1.G.trans e, k1, rfl, ru, hn, PostG.exc (fun _ _ _ _ _ _ => trivial) q⟩
  · exact q.elim
theorem sim_callS {n : Nat} {m : List T → AH → Res T} {ta : TA} {fa : FA} (ha : SimA G E ta fa) : SimE G E (tCallS (spM G n m) E ta) (mCall n m fa) := fun S σ τ Q e k rs p => by
  refine ha S σ τ _ e k rs (PostG.imp (fun x S1 q u ru => ?_) (PostG.bind p))
  obtain ⟨k1, s1, q⟩ := q
  split at q
  · rename_i hn
    exact ⟨S1, x, s1.G.trans e, k1, rfl, ru, hn, q⟩
  · exact q.elim
/-! a def's body -/
@[simp] def outD : Res Fl → Res T
  | .ok (.nx _) h1 => .ok .non h1
  | .ok (.rt t) h1 => .ok t h1
  | .ok (.xc e _) h1 => .exc e h1
  | _ => .bad
@[simp] def mDef (N : Nat) (b : FS) : List T → AH → Res T := fun ts h => outD (b (ts.map some ++ List.replicate (N - ts.length) none) h)
theorem RS0.start {N : List Str} : ∀ {ts : List T} {vs : List V} {n : Nat}, RvL S ts vs → RS0 S (ts.map some ++ List.replicate n none) (vs.map some ++ List.replicate n none)
  | [], vs, n, h => by
    simp only [RvL] at h
    subst h
    simp only [List.map_nil, List.nil_append]
    induction n with
    | zero => rfl
    | succ n ih => exact ⟨none, _, rfl, (fun t ht => by cases ht), ih⟩
  | t :: ts, vs, n, h => by
    simp only [RvL] at h
    obtain ⟨v, r, rfl, h1, h2⟩ := h
    exact ⟨some v, _, rfl, fun t' ht => ⟨v, rfl, by cases ht; exact h1⟩, RS0.start (N := N) h2⟩
/-- the body's reading follows from its mirror -/
theorem def_run {N : List Str} {n : Nat} {b : FS} {t : TS} {vs : List V} {H : Hp} {Q : VK} {E : XK} (hb : SimS G (fun cls d _ H => E cls d H) t b) (h : spM G n (mDef N.length b) vs H Q E) (hx : G.ex = none := by rfl) : t { nx := fun _ H' => Q .non H', rt := Q } (start N vs) H := by
  obtain ⟨S, ts, e, k, rfl, rl, hn, p⟩ := h
  have rs : RS S _ _ := ⟨RS0.start (N := N) (n := N.length - vs.length) rl, fun x h => by rw [e, hx] at h; cases h⟩
  have el : N.length - ts.length = N.length - vs.length := by rw [rl.len]
  unfold mDef at p
  rw [el] at p
  have q : PG S (fun cls d _ H => E cls d H) { nx := fun _ H' => Q .non H', rt := Q } (b (ts.map some ++ List.replicate (N.length - vs.length) none) S.h) := by
    cases hr : b (ts.map some ++ List.replicate (N.length - vs.length) none) S.h with
    | bad => rw [hr] at p; exact p
    | exc e h' => rw [hr] at p; exact p.elim
    | ok fl h' =>
      rw [hr] at p
      intro S' e' k' st
      cases fl with
      | nx τ => exact fun σ _ => p S' e' k' st _ (by simp only [Rv])
      | rt t => exact p S' e' k' st
      | bk τ => exact p.elim
      | ct τ => exact p.elim
      | xc e τ => exact fun σ _ => p S' e' k' st
  exact hb S _ _ _ e k rs q
theorem sp_len {n : Nat} {m : List T → AH → Res T} {ps : List Str} (hp : ps.length = n) : ∀ vs H Q E, spM G n m vs H Q E → vs.length = ps.length := fun vs H Q E h => by
  obtain ⟨S, ts, e, k, rfl, rl, hn, p⟩ := h
  rw [rl.len, hn, hp]
end M
/-! ### methods of lists, dicts, instances, truth, comprehensions, letting go, cleaning -/
namespace M
open PySem PySem.Spec PyProof.Rows L2
variable {G : Env} {E : L2.St → XK} {S : Sta} {W : WX}

theorem obj_at {i : Nat} {o : O} {u : V} (k : Ok S) (h : S.h[i]? = some (some o)) (r : Rv S (.obj i) u) : ∃ p ho, u = .ref p ∧ S.al[i]? = some p ∧ S.H p = some ho ∧ RO S o ho := by
  simp only [Rv] at r
  obtain ⟨p, hp, rfl⟩ := r
  obtain ⟨u, hu, ro⟩ := k.rel i o p h hp
  exact ⟨p, u, rfl, hp, hu, ro⟩
theorem RO.mk_lst {l : List T} {vs : List V} (r : RvL S l vs) : RO S (.lst l) (.lst vs) := ⟨vs, rfl, r⟩
/-- a tracked object is written, and that is all -/
theorem put_done {i : Nat} {o o' : O} {p : Addr} {u : HO} {t : T} {v : V} {Q : VK} {X : Exc → Sta → Prop} (k : Ok S) (h : S.h[i]? = some (some o)) (hp : S.al[i]? = some p) (ro : RO S o' u) (rv : Rv S t v)
    (q : PostG S X (fun t S' => ∀ v, Rv S' t v → Q v S'.H) (.ok t (S.h.set i (some o')))) : Q v (upd S.H p u) :=
  have st := step_put (o' := o') (u := u) k h hp
  q (S.put i o' (upd S.H p u)) rfl (ok_put k h hp ro) st v (rv.mono st)
/-! methods of lists -/
def SimM (G : Env) (T0 : String) (r : V → List V → Hp → VK → Prop) (g : T → List T → AH → Res T) : Prop := ∀ (S : Sta) (x : T) (xs : List T) (u : V) (us : List V) (X : Exc → Sta → Prop) (Q : VK), S.G = G → Ok S → Rv S x u → RvL S xs us → PostG S X (fun t S' => ∀ v, Rv S' t v → Q v S'.H) (g x xs S.h) → r u us S.H Q
@[simp] def isLst : T → AH → Bool
  | .obj i, h => match h[i]? with | some (some (.lst _)) => true | _ => false
  | _, _ => false
@[simp] def mLM (g : T → List T → AH → Res T) (fo : FE) (fr : FA) : FE := fun τ h => (fo τ h).bind fun x h1 => if isLst x h1 = true then (fr τ h1).bind fun xs h2 => g x xs h2 else .bad
theorem ty_list {x : T} {u : V} (k : Ok S) (r : Rv S x u) (h : isLst x S.h = true) : tyV S.G.K "list" u S.H := by
  unfold isLst at h
  split at h
  · split at h
    · rename_i l hl
      obtain ⟨p, vs, rfl, _, hp, _⟩ := obj_lst k hl r
      exact .inl ⟨rfl, vs, .inl (.inl hp)⟩
    · cases h
  · cases h
theorem sim_LM {r : V → List V → Hp → VK → Prop} {g : T → List T → AH → Res T} {to : TE} {fo : FE} {tr : TA} {fr : FA} (hm : SimM G "list" r g) (ho : SimE G E to fo) (ha : SimA G E tr fr) : SimE G E (tBM G.K "list" r to tr) (mLM g fo fr) := fun S σ τ Q e k rs p => by
  refine ho S σ τ _ e k rs (PostG.imp (fun x S1 q u ru => ?_) (PostG.bind p))
  obtain ⟨k1, s1, q⟩ := q
  split at q
  · rename_i hl
    have e1 := s1.G.trans e
    have ty := ty_list k1 ru hl
    rw [e1] at ty
    refine ⟨ty, ?_⟩
    refine ha S1 σ τ _ e1 k1 (rs.mono s1) (PostG.imp (fun y S2 q v rv => ?_) (PostG.bind q))
    obtain ⟨k2, s2, q⟩ := q
    exact hm S2 x y u v _ Q (s2.G.trans e1) k2 (ru.mono s2) rv q
  · exact q.elim
@[simp] def mLM0 (g : T → List T → AH → Res T) (fo : FE) : FE := fun τ h => (fo τ h).bind fun x h1 => if isLst x h1 = true then g x [] h1 else .bad
theorem sim_LM0 {r : V → List V → Hp → VK → Prop} {g : T → List T → AH → Res T} {to : TE} {fo : FE} (hm : SimM G "list" r g) (ho : SimE G E to fo) : SimE G E (tBM0 G.K "list" r to) (mLM0 g fo) := fun S σ τ Q e k rs p => by
  refine ho S σ τ _ e k rs (PostG.imp (fun x S1 q u ru => ?_) (PostG.bind p))
  obtain ⟨k1, s1, q⟩ := q
  split at q
  · rename_i hl
    have e1 := s1.G.trans e
    have ty := ty_list k1 ru hl
    rw [e1] at ty
    exact ⟨ty, hm S1 x [] u [] _ Q e1 k1 ru RvL.nil q⟩
  · exact q.elim
@[simp] def gApp : T → List T → AH → Res T
  | .obj i, [y], h => match h[i]? with
    | some (some (.lst l)) => if l.length < sizeLine then .ok .non (h.set i (some (.lst (l ++ [y])))) else .bad
    | _ => .bad
  | _, _, _ => .bad
theorem sm_append : SimM G "list" rAppend gApp := fun S x xs u us X Q e k ru rus p => by
  unfold gApp at p
  split at p
  · split at p
    · rename_i l hl
      split at p
      · rename_i hz
        obtain ⟨a, vs, rfl, hp, ha, rl⟩ := obj_lst k hl ru
        simp only [RvL] at rus
        obtain ⟨w, _, rfl, r1, rfl⟩ := rus
        exact ⟨a, vs, w, rfl, rfl, ha, by rw [rl.len]; exact hz, put_done k hl hp (RO.mk_lst (rl.app (RvL.cons r1 RvL.nil))) (by simp only [Rv]) p⟩
      · exact p.elim
    · exact p.elim
  · exact p.elim
@[simp] def gExt : T → List T → AH → Res T
  | .obj i, [y], h => match h[i]?, lstIn y h with
    | some (some (.lst l)), some m => if l.length + m.length ≤ sizeLine then .ok .non (h.set i (some (.lst (l ++ m)))) else .bad
    | _, _ => .bad
  | _, _, _ => .bad
theorem sm_extend : SimM G "list" rExtend gExt := fun S x xs u us X Q e k ru rus p => by
  unfold gExt at p
  split at p
  · split at p
    · rename_i l m hl hm
      split at p
      · rename_i hz
        obtain ⟨a, vs, rfl, hp, ha, rl⟩ := obj_lst k hl ru
        simp only [RvL] at rus
        obtain ⟨w, _, rfl, r1, rfl⟩ := rus
        obtain ⟨b, ws, rfl, hb, rm⟩ := lstIn_ok k hm r1
        exact ⟨a, b, vs, ws, rfl, rfl, ha, hb, by rw [rl.len, rm.len]; exact hz, put_done k hl hp (RO.mk_lst (rl.app rm)) (by simp only [Rv]) p⟩
      · exact p.elim
    · exact p.elim
  · exact p.elim
theorem RvL.dropLast {l : List T} {vs : List V} (r : RvL S l vs) : RvL S l.dropLast vs.dropLast := by
  rw [List.dropLast_eq_take, List.dropLast_eq_take, r.len]
  exact r.take _
@[simp] def gPop : T → List T → AH → Res T
  | .obj i, [], h => match h[i]? with
    | some (some (.lst l)) => match l[l.length - 1]? with
      | some t => .ok t (h.set i (some (.lst l.dropLast)))
      | none => .bad
    | _ => .bad
  | _, _, _ => .bad
theorem sm_pop : SimM G "list" rPop gPop := fun S x xs u us X Q e k ru rus p => by
  unfold gPop at p
  split at p
  · split at p
    · rename_i l hl
      split at p
      · rename_i t ht
        obtain ⟨a, vs, rfl, hp, ha, rl⟩ := obj_lst k hl ru
        simp only [RvL] at rus
        subst rus
        obtain ⟨w, hw, rw'⟩ := rl.get ht
        exact ⟨a, vs, w, rfl, rfl, ha, by rw [rl.len]; exact hw, put_done k hl hp (RO.mk_lst rl.dropLast) rw' p⟩
      · exact p.elim
    · exact p.elim
  · exact p.elim
@[simp] def gPopAt : T → List T → AH → Res T
  | .obj i, [.int j], h => match h[i]? with
    | some (some (.lst l)) => if -(2 ^ 63) ≤ j ∧ j < 2 ^ 63 then match seqIndex? j l.length with
      | some n => match l[n]? with
        | some t => .ok t (h.set i (some (.lst (l.eraseIdx n))))
        | none => .bad
      | none => .bad
      else .bad
    | _ => .bad
  | _, _, _ => .bad
theorem sm_popAt : SimM G "list" rPopAt gPopAt := fun S x xs u us X Q e k ru rus p => by
  unfold gPopAt at p
  split at p
  · split at p
    · rename_i l hl
      split at p
      · rename_i hz
        split at p
        · rename_i n hn
          split at p
          · rename_i t ht
            obtain ⟨a, vs, rfl, hp, ha, rl⟩ := obj_lst k hl ru
            simp only [RvL] at rus
            obtain ⟨w, _, rfl, r1, rfl⟩ := rus
            simp only [Rv] at r1
            subst r1
            obtain ⟨w, hw, rw'⟩ := rl.get ht
            exact ⟨a, vs, _, n, w, rfl, rfl, ha, hz.1, hz.2, by rw [rl.len]; exact hn, hw, put_done k hl hp (RO.mk_lst (rl.erase n)) rw' p⟩
          · exact p.elim
        · exact p.elim
      · exact p.elim
    · exact p.elim
  · exact p.elim
@[simp] def gRev : T → List T → AH → Res T
  | .obj i, [], h => match h[i]? with
    | some (some (.lst l)) => .ok .non (h.set i (some (.lst l.reverse)))
    | _ => .bad
  | _, _, _ => .bad
theorem sm_reverse : SimM G "list" rReverse gRev := fun S x xs u us X Q e k ru rus p => by
  unfold gRev at p
  split at p
  · split at p
    · rename_i l hl
      obtain ⟨a, vs, rfl, hp, ha, rl⟩ := obj_lst k hl ru
      simp only [RvL] at rus
      subst rus
      exact ⟨a, vs, rfl, rfl, ha, put_done k hl hp (RO.mk_lst rl.rev) (by simp only [Rv]) p⟩
    · exact p.elim
  · exact p.elim
/-- o[i] = e of a list -/
@[simp] def sSetIx (fe fo fi : FE) : FS := fun τ h => liftE (fe τ h) τ fun t h1 => liftE (fo τ h1) τ fun x h2 => liftE (fi τ h2) τ fun y h3 => match x, y with
  | .obj i, .int j => match h3[i]? with
    | some (some (.lst l)) => match ixN l.length j with
      | some n => .ok (.nx τ) (h3.set i (some (.lst (l.set n t))))
      | none => .bad
    | _ => .bad
  | _, _ => .bad
theorem sim_setIx {te to ti : TE} {fe fo fi : FE} (he : SimE G (WE W) te fe) (ho : SimE G (WE W) to fo) (hi : SimE G (WE W) ti fi) : SimS G W (tAsg te (gSub to ti rSetL)) (sSetIx fe fo fi) := fun S σ τ D e k rs p => by
  refine he S σ τ _ e k rs (PostG.imp (fun t S1 q u ru => ?_) (PG.lift rs p))
  obtain ⟨k1, s1, q⟩ := q
  refine ho S1 σ τ _ (s1.G.trans e) k1 (rs.mono s1) (PostG.imp (fun x S2 q v rv => ?_) (PG.lift (rs.mono s1) q))
  obtain ⟨k2, s2, q⟩ := q
  refine hi S2 σ τ _ (s2.G.trans (s1.G.trans e)) k2 (rs.mono (s1.trans s2)) (PostG.imp (fun y S3 q w rw' => ?_) (PG.lift (rs.mono (s1.trans s2)) q))
  obtain ⟨k3, s3, q⟩ := q
  split at q
  · split at q
    · rename_i l hl
      split at q
      · rename_i n hn
        obtain ⟨a, vs, rfl, hp, ha, rl⟩ := obj_lst k3 hl (rv.mono s3)
        simp only [Rv] at rw'
        have st := step_put (o' := .lst (l.set n t)) (u := .lst (vs.set n u)) k3 hl hp
        refine ⟨a, vs, _, n, rfl, rw', ha, by rw [rl.len]; exact hn, ?_⟩
        exact q (S3.put _ _ _) rfl (ok_put k3 hl hp ⟨_, rfl, rl.set (ru.mono (s2.trans s3)) n⟩) st σ (rs.mono ((s1.trans (s2.trans s3)).trans st))
      · exact q.elim
    · exact q.elim
  · exact q.elim
/-! truth -/
@[simp] def truT : T → AH → Option Bool
  | .non, _ => some false
  | .bl b, _ => some b
  | .int i, _ => some (i != 0)
  | .str y, _ => if y.length ≤ sizeLine then some ((y.length : Int) != 0) else none
  | .tup l, _ => some (!l.isEmpty)
  | .ktp l, _ => some (!l.isEmpty)
  | .lst l, _ => some (!l.isEmpty)
  | .rdl l, _ => some (!l.isEmpty)
  | .obj i, h => match h[i]? with
    | some (some (.lst l)) => some (!l.isEmpty)
    | some (some (.dct m)) => some (!m.isEmpty)
    | _ => none
  | _, _ => none
theorem RvL.emp {l : List T} {vs : List V} (r : RvL S l vs) : (!l.isEmpty) = !vs.isEmpty := by
  have := r.len
  cases l <;> cases vs <;> simp_all
theorem RvK.len {κ : Type} : ∀ {m : List (κ × T)} {vs : List (κ × V)}, RvK S m vs → vs.length = m.length
  | [], _, h => by rw [show _ = [] from h]; rfl
  | (k, t) :: r, _, ⟨v, m', e, h1, h2⟩ => by rw [e]; simp [RvK.len h2]
theorem RvK.emp {κ : Type} {m : List (κ × T)} {vs : List (κ × V)} (r : RvK S m vs) : (!m.isEmpty) = !vs.isEmpty := by
  have := r.len
  cases m <;> cases vs <;> simp_all
theorem truT_ok {x : T} {u : V} {b : Bool} (k : Ok S) (r : Rv S x u) (h : truT x S.h = some b) : TruV S.G.K u S.H b := by
  unfold truT at h
  split at h
  · cases h; simp only [Rv] at r; subst r; rfl
  · cases h; simp only [Rv] at r; subst r; rfl
  · cases h; simp only [Rv] at r; subst r; rfl
  · split at h
    · rename_i hz
      cases h; simp only [Rv] at r; subst r; exact ⟨hz, rfl⟩
    · cases h
  · cases h; simp only [Rv] at r; obtain ⟨p, vs, rfl, f, rl⟩ := r; exact .inr (.inl ⟨vs, sqt_of f, rl.emp⟩)
  · cases h; simp only [Rv] at r; obtain ⟨p, vs, rfl, f, rl⟩ := r; exact .inr (.inl ⟨vs, .inr f, rl.emp⟩)
  · cases h; simp only [Rv] at r; obtain ⟨p, vs, rfl, f, rl⟩ := r; exact .inl ⟨vs, sql_of f, rl.emp⟩
  · cases h; simp only [Rv] at r; obtain ⟨p, vs, rfl, f, rl⟩ := r; exact .inl ⟨vs, sql_rd f, rl.emp⟩
  · split at h
    · rename_i l hl
      cases h
      obtain ⟨p, vs, rfl, _, hp, rl⟩ := obj_lst k hl r
      exact .inl ⟨vs, .inl (.inl hp), rl.emp⟩
    · rename_i m hm
      cases h
      obtain ⟨p, ho, rfl, _, hp, vs, rfl, rk⟩ := obj_at k hm r
      exact .inr (.inr ⟨vs, hp, rk.emp⟩)
    · cases h
  · cases h
@[simp] def mTru (fa : FE) : FT := fun τ h => (fa τ h).bind fun x h1 => pur (truT x h1) h1
theorem sim_tru {ta : TE} {fa : FE} (ha : SimE G E ta fa) : SimT G E (fun σ H Q => ta σ H fun x H' => ∃ k, TruV G.K x H' k ∧ Q k H') (mTru fa) := fun S σ τ Q e k rs p => by
  refine ha S σ τ _ e k rs (PostG.imp (fun x S1 q u ru => ?_) (PostG.bind p))
  obtain ⟨k1, s1, q⟩ := q
  unfold pur at q
  split at q
  · rename_i b hb
    have := truT_ok k1 ru hb
    rw [s1.G.trans e] at this
    exact ⟨b, this, q S1 rfl k1 (Step.refl S1)⟩
  · exact q.elim
/-! dicts -/
section
variable {κ : Type} [DecidableEq κ]
def getT (m : List (κ × T)) (k : κ) : Option T := (m.find? fun kv => decide (kv.1 = k)).map (·.2)
def putT (m : List (κ × T)) (k : κ) (v : T) : List (κ × T) := if (m.any fun kv => decide (kv.1 = k)) = true then m.map (fun kv => if kv.1 = k then (kv.1, v) else kv) else m ++ [(k, v)]
def dropT (m : List (κ × T)) (k : κ) : List (κ × T) := m.filter fun kv => decide (kv.1 ≠ k)
def OptRv (S : Sta) : Option T → Option V → Prop
  | some t, some v => Rv S t v
  | none, none => True
  | _, _ => False
theorem RvK.get {m : List (κ × T)} {vs : List (κ × V)} (r : RvK S m vs) (k : κ) : OptRv S (getT m k) (valV vs k) := by
  induction m generalizing vs with
  | nil => rw [show vs = [] from r]; exact trivial
  | cons p m ih =>
    obtain ⟨k', t⟩ := p
    obtain ⟨v, m', rfl, h1, h2⟩ := r
    have := ih h2
    unfold getT valV at this ⊢
    by_cases e : k' = k
    · simp [List.find?_cons, e]; exact h1
    · simp [List.find?_cons, e]; simpa using this
theorem RvK.any {m : List (κ × T)} {vs : List (κ × V)} (r : RvK S m vs) (k : κ) : (m.any fun kv => decide (kv.1 = k)) = vs.any fun kv => decide (kv.1 = k) := by
  induction m generalizing vs with
  | nil => rw [show vs = [] from r]; rfl
  | cons p m ih =>
    obtain ⟨k', t⟩ := p
    obtain ⟨v, m', rfl, h1, h2⟩ := r
    rw [List.any_cons, List.any_cons, ih h2]
theorem RvK.app {m m2 : List (κ × T)} {vs vs2 : List (κ × V)} (r : RvK S m vs) (r2 : RvK S m2 vs2) : RvK S (m ++ m2) (vs ++ vs2) := by
  induction m generalizing vs with
  | nil => rw [show vs = [] from r]; exact r2
  | cons p m ih =>
    obtain ⟨k', t⟩ := p
    obtain ⟨v, m', rfl, h1, h2⟩ := r
    exact ⟨v, _, rfl, h1, ih h2⟩
theorem RvK.swap {m : List (κ × T)} {vs : List (κ × V)} {t : T} {v : V} (r : RvK S m vs) (k : κ) (rv : Rv S t v) : RvK S (m.map fun kv => if kv.1 = k then (kv.1, t) else kv) (vs.map fun kv => if kv.1 = k then (kv.1, v) else kv) := by
  induction m generalizing vs with
  | nil => rw [show vs = [] from r]; rfl
  | cons p m ih =>
    obtain ⟨k', t'⟩ := p
    obtain ⟨v', m', rfl, h1, h2⟩ := r
    by_cases e : k' = k
    · simp only [List.map_cons, e, if_true]
      exact ⟨v, _, rfl, rv, ih h2⟩
    · simp only [List.map_cons, e, if_false]
      exact ⟨v', _, rfl, h1, ih h2⟩
theorem RvK.put {m : List (κ × T)} {vs : List (κ × V)} {t : T} {v : V} (r : RvK S m vs) (k : κ) (rv : Rv S t v) : RvK S (putT m k t) (putK vs k v) := by
  unfold putT putK
  rw [r.any k]
  split
  · exact r.swap k rv
  · exact r.app (m2 := [(k, t)]) (vs2 := [(k, v)]) ⟨v, [], rfl, rv, rfl⟩
theorem RvK.drop {m : List (κ × T)} {vs : List (κ × V)} (r : RvK S m vs) (k : κ) : RvK S (dropT m k) (dropK vs k) := by
  induction m generalizing vs with
  | nil => rw [show vs = [] from r]; rfl
  | cons p m ih =>
    obtain ⟨k', t'⟩ := p
    obtain ⟨v', m', rfl, h1, h2⟩ := r
    unfold dropT dropK at ih ⊢
    by_cases e : k' = k
    · simp only [List.filter_cons, e, ne_eq, not_true, decide_false]
      exact ih h2
    · simp only [List.filter_cons, e, ne_eq, not_false_eq_true, decide_true]
      exact ⟨v', _, rfl, h1, ih h2⟩
end
@[simp] def keyOf : T → Option Key | .int i => some (.inl i) | .str x => some (.inr x) | _ => none
@[simp] def keysL : List T → Option (List Key)
  | [] => some []
  | t :: ts => (keyOf t).bind fun k => (keysL ts).map fun ks => k :: ks
@[simp] def keysOf : T → Option (List Key) | .tup l => keysL l | _ => none
theorem keyOf_ok {y : T} {v : V} {k : Key} (r : Rv S y v) (h : keyOf y = some k) : v = kV k := by
  cases y <;> simp only [keyOf] at h <;> first | (cases h; done) | (cases h; simp only [Rv] at r; exact r)
theorem keysL_ok : ∀ {l : List T} {vs : List V} {ks : List Key}, RvL S l vs → keysL l = some ks → vs = ks.map kV
  | [], vs, ks, r, h => by simp only [RvL] at r; simp only [keysL] at h; cases h; exact r
  | t :: ts, vs, ks, r, h => by
    simp only [RvL] at r
    obtain ⟨v, q, rfl, r1, r2⟩ := r
    simp only [keysL] at h
    obtain ⟨k, h1, h⟩ := Option.bind_eq_some_iff.mp h
    obtain ⟨ks', h2, rfl⟩ := Option.map_eq_some_iff.mp h
    rw [keyOf_ok r1 h1, keysL_ok r2 h2]; rfl
theorem keysOf_ok {y : T} {v : V} {ks : List Key} (r : Rv S y v) (h : keysOf y = some ks) : ∃ b, v = .ref b ∧ S.H b = some (.tup (ks.map kV)) := by
  cases y <;> simp only [keysOf] at h <;> first | (cases h; done) | skip
  simp only [Rv] at r
  obtain ⟨p, vs, rfl, f, rl⟩ := r
  exact ⟨p, rfl, by rw [← keysL_ok rl h]; exact f.1⟩
@[simp] def dctK : T → AH → Option (List (Key × T))
  | .obj i, h => match h[i]? with | some (some (.dct m)) => some m | _ => none
  | .dct ks l, _ => some (ks.zip l)
  | _, _ => none
@[simp] def dctTT : T → AH → Option (List (List Key × T))
  | .obj i, h => match h[i]? with | some (some (.dctT m)) => some m | _ => none
  | .dctT ks l, _ => some (ks.zip l)
  | _, _ => none
theorem RvK.zip {κ : Type} : ∀ {ks : List κ} {l : List T} {vs : List V}, ks.length = l.length → RvL S l vs → RvK S (ks.zip l) (ks.zip vs)
  | [], [], vs, _, r => by simp only [RvL] at r; subst r; rfl
  | k :: ks, t :: ts, vs, h, r => by
    simp only [RvL] at r
    obtain ⟨v, q, rfl, r1, r2⟩ := r
    exact ⟨v, _, rfl, r1, RvK.zip (by simpa using h) r2⟩
  | [], _ :: _, _, h, _ => by simp at h
  | _ :: _, [], _, h, _ => by simp at h
theorem dctK_ok {x : T} {u : V} {m : List (Key × T)} (k : Ok S) (r : Rv S x u) (h : dctK x S.h = some m) : ∃ a vs, u = .ref a ∧ Rd S.H a (.dK vs) ∧ RvK S m vs := by
  unfold dctK at h
  split at h
  · split at h
    · rename_i m' hm
      cases h
      obtain ⟨p, ho, rfl, _, hp, vs, rfl, rk⟩ := obj_at k hm r
      exact ⟨p, vs, rfl, .inl hp, rk⟩
    · cases h
  · cases h
    simp only [Rv] at r
    obtain ⟨p, vs, rfl, f, n, rl⟩ := r
    exact ⟨p, _, rfl, f.rd, RvK.zip n rl⟩
  · cases h
/-- a dict that is tracked -/
@[simp] def dctO : T → AH → Option (List (Key × T))
  | .obj i, h => match h[i]? with | some (some (.dct m)) => some m | _ => none
  | _, _ => none
theorem dctO_ok {x : T} {u : V} {m : List (Key × T)} (k : Ok S) (r : Rv S x u) (h : dctO x S.h = some m) : ∃ a vs, u = .ref a ∧ S.H a = some (.dK vs) ∧ RvK S m vs := by
  unfold dctO at h
  split at h
  · split at h
    · rename_i m' hm
      cases h
      obtain ⟨p, ho, rfl, _, hp, vs, rfl, rk⟩ := obj_at k hm r
      exact ⟨p, vs, rfl, hp, rk⟩
    · cases h
  · cases h
theorem dctTT_ok {x : T} {u : V} {m : List (List Key × T)} (k : Ok S) (r : Rv S x u) (h : dctTT x S.h = some m) : ∃ a vs, u = .ref a ∧ S.H a = some (.dT vs) ∧ RvK S m vs := by
  unfold dctTT at h
  split at h
  · split at h
    · rename_i m' hm
      cases h
      obtain ⟨p, ho, rfl, _, hp, vs, rfl, rk⟩ := obj_at k hm r
      exact ⟨p, vs, rfl, hp, rk⟩
    · cases h
  · cases h
    simp only [Rv] at r
    obtain ⟨p, vs, rfl, f, n, rl⟩ := r
    exact ⟨p, _, rfl, f.1, RvK.zip n rl⟩
  · cases h
/-- what the dict x holds at y -/
@[simp] def lookD (x y : T) (h : AH) : Option (Option T) := match dctK x h, keyOf y with
  | some m, some k => some (getT m k)
  | _, _ => match dctTT x h, keysOf y with
    | some m, some ks => some (getT m ks)
    | _, _ => none
theorem lookD_ok {x y : T} {u v : V} {o : Option T} (k : Ok S) (ru : Rv S x u) (rv : Rv S y v) (h : lookD x y S.h = some o) : ∃ a o', u = .ref a ∧ DGet S.H a v o' ∧ OptRv S o o' := by
  unfold lookD at h
  split at h
  · rename_i m ky hm hk
    cases h
    obtain ⟨a, vs, rfl, ha, rk⟩ := dctK_ok k ru hm
    exact ⟨a, _, rfl, by rw [keyOf_ok rv hk]; exact .inl ⟨_, _, ha, rfl, rfl⟩, rk.get ky⟩
  · split at h
    · rename_i m ky hm hk
      cases h
      obtain ⟨a, vs, rfl, ha, rk⟩ := dctTT_ok k ru hm
      obtain ⟨b, rfl, hb⟩ := keysOf_ok rv hk
      exact ⟨a, _, rfl, DGet.t ha hb, rk.get ky⟩
    · cases h
section
variable {td ty tx : TE} {fd fy fx : FE}
@[simp] def mDGet (fd fy : FE) : FE := fun τ h => (fd τ h).bind fun x h1 => (fy τ h1).bind fun y h2 => match lookD x y h2 with | some (some t) => .ok t h2 | _ => .bad
theorem sim_dget (ha : SimE G E td fd) (hb : SimE G E ty fy) : SimE G E (tDGet td ty) (mDGet fd fy) := fun S σ τ Q e k rs p => by
  refine ha S σ τ _ e k rs (PostG.imp (fun x S1 q u ru => ?_) (PostG.bind p))
  obtain ⟨k1, s1, q⟩ := q
  refine hb S1 σ τ _ (s1.G.trans e) k1 (rs.mono s1) (PostG.imp (fun y S2 q v rv => ?_) (PostG.bind q))
  obtain ⟨k2, s2, q⟩ := q
  split at q
  · rename_i t ht
    obtain ⟨a, o', rfl, hd, ho⟩ := lookD_ok k2 (ru.mono s2) rv ht
    cases o' with
    | none => exact ho.elim
    | some w => exact ⟨a, w, rfl, hd, q S2 rfl k2 (Step.refl S2) w ho⟩
  · exact q.elim
@[simp] def mDIn (neg : Bool) (fy fd : FE) : FE := fun τ h => (fy τ h).bind fun y h1 => (fd τ h1).bind fun x h2 => match lookD x y h2 with | some o => .ok (.bl (if neg then !o.isSome else o.isSome)) h2 | _ => .bad
theorem optRv_some {o : Option T} {o' : Option V} (h : OptRv S o o') : o'.isSome = o.isSome := by
  cases o <;> cases o' <;> first | rfl | exact h.elim
theorem sim_din (ha : SimE G E ty fy) (hb : SimE G E td fd) : SimE G E (tDIn ty td) (mDIn false fy fd) := fun S σ τ Q e k rs p => by
  refine ha S σ τ _ e k rs (PostG.imp (fun y S1 q v rv => ?_) (PostG.bind p))
  obtain ⟨k1, s1, q⟩ := q
  refine hb S1 σ τ _ (s1.G.trans e) k1 (rs.mono s1) (PostG.imp (fun x S2 q u ru => ?_) (PostG.bind q))
  obtain ⟨k2, s2, q⟩ := q
  split at q
  · rename_i o ht
    obtain ⟨a, o', rfl, hd, ho⟩ := lookD_ok k2 ru (rv.mono s2) ht
    exact ⟨a, o', rfl, hd, q S2 rfl k2 (Step.refl S2) _ (by rw [optRv_some ho]; simp)⟩
  · exact q.elim
theorem sim_dnin (ha : SimE G E ty fy) (hb : SimE G E td fd) : SimE G E (tDNotIn ty td) (mDIn true fy fd) := fun S σ τ Q e k rs p => by
  refine ha S σ τ _ e k rs (PostG.imp (fun y S1 q v rv => ?_) (PostG.bind p))
  obtain ⟨k1, s1, q⟩ := q
  refine hb S1 σ τ _ (s1.G.trans e) k1 (rs.mono s1) (PostG.imp (fun x S2 q u ru => ?_) (PostG.bind q))
  obtain ⟨k2, s2, q⟩ := q
  split at q
  · rename_i o ht
    obtain ⟨a, o', rfl, hd, ho⟩ := lookD_ok k2 ru (rv.mono s2) ht
    exact ⟨a, o', rfl, hd, q S2 rfl k2 (Step.refl S2) _ (by rw [optRv_some ho]; simp)⟩
  · exact q.elim
@[simp] def isD (x : T) (h : AH) : Bool := (dctK x h).isSome || (dctTT x h).isSome
theorem isD_ok {x : T} {u : V} (k : Ok S) (r : Rv S x u) (h : isD x S.h = true) : ∃ a, u = .ref a ∧ IsD S.H a := by
  unfold isD at h
  rw [Bool.or_eq_true] at h
  rcases h with h | h
  · obtain ⟨m, hm⟩ := Option.isSome_iff_exists.mp h
    obtain ⟨a, vs, rfl, ha, _⟩ := dctK_ok k r hm
    exact ⟨a, rfl, .inl ⟨vs, ha⟩⟩
  · obtain ⟨m, hm⟩ := Option.isSome_iff_exists.mp h
    obtain ⟨a, vs, rfl, ha, _⟩ := dctTT_ok k r hm
    exact ⟨a, rfl, .inr ⟨vs, .inl ha⟩⟩
@[simp] def mDGet2 (fd fy fx : FE) : FE := fun τ h => (fd τ h).bind fun x h1 => if isD x h1 = true then (fy τ h1).bind fun y h2 => (fx τ h2).bind fun z h3 => match lookD x y h3 with | some o => .ok (o.getD z) h3 | _ => .bad else .bad
theorem sim_dget2 (ha : SimE G E td fd) (hb : SimE G E ty fy) (hc : SimE G E tx fx) : SimE G E (tDGet2 td ty tx) (mDGet2 fd fy fx) := fun S σ τ Q e k rs p => by
  refine ha S σ τ _ e k rs (PostG.imp (fun x S1 q u ru => ?_) (PostG.bind p))
  obtain ⟨k1, s1, q⟩ := q
  split at q
  · rename_i hd
    obtain ⟨a, rfl, hD⟩ := isD_ok k1 ru hd
    refine ⟨a, rfl, hD, ?_⟩
    refine hb S1 σ τ _ (s1.G.trans e) k1 (rs.mono s1) (PostG.imp (fun y S2 q v rv => ?_) (PostG.bind q))
    obtain ⟨k2, s2, q⟩ := q
    refine hc S2 σ τ _ (s2.G.trans (s1.G.trans e)) k2 (rs.mono (s1.trans s2)) (PostG.imp (fun z S3 q w rw' => ?_) (PostG.bind q))
    obtain ⟨k3, s3, q⟩ := q
    split at q
    · rename_i o ht
      obtain ⟨a', o', ea, hd, ho⟩ := lookD_ok k3 (ru.mono (s2.trans s3)) (rv.mono s3) ht
      cases ea
      refine ⟨o', hd, q S3 rfl k3 (Step.refl S3) _ ?_⟩
      cases o <;> cases o' <;> first | exact ho.elim | exact rw' | exact ho
    · exact q.elim
  · exact q.elim
@[simp] def mDGet1 (fd fy : FE) : FE := fun τ h => (fd τ h).bind fun x h1 => if isD x h1 = true then (fy τ h1).bind fun y h2 => match lookD x y h2 with | some o => .ok (o.getD .non) h2 | _ => .bad else .bad
theorem sim_dget1 (ha : SimE G E td fd) (hb : SimE G E ty fy) : SimE G E (tDGet1 td ty) (mDGet1 fd fy) := fun S σ τ Q e k rs p => by
  refine ha S σ τ _ e k rs (PostG.imp (fun x S1 q u ru => ?_) (PostG.bind p))
  obtain ⟨k1, s1, q⟩ := q
  split at q
  · rename_i hd
    obtain ⟨a, rfl, hD⟩ := isD_ok k1 ru hd
    refine ⟨a, rfl, hD, ?_⟩
    refine hb S1 σ τ _ (s1.G.trans e) k1 (rs.mono s1) (PostG.imp (fun y S2 q v rv => ?_) (PostG.bind q))
    obtain ⟨k2, s2, q⟩ := q
    split at q
    · rename_i o ht
      obtain ⟨a', o', ea, hd, ho⟩ := lookD_ok k2 (ru.mono s2) rv ht
      cases ea
      refine ⟨o', hd, q S2 rfl k2 (Step.refl S2) _ ?_⟩
      cases o <;> cases o' <;> first | exact ho.elim | exact ho | (show Rv _ _ _; simp)
    · exact q.elim
  · exact q.elim
/-- d[y] = v -/
@[simp] def sDPutM (fd fy fv : FE) : FS := fun τ h => liftE (fv τ h) τ fun t h1 => liftE (fd τ h1) τ fun x h2 => liftE (fy τ h2) τ fun y h3 => match x with
  | .obj i => match h3[i]? with
    | some (some (.dct m)) => match keyOf y with
      | some k => if m.length < sizeLine then .ok (.nx τ) (h3.set i (some (.dct (putT m k t)))) else .bad
      | none => .bad
    | some (some (.dctT m)) => match keysOf y with
      | some k => if m.length < sizeLine then .ok (.nx τ) (h3.set i (some (.dctT (putT m k t)))) else .bad
      | none => .bad
    | _ => .bad
  | _ => .bad
theorem sim_dput {tv : TE} {fv : FE} (hv : SimE G (WE W) tv fv) (ha : SimE G (WE W) td fd) (hb : SimE G (WE W) ty fy) : SimS G W (sDPut td ty tv) (sDPutM fd fy fv) := fun S σ τ D e k rs p => by
  refine hv S σ τ _ e k rs (PostG.imp (fun t S1 q w rt => ?_) (PG.lift rs p))
  obtain ⟨k1, s1, q⟩ := q
  refine ha S1 σ τ _ (s1.G.trans e) k1 (rs.mono s1) (PostG.imp (fun x S2 q u ru => ?_) (PG.lift (rs.mono s1) q))
  obtain ⟨k2, s2, q⟩ := q
  refine hb S2 σ τ _ (s2.G.trans (s1.G.trans e)) k2 (rs.mono (s1.trans s2)) (PostG.imp (fun y S3 q v rv => ?_) (PG.lift (rs.mono (s1.trans s2)) q))
  obtain ⟨k3, s3, q⟩ := q
  have rs3 := rs.mono (s1.trans (s2.trans s3))
  split at q
  · split at q
    · rename_i m hm
      split at q
      · rename_i ky hk
        split at q
        · rename_i hz
          obtain ⟨a, ho, rfl, hp, ha, vs, rfl, rk⟩ := obj_at k3 hm (ru.mono s3)
          have st := step_put (o' := .dct (putT m ky t)) (u := .dK (putK vs ky w)) k3 hm hp
          refine ⟨a, _, rfl, by rw [keyOf_ok rv hk]; exact DPut.k ha (by rw [rk.len]; exact hz), ?_⟩
          exact q (S3.put _ _ _) rfl (ok_put k3 hm hp ⟨_, rfl, rk.put ky (rt.mono (s2.trans s3))⟩) st σ (rs3.mono st)
        · exact q.elim
      · exact q.elim
    · rename_i m hm
      split at q
      · rename_i ky hk
        split at q
        · rename_i hz
          obtain ⟨a, ho, rfl, hp, ha, vs, rfl, rk⟩ := obj_at k3 hm (ru.mono s3)
          obtain ⟨b, rfl, hb⟩ := keysOf_ok rv hk
          have st := step_put (o' := .dctT (putT m ky t)) (u := .dT (putK vs ky w)) k3 hm hp
          refine ⟨a, _, rfl, DPut.t ha hb (by rw [rk.len]; exact hz), ?_⟩
          exact q (S3.put _ _ _) rfl (ok_put k3 hm hp ⟨_, rfl, rk.put ky (rt.mono (s2.trans s3))⟩) st σ (rs3.mono st)
        · exact q.elim
      · exact q.elim
    · exact q.elim
  · exact q.elim
@[simp] def mDNew : FE := fun _ h => .ok (.obj h.length) (h ++ [some (.dct [])])
theorem sim_dnew : SimE G E tDNewK mDNew := fun S σ τ Q e k rs p => new_obj k p fun S' st => ⟨[], rfl, rfl⟩
@[simp] def mDNewT : FE := fun _ h => .ok (.obj h.length) (h ++ [some (.dctT [])])
theorem sim_dnewT : SimE G E tDNewT mDNewT := fun S σ τ Q e k rs p => new_obj k p fun S' st => ⟨[], rfl, rfl⟩
@[simp] abbrev bLenD := one fun x h => (dctO x h).map fun m => .int m.length
theorem sb_lenD : SimRC G (fun xs H Q => ∃ a kvs, xs = [V.ref a] ∧ H a = some (.dK kvs) ∧ Q (.int kvs.length) H) bLenD := simC1 fun S x t u Q e k ru hg q => by
  obtain ⟨m, hm, rfl⟩ := Option.map_eq_some_iff.mp hg
  obtain ⟨a, vs, rfl, ha, rk⟩ := dctO_ok k ru hm
  exact ⟨a, vs, rfl, ha, q _ (by rw [rk.len]; simp)⟩
end
/-! the module's dicts with text keys -/
/-- the written dict at d has just these rows (of those that are asked for): a text, and what stands there, if something does -/
def KRows (G : Env) (d : Addr) (rows : List (Str × Option T)) : Prop := ∀ r ∈ rows, match r.2 with
  | some t => ∃ u0 v0, PySem.W.nsIn G.K d r.1 = some (some u0) ∧ RelV v0 u0 ∧ ∀ S, S.G = G → Rv S t v0
  | none => PySem.W.nsIn G.K d r.1 = some none
@[simp] def gKd (n : Str) (rows : List (Str × Option T)) (x y : T) : Option (Option T) := match x, y with | .ref m, .str z => if m = n then rows.lookup z else none | _, _ => none
theorem lookup_mem {α β : Type} [BEq α] [LawfulBEq α] {a : α} {b : β} : ∀ {l : List (α × β)}, l.lookup a = some b → (a, b) ∈ l
  | [], h => by simp at h
  | (c, d) :: l, h => by
    rw [List.lookup_cons] at h
    split at h
    · rename_i e
      cases h
      rw [eq_of_beq e]; exact List.mem_cons_self
    · exact List.mem_cons_of_mem _ (lookup_mem h)
@[simp] abbrev oKd (n : Str) (rows : List (Str × Option T)) := P2 fun x y => (gKd n rows x y).bind id
@[simp] abbrev oKin (neg : Bool) (n : Str) (rows : List (Str × Option T)) : T → T → AH → Res T := P2 fun y x => (gKd n rows x y).map fun o => .bl (if neg then !o.isSome else o.isSome)
theorem gKd_ok {n : Str} {d : Addr} {rows : List (Str × Option T)} {x y : T} {u v : V} {o : Option T} (hd : G.fa n = .ref d) (e : S.G = G) (ru : Rv S x u) (rv : Rv S y v) (h : gKd n rows x y = some o) : ∃ z, u = .ref d ∧ v = .str z ∧ (z, o) ∈ rows := by
  unfold gKd at h
  split at h
  · split at h
    · rename_i em
      subst em
      simp only [Rv] at ru rv
      rw [e, hd] at ru
      exact ⟨_, ru, rv, lookup_mem h⟩
    · cases h
  · cases h
theorem so_kd {n : Str} {d : Addr} {rows : List (Str × Option T)} (hd : G.fa n = .ref d) (hr : KRows G d rows) : SimR2 G (fun x y H Q => ∃ (z : Str) (u0 : Value) (v0 : V), x = .ref d ∧ y = .str z ∧ PySem.W.nsIn G.K d z = some (some u0) ∧ RelV v0 u0 ∧ Q v0 H) (oKd n rows) := simP2 fun S x y t u v Q e k ru rv hg q => by
  obtain ⟨o, ho, h2⟩ := Option.bind_eq_some_iff.mp hg
  cases o with
  | none => cases h2
  | some t' =>
    cases h2
    obtain ⟨z, rfl, rfl, hm⟩ := gKd_ok hd e ru rv ho
    obtain ⟨u0, v0, h1, h2, h3⟩ := hr _ hm
    exact ⟨z, u0, v0, rfl, rfl, h1, h2, q v0 (h3 S e)⟩
theorem so_kin {n : Str} {d : Addr} {rows : List (Str × Option T)} (hd : G.fa n = .ref d) (hr : KRows G d rows) : SimR2 G (fun x y H Q => ∃ (z : Str) (r : Option Value), x = .str z ∧ y = .ref d ∧ PySem.W.nsIn G.K d z = some r ∧ Q (.bl r.isSome) H) (oKin false n rows) := simP2 fun S x y t u v Q e k ru rv hg q => by
  obtain ⟨o, ho, rfl⟩ := Option.map_eq_some_iff.mp hg
  obtain ⟨z, rfl, rfl, hm⟩ := gKd_ok hd e rv ru ho
  have := hr _ hm
  cases o with
  | none => exact ⟨z, none, rfl, rfl, this, q _ (by simp)⟩
  | some t' =>
    obtain ⟨u0, v0, h1, h2, h3⟩ := this
    exact ⟨z, some u0, rfl, rfl, h1, q _ (by simp)⟩
theorem so_knin {n : Str} {d : Addr} {rows : List (Str × Option T)} (hd : G.fa n = .ref d) (hr : KRows G d rows) : SimR2 G (fun x y H Q => ∃ (z : Str) (r : Option Value), x = .str z ∧ y = .ref d ∧ PySem.W.nsIn G.K d z = some r ∧ Q (.bl (!r.isSome)) H) (oKin true n rows) := simP2 fun S x y t u v Q e k ru rv hg q => by
  obtain ⟨o, ho, rfl⟩ := Option.map_eq_some_iff.mp hg
  obtain ⟨z, rfl, rfl, hm⟩ := gKd_ok hd e rv ru ho
  have := hr _ hm
  cases o with
  | none => exact ⟨z, none, rfl, rfl, this, q _ (by simp)⟩
  | some t' =>
    obtain ⟨u0, v0, h1, h2, h3⟩ := this
    exact ⟨z, some u0, rfl, rfl, h1, q _ (by simp)⟩
end M
/-! ### comprehensions, instances, letting go, cleaning, isinstance -/
namespace M
open PySem PySem.Spec PyProof.Rows L2
variable {G : Env} {E : L2.St → XK} {S : Sta} {W : WX}

/-! comprehensions -/
def wipeT (τ : LS) : List Nat → LS
  | [] => τ
  | v :: vs => (wipeT τ vs).set v none
theorem RS.wipe {τ : LS} {σ : L2.St} (r : RS S τ σ) : ∀ vs : List Nat, (∀ v ∈ vs, NoSl S.G v) → RS S (wipeT τ vs) (wipe σ vs)
  | [], _ => r
  | v :: vs, h => RS.unset v (h v List.mem_cons_self) (RS.wipe r vs fun w hw => h w (List.mem_cons_of_mem _ hw))
theorem wipe_get (σ : L2.St) (j : Nat) : ∀ vs : List Nat, (wipe σ vs)[j]? = if j ∈ vs ∧ j < σ.length then some none else σ[j]?
  | [] => by simp [wipe]
  | v :: vs => by
    show ((wipe σ vs).set v none)[j]? = _
    rw [List.getElem?_set, wipe_length, wipe_get σ j vs]
    by_cases e : v = j
    · subst e
      by_cases h : v < σ.length
      · simp [h]
      · have : σ[v]? = none := List.getElem?_eq_none_iff.mpr (by omega)
        simp [h]
    · have e' : ¬ j = v := fun z => e z.symm
      simp [e, e']
theorem wipe_set {σ : L2.St} {i : Nat} {x : Option V} {vs : List Nat} (h : i ∈ vs) : wipe (σ.set i x) vs = wipe σ vs := by
  apply List.ext_getElem?
  intro j
  rw [wipe_get, wipe_get, List.length_set, List.getElem?_set]
  by_cases e : i = j
  · subst e
    by_cases hl : i < σ.length
    · simp [h, hl]
    · have : σ[i]? = none := List.getElem?_eq_none_iff.mpr (by omega)
      simp [hl]
  · simp [e]
theorem wipe_wipe {σ : L2.St} {vs : List Nat} : wipe (wipe σ vs) vs = wipe σ vs := by
  apply List.ext_getElem?
  intro j
  rw [wipe_get, wipe_get, wipe_length]
  split
  · rfl
  · rfl
def SimGw (G : Env) (vs : List Nat) (g : TG) (a : FG) : Prop := ∀ (S : Sta) (x : T) (v : V) (τ τ' : LS) (σ : L2.St) (Q : L2.St → Hp → Prop), S.G = G → Ok S → Rv S x v → RS S τ σ → a x τ = some τ' → (∀ σ', RS S τ' σ' → wipe σ' vs = wipe σ vs → Q σ' S.H) → g v σ S.H Q
def SimGsw (G : Env) (vs : List Nat) (g : TGs) (a : FGs) : Prop := ∀ (S : Sta) (x : List T) (v : List V) (τ τ' : LS) (σ : L2.St) (Q : L2.St → Hp → Prop), S.G = G → Ok S → RvL S x v → RS S τ σ → a x τ = some τ' → (∀ σ', RS S τ' σ' → wipe σ' vs = wipe σ vs → Q σ' S.H) → g v σ S.H Q
theorem sim_wName {vs : List Nat} {i : Nat} (h : i ∈ vs) (hn : NoSl G i := by first | exact noSl_none rfl | exact noSl_ne (by decide) | assumption) : SimGw G vs (gName i) (aName i) := fun S x v τ τ' σ Q e k rv rs h' q => by
  unfold aName at h'; cases h'
  exact q _ (RS.set rv i (by rw [e]; exact hn) rs) (wipe_set h)
theorem sim_wNil {vs : List Nat} : SimGsw G vs gNil aNil := fun S x v τ τ' σ Q e k rv rs h q => by
  unfold aNil at h
  split at h
  · cases h
    simp only [RvL] at rv
    exact ⟨rv, q _ rs rfl⟩
  · cases h
theorem sim_wCons {vs : List Nat} {g : TG} {u : TGs} {a : FG} {r : FGs} (hg : SimGw G vs g a) (hu : SimGsw G vs u r) : SimGsw G vs (gCons g u) (aCons a r) := fun S x v τ τ' σ Q e k rv rs h q => by
  unfold aCons at h
  split at h
  · obtain ⟨τ1, h1, h2⟩ := Option.bind_eq_some_iff.mp h
    simp only [RvL] at rv
    obtain ⟨w, m, rfl, r1, r2⟩ := rv
    exact ⟨w, m, rfl, hg S _ _ τ τ1 σ _ e k r1 rs h1 fun σ' rs' e1 => hu S _ _ τ1 τ' σ' Q e k r2 rs' h2 fun σ2 rs2 e2 => q σ2 rs2 (e2.trans e1)⟩
  · cases h
theorem sim_wTup {vs : List Nat} {n : Nat} {u : TGs} {r : FGs} (hu : SimGsw G vs u r) : SimGw G vs (gTup G.K n u) (aTup n r) := fun S x v τ τ' σ Q e k rv rs h q => by
  unfold aTup at h
  obtain ⟨l, hl, h⟩ := Option.bind_eq_some_iff.mp h
  split at h
  · rename_i hn
    obtain ⟨p, vs, rfl, hs, rl⟩ := tupOf_ok hl rv
    rw [e] at hs
    exact ⟨p, vs, rfl, hs, by rw [rl.len]; exact hn, hu S l vs τ τ' σ Q e k rl rs h q⟩
  · cases h
abbrev ET : L2.St → XK := fun _ _ _ _ => True
@[simp] def mYes : FT := fun _ h => .ok true h
theorem sim_yes : SimT G E tYes mYes := fun S σ τ Q e k rs p => p S rfl k (Step.refl S)
def mLcL (a : FG) (tt : FT) (fe : FE) (τ : LS) : Nat → List T → AH → Res (List T)
  | _, [], h => .ok [] h
  | n, x :: xs, h => match a x τ with
    | some τ' => (tt τ' h).bind fun b h1 => if b = true then
        (fe τ' h1).bind fun y h2 => if n < sizeLine then (mLcL a tt fe τ (n + 1) xs h2).bind fun ys h3 => .ok (y :: ys) h3 else .bad
      else mLcL a tt fe τ n xs h1
    | none => .bad
@[simp] def mLc (vs : List Nat) (fi : FA) (a : FG) (tt : FT) (fe : FE) : FE := fun τ h => (fi τ h).bind fun l h1 => (mLcL a tt fe (wipeT τ vs) 0 l h1).bind fun ys h2 => .ok (.lst ys) h2
@[simp] def mLcO (vs : List Nat) (fi : FA) (a : FG) (tt : FT) (fe : FE) : FE := fun τ h => (fi τ h).bind fun l h1 => (mLcL a tt fe (wipeT τ vs) 0 l h1).bind fun ys h2 => .ok (.obj h2.length) (h2 ++ [some (.lst ys)])
theorem RvL.snoc {l : List T} {vs : List V} {t : T} {v : V} (r : RvL S l vs) (a : Rv S t v) : RvL S (l ++ [t]) (vs ++ [v]) := r.app (RvL.cons a RvL.nil)
/-- what is to come, by the tracked heap alone -/
def Pnd {α : Type} (P : α → AH → Prop) : Res α → Prop
  | .bad => False
  | .ok a h => P a h
  | .exc _ _ => True
theorem Pnd.bind {α β : Type} {P : β → AH → Prop} {f : α → AH → Res β} : ∀ {x : Res α}, Pnd P (x.bind f) → Pnd (fun a h => Pnd P (f a h)) x
  | .bad, h => h
  | .ok _ _, h => h
  | .exc _ _, h => h
theorem Pnd.post {α : Type} {P : α → AH → Prop} : ∀ {r : Res α}, Pnd P r → PostG S (fun _ _ => True) (fun a S' => Ok S' ∧ Step S S' ∧ P a S'.h) r
  | .bad, h => h
  | .ok _ _, h => fun S' e k st => ⟨k, st, by rw [e]; exact h⟩
  | .exc _ _, _ => fun _ _ _ _ => trivial
theorem PostG.pnd {α β : Type} {X : Exc → Sta → Prop} {P : β → Sta → Prop} {f : α → AH → Res β} : ∀ {x : Res α}, PostG S X P (x.bind f) → Pnd (fun a h => PostG S (fun _ _ => True) P (f a h)) x
  | .bad, h => h
  | .ok _ _, h => PostG.exc (fun _ _ _ => trivial) h
  | .exc _ _, _ => trivial
theorem RS0.tr {S S' : Sta} (s : Tr S S') : ∀ {τ : LS} {σ : L2.St}, RS0 S τ σ → RS0 S' τ σ
  | [], _, h => h
  | _ :: _, _, ⟨v, r, e, h, q⟩ => ⟨v, r, e, fun t ht => let ⟨w, h1, h2⟩ := h t ht; ⟨w, h1, h2.tr s⟩, RS0.tr s q⟩
theorem RS.tr {S S' : Sta} (s : Tr S S') {τ : LS} {σ : L2.St} (h : RS S τ σ) : RS S' τ σ := ⟨h.r.tr s, h.x.tr s⟩
theorem lc_all {wi : TI} {fi : FA} {g : TG} {a : FG} {tt : TT} {ft : FT} {te : TE} {fe : FE} {vs : List Nat} (hg : SimGw G vs g a) (ht : SimT G ET tt ft) (he : SimE G ET te fe) (hv : ∀ v ∈ vs, NoSl G v)
    (S : Sta) (σ : L2.St) (τ : LS) (Q : VK) (e : S.G = G) (k : Ok S) (rs : RS S τ σ) (hi : ∀ R, PostG S (XP (E σ)) (fun l S' => ∀ J, ItOk S' J l → R J S'.H) (fi τ S.h) → wi σ S.H R) (fin : List T → AH → Res T) (p : PostG S (XP (E σ)) (fun t S' => ∀ v, Rv S' t v → Q v S'.H) ((fi τ S.h).bind fun l h1 => (mLcL a ft fe (wipeT τ vs) 0 l h1).bind fin))
    (hfin : ∀ (S0 S : Sta) (ys : List T) (ws : List V) (D : Addr), S0.G = G → Ok S0 → Ok S → Priv S0 S D → S.H D = some (.lst ws) → RvL S ys ws → PostG S0 (fun _ _ => True) (fun t S' => ∀ v, Rv S' t v → Q v S'.H) (fin ys S.h) → Q (.ref D) S.H) : tLc wi g tt te vs σ S.H Q := by
  refine hi _ (PostG.imp (fun l S1 q J hJ D hD => ?_) (PostG.bind p))
  obtain ⟨k1, s1, q⟩ := q
  have e1 := s1.G.trans e
  have rw1 := (rs.mono s1).wipe vs (by rw [s1.G, e]; exact hv)
  have q := PostG.pnd q
  refine ⟨fun i m H => ∃ S acc ws, S.H = H ∧ Ok S ∧ Priv S1 S D ∧ S.H D = some (.lst ws) ∧ RvL S acc ws ∧ m = l.length - i ∧ i ≤ l.length ∧
    Pnd (fun ys h => PostG S1 (fun _ _ => True) (fun t S' => ∀ v, Rv S' t v → Q v S'.H) (fin (acc ++ ys) h)) (mLcL a ft fe (wipeT τ vs) acc.length (l.drop i) S.h), ⟨l.length, S1.hide D (upd S1.H D (.lst [])), [], [], rfl, ok_hide k1 hD, Priv.start k1 hD, upd_same, RvL.nil, by simp, Nat.zero_le _, q⟩, ?_⟩
  rintro i m H ⟨S, acc, ws, rfl, k, x, hDS, rl, rfl, hi, p⟩
  have trS := x.tr
  obtain ⟨go, stop⟩ := hJ S trS k i
  have eS := trS.G.trans e1
  by_cases hl : i < l.length
  · right
    have hx : l[i]? = some l[i] := List.getElem?_eq_getElem hl
    obtain ⟨g1, g2⟩ := go _ hx
    refine ⟨g1, fun H' => ∃ S acc ws, S.H = H' ∧ Ok S ∧ Priv S1 S D ∧ S.H D = some (.lst ws) ∧ RvL S acc ws ∧
      Pnd (fun ys h => PostG S1 (fun _ _ => True) (fun t S' => ∀ v, Rv S' t v → Q v S'.H) (fin (acc ++ ys) h)) (mLcL a ft fe (wipeT τ vs) acc.length (l.drop (i + 1)) S.h), ?_, ?_⟩
    · rintro H' ⟨S2, acc2, ws2, e2, k2, x2, h2, r2, p2⟩
      exact ⟨l.length - (i + 1), by omega, S2, acc2, ws2, e2, k2, x2, h2, r2, rfl, hl, p2⟩
    · intro v H' hy
      obtain ⟨S2, rfl, hh, k2, st2, rv⟩ := g2 v H' hy
      have x2 := x.step k1 k k2 st2
      have hD2 : S2.H D = some (.lst ws) := (st2.pk D (by rw [x.pv]; exact List.mem_cons_self)).trans hDS
      rw [List.drop_eq_getElem_cons hl] at p
      unfold mLcL at p
      split at p
      · rename_i τ' hτ
        refine hg S2 _ v _ τ' (wipe σ vs) _ (st2.G.trans eS) k2 rv (RS.tr (x2.tr) rw1) hτ fun σ2 rs2 ew => ⟨by rw [ew, wipe_wipe], ?_⟩
        rw [← hh] at p
        refine ht S2 σ2 τ' _ (st2.G.trans eS) k2 rs2 (PostG.exc (fun _ _ _ _ _ _ => trivial) (PostG.imp (fun b S3 q => ?_) (Pnd.post (Pnd.bind p))))
        obtain ⟨k3, s3, q⟩ := q
        have x3 := x2.step k1 k2 k3 s3
        have hp3 : D ∈ S2.pv := by rw [x2.pv]; exact List.mem_cons_self
        have hD3 : S3.H D = some (.lst ws) := (s3.pk D hp3).trans hD2
        cases b with
        | false =>
          rw [if_neg Bool.false_ne_true] at q
          rw [if_neg Bool.false_ne_true]
          exact ⟨S3, acc, ws, rfl, k3, x3, hD3, rl.mono (st2.trans s3), q⟩
        | true =>
          rw [if_pos rfl] at q
          rw [if_pos rfl]
          have e3 := s3.G.trans (st2.G.trans eS)
          refine he S3 σ2 τ' _ e3 k3 (rs2.mono s3) (PostG.exc (fun _ _ _ _ _ _ => trivial) (PostG.imp (fun y S4 q w rw' => ?_) (Pnd.post (Pnd.bind q))))
          obtain ⟨k4, s4, q⟩ := q
          have x4 := x3.step k1 k3 k4 s4
          have hp4 : D ∈ S4.pv := by rw [x4.pv]; exact List.mem_cons_self
          have hD4 : S4.H D = some (.lst ws) := (s4.pk D (by rw [x3.pv]; exact List.mem_cons_self)).trans hD3
          have rl4 := rl.mono ((st2.trans s3).trans s4)
          split at q
          · rename_i hz
            refine ⟨ws, hD4, by rw [rl.len]; exact hz, S4.fill (upd S4.H D (.lst (ws ++ [w]))), acc ++ [y], ws ++ [w], rfl, ok_fill k4 hp4, x4.fill k1, upd_same, (rl4.snoc rw').tr (tr_fill hp4), ?_⟩
            rw [List.length_append]
            have q := Pnd.bind q
            show Pnd _ (mLcL a ft fe (wipeT τ vs) (acc.length + 1) (l.drop (i + 1)) S4.h)
            cases hr : mLcL a ft fe (wipeT τ vs) (acc.length + 1) (l.drop (i + 1)) S4.h with
            | bad => rw [hr] at q; exact q.elim
            | exc e h' => exact trivial
            | ok ys h' =>
              rw [hr] at q
              show PostG _ _ _ (fin ((acc ++ [y]) ++ ys) h')
              rw [List.append_assoc]
              exact q
          · exact q.elim
      · exact p.elim
  · left
    refine ⟨stop (by omega), ?_⟩
    rw [List.drop_eq_nil_of_le (by omega)] at p
    have p : PostG _ _ _ (fin (acc ++ []) S.h) := p
    rw [List.append_nil] at p
    exact hfin S1 S acc ws D e1 k1 k x hDS rl p
theorem sim_lc {wi : TI} {fi : FA} {g : TG} {a : FG} {tt : TT} {ft : FT} {te : TE} {fe : FE} {vs : List Nat} (hi : SimI G E wi fi) (hg : SimGw G vs g a) (ht : SimT G ET tt ft) (he : SimE G ET te fe) (hv : ∀ v ∈ vs, NoSl G v := by first | exact fun _ _ => noSl_none rfl | exact fun v hv => noSl_ne (by revert v; decide) | assumption) : SimE G E (tLc wi g tt te vs) (mLc vs fi a ft fe) := fun S σ τ Q e k rs p => by
  refine lc_all hg ht he hv S σ τ Q e k rs (fun R => hi S σ τ R e k rs) _ p fun S0 S ys ws D _ k0 k x hD r q => ?_
  have e := x.pv
  exact q (S.show S0.pv) rfl (ok_show k e) x.st _ (rv_lst ⟨hD, x.nown k0 k⟩ (r.tr (tr_show e)))
theorem sim_lcO {wi : TI} {fi : FA} {g : TG} {a : FG} {tt : TT} {ft : FT} {te : TE} {fe : FE} {vs : List Nat} (hi : SimI G E wi fi) (hg : SimGw G vs g a) (ht : SimT G ET tt ft) (he : SimE G ET te fe) (hv : ∀ v ∈ vs, NoSl G v := by first | exact fun _ _ => noSl_none rfl | exact fun v hv => noSl_ne (by revert v; decide) | assumption) : SimE G E (tLc wi g tt te vs) (mLcO vs fi a ft fe) := fun S σ τ Q e k rs p => by
  refine lc_all hg ht he hv S σ τ Q e k rs (fun R => hi S σ τ R e k rs) _ p fun S0 S ys ws D _ k0 k x hD r q => ?_
  obtain ⟨k', st⟩ := x.adopt k0 k hD (RO.mk_lst r)
  exact q (S.adopt S0.pv D _) rfl k' st _ (by simp only [Rv]; exact ⟨D, by simp [Sta.adopt, k.len], rfl⟩)
/-! letting go: what is tracked becomes a tree -/
def frzL (f : AH → T → T × AH) : AH → List T → List T × AH
  | h, [] => ([], h)
  | h, t :: ts => ((f h t).1 :: (frzL f (f h t).2 ts).1, (frzL f (f h t).2 ts).2)
def frz : Nat → AH → T → T × AH
  | 0, h, t => (t, h)
  | n + 1, h, t => match t with
    | .obj i => match h[i]? with
      | some (some (.lst l)) => (.lst (frzL (frz n) h l).1, (frzL (frz n) h l).2.set i none)
      | some (some (.ins c m)) => (.inst c (m.map (·.1)) (frzL (frz n) h (m.map (·.2))).1, (frzL (frz n) h (m.map (·.2))).2.set i none)
      | some (some (.dct m)) => (.dct (m.map (·.1)) (frzL (frz n) h (m.map (·.2))).1, (frzL (frz n) h (m.map (·.2))).2.set i none)
      | some (some (.dctT m)) => (.dctT (m.map (·.1)) (frzL (frz n) h (m.map (·.2))).1, (frzL (frz n) h (m.map (·.2))).2.set i none)
      | _ => (t, h)
    | _ => (t, h)
def Sta.wh (S : Sta) (h : AH) : Sta := ⟨S.G, S.al, h, S.H, S.pv⟩
structure Sub (h' h : AH) : Prop where
  len : h'.length = h.length
  sub : ∀ (j : Nat) (o : O), h'[j]? = some (some o) → h[j]? = some (some o)
theorem Sub.refl (h : AH) : Sub h h := ⟨rfl, fun _ _ e => e⟩
theorem Sub.trans {a b c : AH} (x : Sub a b) (y : Sub b c) : Sub a c := ⟨x.len.trans y.len, fun j o e => y.sub j o (x.sub j o e)⟩
theorem Sub.gone {h : AH} (i : Nat) : Sub (h.set i none) h := ⟨List.length_set, fun j o e => by
  by_cases z : i = j
  · subst z; rw [List.getElem?_set] at e; simp at e
  · rw [List.getElem?_set_ne z] at e; exact e⟩
theorem wh_trk {h' : AH} (s : Sub h' S.h) {b : Addr} (z : Trk (S.wh h') b) : Trk S b := by
  obtain ⟨j, o, h1, h2⟩ := z
  exact ⟨j, o, h1, s.sub j o h2⟩
theorem wh_step {h' : AH} (s : Sub h' S.h) : Step S (S.wh h') := ⟨rfl, List.prefix_rfl, fun _ _ h _ => h, fun b z => .inl (z.imp (wh_trk s) id), rfl, fun _ _ => rfl⟩
theorem wh_ok {h' : AH} (k : Ok S) (s : Sub h' S.h) : Ok (S.wh h') := ⟨k.len.trans s.len.symm, fun i o p h1 h2 => by
    obtain ⟨u, hu, r⟩ := k.rel i o p (s.sub i o h1) h2
    exact ⟨u, hu, r.mono (wh_step s)⟩, fun i j o o' p h1 h2 => k.inj i j o o' p (s.sub i o h1) (s.sub j o' h2), fun q hq => ⟨(k.priv q hq).1, fun z => (k.priv q hq).2 (wh_trk s z)⟩⟩
theorem RvK.unzip {κ : Type} : ∀ {m : List (κ × T)} {ws : List (κ × V)}, RvK S m ws → ∃ vs, ws = (m.map (·.1)).zip vs ∧ RvL S (m.map (·.2)) vs
  | [], ws, r => ⟨[], by rw [show ws = [] from r]; rfl, RvL.nil⟩
  | (k, t) :: m, ws, r => by
    obtain ⟨v, m', rfl, h1, h2⟩ := r
    obtain ⟨vs, rfl, h3⟩ := RvK.unzip h2
    exact ⟨v :: vs, rfl, RvL.cons h1 h3⟩
def FrzOk (f : AH → T → T × AH) : Prop := ∀ (S : Sta) (t : T) (v : V), Ok S → Rv S t v → Sub (f S.h t).2 S.h ∧ Rv (S.wh (f S.h t).2) (f S.h t).1 v
theorem frzL_ok {f : AH → T → T × AH} (hf : FrzOk f) : ∀ (l : List T) (S : Sta) (vs : List V), Ok S → RvL S l vs → Sub (frzL f S.h l).2 S.h ∧ RvL (S.wh (frzL f S.h l).2) (frzL f S.h l).1 vs
  | [], S, vs, k, r => ⟨Sub.refl _, r⟩
  | t :: ts, S, vs, k, r => by
    simp only [RvL] at r
    obtain ⟨v, q, rfl, r1, r2⟩ := r
    obtain ⟨s1, h1⟩ := hf S t v k r1
    have k1 := wh_ok k s1
    obtain ⟨s2, h2⟩ := frzL_ok hf ts (S.wh (f S.h t).2) q k1 (r2.mono (wh_step s1))
    exact ⟨s2.trans s1, RvL.cons (h1.mono (wh_step (S := S.wh (f S.h t).2) s2)) h2⟩
theorem gone_fz {i : Nat} {o : O} {p : Addr} {u : HO} {h' : AH} (k : Ok S) (h : S.h[i]? = some (some o)) (hp : S.al[i]? = some p) (hu : S.H p = some u) (s : Sub h' S.h) : Fz (S.wh (h'.set i none)) p u := by
  refine ⟨hu, fun z => ?_⟩
  rcases z with z | z
  · obtain ⟨j, o', h1, h2⟩ := z
    have h2 : (h'.set i none)[j]? = some (some o') := h2
    by_cases e : i = j
    · subst e; rw [List.getElem?_set] at h2; simp at h2
    · rw [List.getElem?_set_ne e] at h2
      exact e (k.inj i j o o' p h (s.sub j o' h2) hp h1)
  · exact (k.priv p z).2 ⟨i, o, hp, h⟩
theorem frz_ok : ∀ n, FrzOk (frz n)
  | 0 => fun S t v k r => ⟨Sub.refl _, r⟩
  | n + 1 => fun S t v k r => by
    have ih := frz_ok n
    unfold frz
    split
    · rename_i i
      split
      · rename_i l hl
        obtain ⟨p, vs, rfl, hp, hu, rl⟩ := obj_lst k hl r
        obtain ⟨s1, h1⟩ := frzL_ok ih l S vs k rl
        refine ⟨(Sub.gone i).trans s1, rv_lst (gone_fz k hl hp hu s1) ?_⟩
        exact h1.mono (wh_step (S := S.wh _) (Sub.gone i))
      · rename_i c m hl
        obtain ⟨p, ho, rfl, hp, hu, dx, ws, rfl, rk⟩ := obj_at k hl r
        obtain ⟨vs, rfl, rl⟩ := rk.unzip
        obtain ⟨s1, h1⟩ := frzL_ok ih _ S vs k rl
        refine ⟨(Sub.gone i).trans s1, ?_⟩
        simp only [Rv]
        exact ⟨p, dx, vs, rfl, gone_fz k hl hp hu s1, by rw [← h1.len, rl.len, List.length_map, List.length_map], h1.mono (wh_step (S := S.wh _) (Sub.gone i))⟩
      · rename_i m hl
        obtain ⟨p, ho, rfl, hp, hu, ws, rfl, rk⟩ := obj_at k hl r
        obtain ⟨vs, rfl, rl⟩ := rk.unzip
        obtain ⟨s1, h1⟩ := frzL_ok ih _ S vs k rl
        refine ⟨(Sub.gone i).trans s1, ?_⟩
        simp only [Rv]
        exact ⟨p, vs, rfl, .inl (gone_fz k hl hp hu s1), by rw [← h1.len, rl.len, List.length_map, List.length_map], h1.mono (wh_step (S := S.wh _) (Sub.gone i))⟩
      · rename_i m hl
        obtain ⟨p, ho, rfl, hp, hu, ws, rfl, rk⟩ := obj_at k hl r
        obtain ⟨vs, rfl, rl⟩ := rk.unzip
        obtain ⟨s1, h1⟩ := frzL_ok ih _ S vs k rl
        refine ⟨(Sub.gone i).trans s1, ?_⟩
        simp only [Rv]
        exact ⟨p, vs, rfl, gone_fz k hl hp hu s1, by rw [← h1.len, rl.len, List.length_map, List.length_map], h1.mono (wh_step (S := S.wh _) (Sub.gone i))⟩
      · exact ⟨Sub.refl _, r⟩
    · exact ⟨Sub.refl _, r⟩
theorem RS0.setT {t : T} {w : V} (a : Rv S t w) : ∀ {τ : LS} {σ : L2.St} {i : Nat}, RS0 S τ σ → σ[i]? = some (some w) → RS0 S (τ.set i (some t)) σ
  | [], _, _, h, _ => by rw [show _ = [] from h]; rfl
  | _ :: _, _, 0, ⟨v, r, e1, h, q⟩, e => ⟨v, r, e1, fun t' ht => ⟨w, by subst e1; simpa using e, by cases ht; exact a⟩, q⟩
  | _ :: _, _, i + 1, ⟨v, r, e1, h, q⟩, e => ⟨v, r, e1, h, RS0.setT a q (by subst e1; simpa using e)⟩
theorem RS.setT {t : T} {w : V} (a : Rv S t w) {τ : LS} {σ : L2.St} {i : Nat} (h : RS S τ σ) (e : σ[i]? = some (some w)) : RS S (τ.set i (some t)) σ := ⟨RS0.setT a h.r e, h.x⟩
/-- slot i's object changes no more: from here on a tree (nothing that Python does) -/
@[simp] def sFrz (i : Nat) (g : FS) : FS := fun τ h => match τ[i]? with
  | some (some (.obj j)) => g (τ.set i (some (frz 8 h (.obj j)).1)) (frz 8 h (.obj j)).2
  | _ => g τ h
theorem sim_frz {i : Nat} {t : TS} {g : FS} (hg : SimS G W t g) : SimS G W t (sFrz i g) := fun S σ τ D e k rs p => by
  unfold sFrz at p
  split at p
  · rename_i j ht
    obtain ⟨w, h1, h2⟩ := rs.get ht
    obtain ⟨s1, r1⟩ := frz_ok 8 S (.obj j) w k h2
    exact hg (S.wh (frz 8 S.h (.obj j)).2) σ _ D e (wh_ok k s1) ((rs.mono (wh_step s1)).setT r1 h1) (PostG.mono (wh_step s1) p)
  · exact hg S σ τ D e k rs p
/-! instances -/
@[simp] def insOf (c : Str) : T → AH → Option (List (Str × T))
  | .obj i, h => match h[i]? with | some (some (.ins c' m)) => if c' = c then some m else none | _ => none
  | .inst c' ns l, _ => if c' = c then some (ns.zip l) else none
  | _, _ => none
theorem insOf_ok {c : Str} {x : T} {u : V} {m : List (Str × T)} (k : Ok S) (r : Rv S x u) (h : insOf c x S.h = some m) : ∃ a dx vs, u = .ref a ∧ S.H a = some (.ins (S.G.ca c) dx vs) ∧ RvK S m vs := by
  unfold insOf at h
  split at h
  · split at h
    · rename_i c' m' hm
      split at h
      · rename_i e
        subst e
        cases h
        obtain ⟨p, ho, rfl, _, hp, dx, vs, rfl, rk⟩ := obj_at k hm r
        exact ⟨p, dx, vs, rfl, hp, rk⟩
      · cases h
    · cases h
  · split at h
    · rename_i e
      subst e
      cases h
      simp only [Rv] at r
      obtain ⟨p, dx, vs, rfl, f, n, rl⟩ := r
      exact ⟨p, dx, _, rfl, f.1, RvK.zip n rl⟩
    · cases h
  · cases h
theorem RvK.look {f : Str} : ∀ {m : List (Str × T)} {vs : List (Str × V)}, RvK S m vs → OptRv S (m.lookup f) (vs.lookup f)
  | [], vs, r => by rw [show vs = [] from r]; exact trivial
  | (k, t) :: m, vs, r => by
    obtain ⟨v, m', rfl, h1, h2⟩ := r
    rw [List.lookup_cons, List.lookup_cons]
    cases f == k with
    | true => exact h1
    | false => exact RvK.look h2
@[simp] def putFT (f : Str) (v : T) : List (Str × T) → List (Str × T)
  | [] => [(f, v)]
  | (g, x) :: r => if g = f then (g, v) :: r else (g, x) :: putFT f v r
theorem RvK.putF {f : Str} {t : T} {v : V} (rv : Rv S t v) : ∀ {m : List (Str × T)} {vs : List (Str × V)}, RvK S m vs → RvK S (putFT f t m) (putF f v vs)
  | [], vs, r => by rw [show vs = [] from r]; exact ⟨v, [], rfl, rv, rfl⟩
  | (k, t') :: m, vs, r => by
    obtain ⟨v', m', rfl, h1, h2⟩ := r
    show RvK S (if k = f then _ else _) (if k = f then _ else _)
    split
    · exact ⟨v, _, rfl, rv, h2⟩
    · exact ⟨v', _, rfl, h1, RvK.putF rv h2⟩
section
variable {ta tv : TE} {fa fv : FE} {c f : Str}
@[simp] def mFld (c f : Str) (fa : FE) : FE := fun τ h => (fa τ h).bind fun x h1 => match (insOf c x h1).bind fun m => m.lookup f with | some t => .ok t h1 | none => .bad
theorem sim_fld (hC : Cls G.K (G.ca c)) (hn : NoAttr G.K (G.ca c) f) (ha : SimE G E ta fa) : SimE G E (tFld G.K ta f) (mFld c f fa) := fun S σ τ Q e k rs p => by
  refine ha S σ τ _ e k rs (PostG.imp (fun x S1 q u ru => ?_) (PostG.bind p))
  obtain ⟨k1, s1, q⟩ := q
  split at q
  · rename_i t ht
    obtain ⟨m, hm, hl⟩ := Option.bind_eq_some_iff.mp ht
    obtain ⟨a, dx, vs, rfl, hH, rk⟩ := insOf_ok k1 ru hm
    have := rk.look (f := f)
    rw [hl] at this
    rw [s1.G.trans e] at hH
    cases hv : vs.lookup f with
    | none => rw [hv] at this; exact this.elim
    | some w => rw [hv] at this; exact ⟨a, _, dx, vs, w, rfl, hH, hC, hn, hv, q S1 rfl k1 (Step.refl S1) w this⟩
  · exact q.elim
/-- o.f = e -/
@[simp] def sFldM (c f : Str) (fo fv : FE) : FS := fun τ h => liftE (fv τ h) τ fun t h1 => liftE (fo τ h1) τ fun x h2 => match x with
  | .obj i => match h2[i]? with
    | some (some (.ins c' m)) => if c' = c ∧ m.length < 1000 then .ok (.nx τ) (h2.set i (some (.ins c' (putFT f t m)))) else .bad
    | _ => .bad
  | _ => .bad
theorem sim_sfld (hC : Cls G.K (G.ca c)) (hn : NoAttr G.K (G.ca c) f) (ha : SimE G (WE W) ta fa) (hv : SimE G (WE W) tv fv) : SimS G W (sFld G.K ta tv f) (sFldM c f fa fv) := fun S σ τ D e k rs p => by
  refine hv S σ τ _ e k rs (PostG.imp (fun t S1 q w rt => ?_) (PG.lift rs p))
  obtain ⟨k1, s1, q1⟩ := q
  refine ha S1 σ τ _ (s1.G.trans e) k1 (rs.mono s1) (PostG.imp (fun x S2 q2 u ru => ?_) (PG.lift (rs.mono s1) q1))
  obtain ⟨k2, s2, q3⟩ := q2
  have e2 := s2.G.trans (s1.G.trans e)
  split at q3
  · split at q3
    · rename_i c' m hm
      split at q3
      · rename_i hz
        obtain ⟨rfl, hz⟩ := hz
        obtain ⟨a, ho, rfl, hp, ha, dx, vs, rfl, rk⟩ := obj_at k2 hm ru
        have st := step_put (o' := .ins c' (putFT f t m)) (u := .ins (S2.G.ca c') dx (putF f w vs)) k2 hm hp
        refine ⟨a, G.ca c', dx, vs, rfl, by rw [ha, e2], hC, hn, by rw [rk.len]; exact hz, ?_⟩
        have q4 := q3 (S2.put _ _ _) rfl (ok_put k2 hm hp ⟨dx, _, rfl, rk.putF (rt.mono s2)⟩) st σ (rs.mono ((s1.trans s2).trans st))
        rw [← e2]
        exact q4
      · exact q3.elim
    · exact q3.elim
  · exact q3.elim
/-- o.m(..) -/
@[simp] def mMeth (c m : Str) (n : Nat) (mir : List T → AH → Res T) (fo : FE) (fr : FA) : FE := fun τ h => (fo τ h).bind fun x h1 => match (insOf c x h1).map fun mm => mm.lookup m with
  | some none => (fr τ h1).bind fun xs h2 => if xs.length + 1 = n then mir (x :: xs) h2 else .bad
  | _ => .bad
theorem sim_meth {C : Addr} {m : Str} {n : Nat} {mir : List T → AH → Res T} {tr : TA} {fr : FA} (hc : G.ca c = C) (ha : SimE G E ta fa) (hr : SimA G E tr fr) : SimE G E (tMeth C m (spM G n mir) [] (fun _ _ _ => True) ta tr) (mMeth c m n mir fa fr) := fun S σ τ Q e k rs p => by
  subst hc
  refine ha S σ τ _ e k rs (PostG.imp (fun x S1 q u ru => ?_) (PostG.bind p))
  obtain ⟨k1, s1, q⟩ := q
  split at q
  · rename_i ht
    obtain ⟨mm, hm, hl⟩ := Option.map_eq_some_iff.mp ht
    obtain ⟨a, dx, vs, rfl, hH, rk⟩ := insOf_ok k1 ru hm
    have := rk.look (f := m)
    rw [hl] at this
    have e1 := s1.G.trans e
    rw [e1] at hH
    refine ⟨a, dx, vs, rfl, hH, ?_, ?_⟩
    · cases hv : vs.lookup m with
      | none => rfl
      | some w => rw [hv] at this; exact this.elim
    · refine hr S1 σ τ _ e1 k1 (rs.mono s1) (PostG.imp (fun xs S2 q us rus => ?_) (PostG.bind q))
      obtain ⟨k2, s2, q⟩ := q
      split at q
      · rename_i hn
        rw [List.append_nil]
        exact ⟨S2, x :: xs, s2.G.trans e1, k2, rfl, RvL.cons (ru.mono s2) rus, by simpa using hn, PostG.exc (fun _ _ _ _ _ _ => trivial) q⟩
      · exact q.elim
  · exact q.elim
/-- C(..): a new instance, tracked while its __init__ runs; fz: and then let go -/
@[simp] def mMake (c : Str) (n : Nat) (mir : List T → AH → Res T) (fz : Bool) (fr : FA) : FE := fun τ h => (fr τ h).bind fun xs h1 => if xs.length + 1 = n then
    (mir (.obj h1.length :: xs) (h1 ++ [some (.ins c [])])).bind fun r h2 => match r with
      | .non => if fz = true then .ok (frz 8 h2 (.obj h1.length)).1 (frz 8 h2 (.obj h1.length)).2 else .ok (.obj h1.length) h2
      | _ => .bad
  else .bad
theorem make_core {n : Nat} {mir : List T → AH → Res T} {fz : Bool} {xs : List T} {us : List V} {Q : VK} {X : Exc → Sta → Prop} {E' : XK} (e : S.G = G) (k : Ok S) (rus : RvL S xs us) (hn : xs.length + 1 = n) (hX : ∀ e S', X e S' → XP E' e S')
    (q : PostG S X (fun t S' => ∀ v, Rv S' t v → Q v S'.H) ((mir (.obj S.h.length :: xs) (S.h ++ [some (.ins c [])])).bind fun r h2 => match r with
      | .non => if fz = true then .ok (frz 8 h2 (.obj S.h.length)).1 (frz 8 h2 (.obj S.h.length)).2 else .ok (.obj S.h.length) h2
      | _ => .bad)) : ∀ x dx, S.H x = none → S.H dx = none → dx ≠ x → spM G n mir (.ref x :: us) (upd (upd S.H dx (.own x)) x (.ins (G.ca c) dx [])) (fun v H2 => v = .non ∧ Q (.ref x) H2) E' := by
  intro x dx nx ndx ne
  have g : Grow S.H (upd (upd S.H dx (.own x)) x (.ins (G.ca c) dx [])) := by
    refine (Grow.upd (u := .own x) ndx).trans (Grow.upd ?_)
    rw [upd_ne (Ne.symm ne)]; exact nx
  have st := step_push (o := .ins c []) k nx g
  have kp := ok_push (o := .ins c []) (u := .ins (G.ca c) dx []) k nx g upd_same ⟨dx, [], by show _ = HO.ins (S.G.ca c) dx []; rw [e], rfl⟩
  have rx : Rv (S.push x (.ins c []) (upd (upd S.H dx (.own x)) x (.ins (G.ca c) dx []))) (.obj S.h.length) (.ref x) := by
    simp only [Rv]
    exact ⟨x, by simp [Sta.push, k.len], rfl⟩
  refine ⟨_, .obj S.h.length :: xs, st.G.trans e, kp, rfl, RvL.cons rx (rus.mono st), by simpa using hn, ?_⟩
  refine PostG.exc hX (PostG.imp (fun r S2 q v rv => ?_) (PostG.bind (PostG.mono st q)))
  obtain ⟨k2, s2, q⟩ := q
  split at q
  · simp only [Rv] at rv
    refine ⟨rv, ?_⟩
    have r2 := rx.mono s2
    split at q
    · obtain ⟨s3, r3⟩ := frz_ok 8 S2 _ _ k2 r2
      exact q (S2.wh _) rfl (wh_ok k2 s3) (wh_step s3) _ r3
    · exact q S2 rfl k2 (Step.refl S2) _ r2
  · exact q.elim
theorem sim_make {C : Addr} {n : Nat} {mir : List T → AH → Res T} {fz : Bool} {tr : TA} {fr : FA} (hc : G.ca c = C) (hr : SimA G E tr fr) : SimE G E (tMake C (spM G n mir) [] (fun _ _ _ => True) tr) (mMake c n mir fz fr) := fun S σ τ Q e k rs p => by
  subst hc
  refine hr S σ τ _ e k rs (PostG.imp (fun xs S1 q us rus => ?_) (PostG.bind p))
  obtain ⟨k1, s1, q⟩ := q
  split at q
  · rename_i hn
    rw [List.append_nil]
    exact make_core (s1.G.trans e) k1 rus hn (fun _ _ _ _ _ _ => trivial) q
  · exact q.elim
end
/-! isinstance of a built-in type -/
theorem tyOf_ok {x : T} {u : V} {n : String} (k : Ok S) (r : Rv S x u) (h : tyOf x S.h = some n) : TyX S.G.K S.H u (.type n) := by
  unfold tyOf at h
  split at h
  · cases h; simp only [Rv] at r; subst r; exact .base .non
  · cases h; simp only [Rv] at r; subst r; exact .base (.bl _)
  · cases h; simp only [Rv] at r; subst r; exact .base (.int _)
  · cases h; simp only [Rv] at r; subst r; exact .base (.str _)
  · cases h; simp only [Rv] at r; obtain ⟨p, vs, rfl, f, _⟩ := r; exact .base (.tup f.1)
  · cases h; simp only [Rv] at r; obtain ⟨p, vs, rfl, ⟨o, its, n, h1, h2, _⟩, _⟩ := r; exact .kTuple h1 h2
  · cases h; simp only [Rv] at r; obtain ⟨p, vs, rfl, f, _⟩ := r; exact .base (.lst f.1)
  · split at h
    · rename_i l hl
      cases h
      obtain ⟨p, vs, rfl, _, hp, _⟩ := obj_lst k hl r
      exact .base (.lst hp)
    · rename_i m hm
      cases h
      obtain ⟨p, ho, rfl, _, hp, vs, rfl, _⟩ := obj_at k hm r
      exact .base (.dK hp)
    · cases h
  · cases h; simp only [Rv] at r; obtain ⟨p, vs, rfl, f, _⟩ := r; rcases f with f | ⟨od, f⟩; exact .base (.dK f.1); exact .fDict f.1
  · cases h
@[simp] def mIsi (n : String) (fa : FE) : FE := fun τ h => (fa τ h).bind fun x h1 => match (tyOf x h1).bind fun a => kitB a n with | some b => .ok (.bl b) h1 | none => .bad
theorem sim_isi {n : String} {ta : TE} {fa : FE} (ha : SimE G E ta fa) : SimE G E (tCB (rIsi G.K) (tCons ta (tCons (tC (.ty n)) tNil))) (mIsi n fa) := fun S σ τ Q e k rs p => by
  refine ha S σ τ _ e k rs (PostG.imp (fun x S1 q u ru => ?_) (PostG.bind p))
  obtain ⟨k1, s1, q⟩ := q
  split at q
  · rename_i b hb
    obtain ⟨a, h1, h2⟩ := Option.bind_eq_some_iff.mp hb
    have ty := tyOf_ok k1 ru h1
    rw [s1.G.trans e] at ty
    exact ⟨u, .ty n, _, _, b, rfl, .ty n, ty, kit_ty h2, q S1 rfl k1 (Step.refl S1) _ (by simp only [Rv])⟩
  · exact q.elim
end M
/-! ### the layer's rules with the written part named, zip, enumerate, cleaning -/
namespace M
open PySem PySem.Spec PyProof.Rows L2
variable {G : Env} {E : L2.St → XK} {S : Sta} {W : WX}
theorem ix_kd {X : Cx} {d : Addr} {es : Array DictEntry} {n : Nat} (D : KDict X.K X.w d es n) : IxR X (fun x y H Q => ∃ (z : Str) (u0 : Value) (v0 : V), x = .ref d ∧ y = .str z ∧ PySem.W.nsIn X.K d z = some (some u0) ∧ RelV v0 u0 ∧ Q v0 H) := by
  intro value slice pins s σ H x y v u Q I rx ry h hs
  obtain ⟨z, u0, v0, rfl, rfl, e, r, q⟩ := h
  cases rx
  obtain ⟨t, rfl⟩ := ry
  exact tail_any (kd_type D I) PySem.F.slot_dict_getitem.lookup (wpAny_getItem_of (PySem.strKind_is X.prog X.w z t) (PySem.W.mapOf_K (prog := X.prog) I.kIn D.at_ D.lit) (PySem.W.find_K D.at_ e) ⟨v0, H, I.tok _, r, q⟩) hs
section
variable {X : Cx} {K : PySem.W.Frag}
theorem x_ix (h : X.K = K) : IxR X (rIx K) := h ▸ ix_seq
theorem x_slL (h : X.K = K) : SlR X (rSlL K) := h ▸ sl_list
theorem x_slT (h : X.K = K) : SlR X (rSlA K) := h ▸ sl_tupA
theorem x_in (h : X.K = K) : OpR X (compareOp .In) (rIn K false) := h ▸ op_in_seq
theorem x_nin (h : X.K = K) : OpR X (compareOp .NotIn) (rIn K true) := h ▸ op_notIn_seq
theorem x_eq (h : X.K = K) (hu : X.A.units + 64 < cLine) : OpR X (compareOp .Eq) (fun x y H Q => rEq x y H Q ∨ rEqD K x y H Q) := h ▸ OpR.or op_eq (op_eqD hu)
theorem x_ne (h : X.K = K) (hu : X.A.units + 64 < cLine) : OpR X (compareOp .NotEq) (fun x y H Q => rNe x y H Q ∨ rNeD K x y H Q) := h ▸ OpR.or op_ne (op_neD hu)
theorem x_len (h : X.K = K) : CallR X (.builtin "len") (fun xs H Q => ∃ p ys, xs = [.ref p] ∧ (SqL K H p ys ∨ SqT K H p ys) ∧ Q (.int ys.length) H) := h ▸ call_len_seq
theorem x_list (h : X.K = K) : CallR X (.type "list") (fun xs H Q => ∃ p ys, xs = [.ref p] ∧ (SqL K H p ys ∨ SqT K H p ys) ∧ ∀ l, H l = none → Q (.ref l) (upd H l (.lst ys))) := h ▸ call_list_of
theorem x_tuple (h : X.K = K) : CallR X (.type "tuple") (fun xs H Q => ∃ p ys, xs = [.ref p] ∧ ((SqL K H p ys ∧ ∀ l, H l = none → Q (.ref l) (upd H l (.tup ys))) ∨ (SqT K H p ys ∧ Q (.ref p) H))) := h ▸ call_tuple_of
theorem x_isi (h : X.K = K) : CallR X (.builtin "isinstance") (rIsi K) := h ▸ call_isi
theorem x_any (h : X.K = K) (hc : X.calm = true) : CallR X (.builtin "any") (rAny K) := h ▸ cr_any hc
theorem x_all (h : X.K = K) (hc : X.calm = true) : CallR X (.builtin "all") (rAll K) := h ▸ cr_all hc
theorem x_sum (h : X.K = K) (hc : X.calm = true) : CallR X (.builtin "sum") (rSum K) := h ▸ cr_sum hc
theorem x_catT (h : X.K = K) : OpR X (binaryOp .Add) (rCatT K) := h ▸ op_catT
theorem x_fld (h : X.K = K) {e : Expr} {f : Str} {ta : TE} {pos : Pos} (he : PE X e ta) (hb : attributeBase e f X.env (eval e X.env) = eval e X.env) : PE X (.Attribute e f pos) (tFld K ta f) := h ▸ pe_fld he hb
theorem x_kd {w : World} {d : Addr} {es : Array DictEntry} {n : Nat} (h : X.K = K) (hw : X.w = w) (D : KDict K w d es n) : IxR X (fun x y H Q => ∃ (z : Str) (u0 : Value) (v0 : V), x = .ref d ∧ y = .str z ∧ PySem.W.nsIn K d z = some (some u0) ∧ RelV v0 u0 ∧ Q v0 H) := by
  subst h; subst hw; exact ix_kd D
theorem x_kin {w : World} {d : Addr} {es : Array DictEntry} {n : Nat} (h : X.K = K) (hw : X.w = w) (D : KDict K w d es n) : OpR X (compareOp .In) (fun x y H Q => ∃ (z : Str) (r : Option Value), x = .str z ∧ y = .ref d ∧ PySem.W.nsIn K d z = some r ∧ Q (.bl r.isSome) H) := by
  subst h; subst hw; exact op_in_kd D
theorem x_knin {w : World} {d : Addr} {es : Array DictEntry} {n : Nat} (h : X.K = K) (hw : X.w = w) (D : KDict K w d es n) : OpR X (compareOp .NotIn) (fun x y H Q => ∃ (z : Str) (r : Option Value), x = .str z ∧ y = .ref d ∧ PySem.W.nsIn K d z = some r ∧ Q (.bl (!r.isSome)) H) := by
  subst h; subst hw; exact op_notIn_kd D
theorem x_tru (h : X.K = K) {a : Expr} {ta : TE} (ha : PE X a ta) (he : ∀ whole, isTrue a X.env whole = (do let v ← whole; standAt a.pos; holding [v] (truthy v))) : PT X a (fun σ H Q => ta σ H fun x H' => ∃ k, TruV K x H' k ∧ Q k H') := h ▸ pt_truth ha he
theorem x_pil (h : X.K = K) {tg l : Expr} {tl : TE} (hl : PE X l tl) : PI X tg l (iList K tl) := h ▸ pi_list hl
theorem x_pit (h : X.K = K) {tg l : Expr} {tl : TE} (hl : PE X l tl) : PI X tg l (iTup K tl) := h ▸ pi_tup hl
end
/-! tuple + tuple, any, all, sum -/
theorem so_catT : SimR2 G (rCatT G.K) oCatT := fun S x y u v X Q e k ru rv p => by
  rw [← e]
  unfold oCatT P2 pur at p
  split at p
  · rename_i t ht
    obtain ⟨l, hl, ht⟩ := Option.bind_eq_some_iff.mp ht
    obtain ⟨m, hm, ht⟩ := Option.bind_eq_some_iff.mp ht
    split at ht
    · rename_i hz
      cases ht
      obtain ⟨a, xs, rfl, hs, rl⟩ := tupOf_ok hl ru
      obtain ⟨b, ys, rfl, hs2, rm⟩ := tupOf_ok hm rv
      refine ⟨a, b, xs, ys, rfl, rfl, hs, hs2, ?_, by rw [rl.len, rm.len]; exact hz.2.2, ?_, fun _ => new_fz k p fun p n f => rv_tup f ((rl.app rm).mono (step_at (by assumption) (Grow.upd n)))⟩
      · intro z; subst z
        have := rl.len
        exact hz.1 (List.length_eq_zero_iff.mp (by simpa using this.symm))
      · intro z; subst z
        have := rm.len
        exact absurd (List.length_eq_zero_iff.mp (by simpa using this.symm)) hz.2.1
    · cases ht
  · exact p.elim
@[simp] def bools : List T → Option (List Bool)
  | [] => some []
  | .bl b :: ts => (bools ts).map fun bs => b :: bs
  | _ => none
theorem bools_ok : ∀ {l : List T} {vs : List V} {bs : List Bool}, RvL S l vs → bools l = some bs → vs = bs.map V.bl
  | [], vs, bs, r, h => by simp only [RvL] at r; simp only [bools] at h; cases h; exact r
  | t :: ts, vs, bs, r, h => by
    simp only [RvL] at r
    obtain ⟨v, q, rfl, r1, r2⟩ := r
    cases t <;> simp only [bools] at h <;> first | (cases h; done) | skip
    obtain ⟨bs', h2, rfl⟩ := Option.map_eq_some_iff.mp h
    simp only [Rv] at r1
    rw [r1, bools_ok r2 h2]; rfl
@[simp] abbrev bAny := one fun x h => ((lstOf x h).bind bools).map fun bs => .bl (bs.any id)
@[simp] abbrev bAll := one fun x h => ((lstOf x h).bind bools).map fun bs => .bl (bs.all id)
theorem sb_any : SimRC G (rAny G.K) bAny := simC1 fun S x t u Q e k ru hg q => by
  obtain ⟨bs, hb, rfl⟩ := Option.map_eq_some_iff.mp hg
  obtain ⟨l, hl, hb⟩ := Option.bind_eq_some_iff.mp hb
  obtain ⟨a, vs, rfl, hs, rl⟩ := lstOf_ok k hl ru
  rw [e, bools_ok rl hb] at hs
  exact ⟨a, bs, rfl, hs, q _ (by simp)⟩
theorem sb_all : SimRC G (rAll G.K) bAll := simC1 fun S x t u Q e k ru hg q => by
  obtain ⟨bs, hb, rfl⟩ := Option.map_eq_some_iff.mp hg
  obtain ⟨l, hl, hb⟩ := Option.bind_eq_some_iff.mp hb
  obtain ⟨a, vs, rfl, hs, rl⟩ := lstOf_ok k hl ru
  rw [e, bools_ok rl hb] at hs
  exact ⟨a, bs, rfl, hs, q _ (by simp)⟩
@[simp] def intsOf : List T → Option (List Int)
  | [] => some []
  | .int b :: ts => (intsOf ts).map fun bs => b :: bs
  | _ => none
theorem intsOf_ok : ∀ {l : List T} {vs : List V} {bs : List Int}, RvL S l vs → intsOf l = some bs → vs = bs.map V.int
  | [], vs, bs, r, h => by simp only [RvL] at r; simp only [intsOf] at h; cases h; exact r
  | t :: ts, vs, bs, r, h => by
    simp only [RvL] at r
    obtain ⟨v, q, rfl, r1, r2⟩ := r
    cases t <;> simp only [intsOf] at h <;> first | (cases h; done) | skip
    obtain ⟨bs', h2, rfl⟩ := Option.map_eq_some_iff.mp h
    simp only [Rv] at r1
    rw [r1, intsOf_ok r2 h2]; rfl
@[simp] abbrev bSum := one fun x h => ((lstOf x h).bind intsOf).map fun bs => .int bs.sum
theorem sb_sum : SimRC G (rSum G.K) bSum := simC1 fun S x t u Q e k ru hg q => by
  obtain ⟨bs, hb, rfl⟩ := Option.map_eq_some_iff.mp hg
  obtain ⟨l, hl, hb⟩ := Option.bind_eq_some_iff.mp hb
  obtain ⟨a, vs, rfl, hs, rl⟩ := lstOf_ok k hl ru
  rw [e, intsOf_ok rl hb] at hs
  exact ⟨a, bs, rfl, hs, q _ (by simp)⟩
/-! zip, enumerate: each item a new pair -/
theorem new_pair {x y : T} {u v : V} {p : Addr} (k : Ok S) (n : S.H p = none) (ru : Rv S x u) (rv : Rv S y v) : ∃ S', S'.H = upd S.H p (.tup [u, v]) ∧ S'.h = S.h ∧ Ok S' ∧ Step S S' ∧ Rv S' (.tup [x, y]) (.ref p) :=
  have g := Grow.upd (u := .tup [u, v]) n
  ⟨S.at _, rfl, rfl, ok_at k g, step_at k g, rv_tup (fz_new k n upd_same) ((RvL.cons ru (RvL.cons rv RvL.nil)).mono (step_at k g))⟩
def pairs (l m : List T) : List T := List.zipWith (fun x y => .tup [x, y]) l m
theorem pairs_get {l m : List T} {i : Nat} {t : T} (h : (pairs l m)[i]? = some t) : ∃ x y, l[i]? = some x ∧ m[i]? = some y ∧ t = .tup [x, y] := by
  unfold pairs at h
  rw [List.getElem?_zipWith] at h
  cases hx : l[i]? with
  | none => rw [hx] at h; cases h
  | some x =>
    cases hy : m[i]? with
    | none => rw [hx, hy] at h; cases h
    | some y => rw [hx, hy] at h; cases h; exact ⟨x, y, rfl, rfl, rfl⟩
theorem it_zipL {p q : Addr} {l m : List T} {vs ws : List V} (e : S.G = G) (f : Fz S p (.lst vs)) (f2 : Fz S q (.lst ws)) (r : RvL S l vs) (r2 : RvL S m ws) : ItOk S (Itz G.K p q) (pairs l m) := fun S1 st k i => by
  have hs : SqL G.K S1.H p vs := by rw [← e, ← st.G]; exact sql_of (st.fz _ _ f)
  have hs2 : SqL G.K S1.H q ws := by rw [← e, ← st.G]; exact sql_of (st.fz _ _ f2)
  refine ⟨fun t ht => ?_, fun h => ⟨vs, ws, hs, hs2, ?_⟩⟩
  · obtain ⟨x, y, hx, hy, rfl⟩ := pairs_get ht
    obtain ⟨v, hv, rv⟩ := (r.tr st).get hx
    obtain ⟨w, hw, rw'⟩ := (r2.tr st).get hy
    refine ⟨⟨vs, ws, v, w, hs, hs2, hv, hw⟩, fun z H' hy => ?_⟩
    obtain ⟨T0, x', y', rfl, hn, rfl, h1, h2⟩ := hy
    have a := h1 vs hs
    have b := h2 ws hs2
    rw [hv] at a; cases a
    rw [hw] at b; cases b
    exact new_pair k hn rv rw'
  · unfold pairs at h
    rw [List.length_zipWith] at h
    rw [r.len, r2.len]
    omega
theorem it_zipT {p q : Addr} {l m : List T} {vs ws : List V} (hs : ∀ S1, Tr S S1 → SqT G.K S1.H p vs) (hs2 : ∀ S1, Tr S S1 → SqT G.K S1.H q ws) (r : RvL S l vs) (r2 : RvL S m ws) : ItOk S (RZ.ItzT G.K p q) (pairs l m) := fun S1 st k i => by
  have hs := hs S1 st
  have hs2 := hs2 S1 st
  refine ⟨fun t ht => ?_, fun h => ⟨vs, ws, hs, hs2, ?_⟩⟩
  · obtain ⟨x, y, hx, hy, rfl⟩ := pairs_get ht
    obtain ⟨v, hv, rv⟩ := (r.tr st).get hx
    obtain ⟨w, hw, rw'⟩ := (r2.tr st).get hy
    refine ⟨⟨vs, ws, v, w, hs, hs2, hv, hw⟩, fun z H' hy => ?_⟩
    obtain ⟨T0, x', y', rfl, hn, rfl, h1, h2⟩ := hy
    have a := h1 vs hs
    have b := h2 ws hs2
    rw [hv] at a; cases a
    rw [hw] at b; cases b
    exact new_pair k hn rv rw'
  · unfold pairs at h
    rw [List.length_zipWith] at h
    rw [r.len, r2.len]
    omega
@[simp] def iZipM (fa : FA) : FA := fun τ h => (fa τ h).bind fun xs h1 => match xs with
  | [.lst l, .lst m] => .ok (pairs l m) h1
  | [x, y] => match tupOf x, tupOf y with
    | some l, some m => .ok (pairs l m) h1
    | _, _ => .bad
  | _ => .bad
theorem sim_zip {ta : TA} {fa : FA} (ha : SimA G E ta fa) : SimI G E (RZ.iZipA G.K ta) (iZipM fa) := fun S σ τ R e k rs p => by
  refine ha S σ τ _ e k rs (PostG.imp (fun x S1 q u ru => ?_) (PostG.bind p))
  obtain ⟨k1, s1, q⟩ := q
  have e1 := s1.G.trans e
  split at q
  · simp only [RvL, Rv] at ru
    obtain ⟨_, _, rfl, ⟨a, vs, rfl, f1, r1⟩, _, _, rfl, ⟨b, ws, rfl, f2, r2⟩, rfl⟩ := ru
    exact ⟨a, b, vs, ws, rfl, .inl ⟨by rw [← e1]; exact sql_of f1, by rw [← e1]; exact sql_of f2, q S1 rfl k1 (Step.refl S1) _ (it_zipL e1 f1 f2 r1 r2)⟩⟩
  · split at q
    · rename_i l m hl hm
      simp only [RvL] at ru
      obtain ⟨_, _, rfl, h1, _, _, rfl, h2, rfl⟩ := ru
      obtain ⟨a, vs, rfl, hs1, r1⟩ := tup_stay e1 hl h1
      obtain ⟨b, ws, rfl, hs2, r2⟩ := tup_stay e1 hm h2
      exact ⟨a, b, vs, ws, rfl, .inr ⟨hs1 S1 (Tr.refl S1), hs2 S1 (Tr.refl S1), q S1 rfl k1 (Step.refl S1) _ (it_zipT hs1 hs2 r1 r2)⟩⟩
    · exact q.elim
  · exact q.elim
def numbered (l : List T) : List T := l.mapIdx fun i x => .tup [.int (i : Nat), x]
theorem numbered_get {l : List T} {i : Nat} {t : T} (h : (numbered l)[i]? = some t) : ∃ x, l[i]? = some x ∧ t = .tup [.int (i : Nat), x] := by
  unfold numbered at h
  rw [List.getElem?_mapIdx] at h
  obtain ⟨x, hx, rfl⟩ := Option.map_eq_some_iff.mp h
  exact ⟨x, hx, rfl⟩
@[simp] def iEnumL (fa : FA) : FA := fun τ h => (fa τ h).bind fun xs h1 => match xs with | [.lst l] => .ok (numbered l) h1 | _ => .bad
theorem sim_enumL {ta : TA} {fa : FA} (ha : SimA G E ta fa) : SimI G E (iEnum G.K ta) (iEnumL fa) := fun S σ τ R e k rs p => by
  refine ha S σ τ _ e k rs (PostG.imp (fun x S1 q u ru => ?_) (PostG.bind p))
  obtain ⟨k1, s1, q⟩ := q
  have e1 := s1.G.trans e
  split at q
  · simp only [RvL, Rv] at ru
    obtain ⟨_, _, rfl, ⟨a, vs, rfl, f, r⟩, rfl⟩ := ru
    refine ⟨a, vs, rfl, by rw [← e1]; exact sql_of f, q S1 rfl k1 (Step.refl S1) _ fun S2 st k i => ?_⟩
    have hs : SqL G.K S2.H a vs := by rw [← e1, ← st.G]; exact sql_of (st.fz _ _ f)
    refine ⟨fun t ht => ?_, fun h => ⟨vs, hs, by rw [r.len]; unfold numbered at h; rw [List.length_mapIdx] at h; exact h⟩⟩
    obtain ⟨x, hx, rfl⟩ := numbered_get ht
    obtain ⟨v, hv, rv⟩ := (r.tr st).get hx
    refine ⟨⟨vs, v, hs, hv⟩, fun z H' hy => ?_⟩
    obtain ⟨T0, x', rfl, hn, rfl, h1⟩ := hy
    have b := h1 vs hs
    rw [hv] at b; cases b
    exact new_pair k hn (by simp only [Rv]) rv
  · exact q.elim
@[simp] def iEnumTM (fa : FA) : FA := fun τ h => (fa τ h).bind fun xs h1 => match xs with | [x] => (match tupOf x with | some l => .ok (numbered l) h1 | none => .bad) | _ => .bad
theorem sim_enumT {ta : TA} {fa : FA} (ha : SimA G E ta fa) : SimI G E (ENT.iEnumT G.K ta) (iEnumTM fa) := fun S σ τ R e k rs p => by
  refine ha S σ τ _ e k rs (PostG.imp (fun x S1 q u ru => ?_) (PostG.bind p))
  obtain ⟨k1, s1, q⟩ := q
  have e1 := s1.G.trans e
  split at q
  · split at q
    · rename_i l hl
      simp only [RvL] at ru
      obtain ⟨_, _, rfl, h1, rfl⟩ := ru
      obtain ⟨a, vs, rfl, hs1, r⟩ := tup_stay e1 hl h1
      refine ⟨a, vs, rfl, hs1 S1 (Tr.refl S1), q S1 rfl k1 (Step.refl S1) _ fun S2 st k i => ?_⟩
      have hs := hs1 S2 st
      refine ⟨fun t ht => ?_, fun h => ⟨vs, hs, by rw [r.len]; unfold numbered at h; rw [List.length_mapIdx] at h; exact h⟩⟩
      obtain ⟨x, hx, rfl⟩ := numbered_get ht
      obtain ⟨v, hv, rv⟩ := (r.tr st).get hx
      refine ⟨⟨vs, v, hs, hv⟩, fun z H' hy => ?_⟩
      obtain ⟨T0, x', rfl, hn, rfl, h1⟩ := hy
      have b := h1 vs hs
      rw [hv] at b; cases b
      exact new_pair k hn (by simp only [Rv]) rv
    · exact q.elim
  · exact q.elim
/-! constants of the module -/
theorem rv_ktp {p : Addr} {l : List T} {vs : List V} (h : KT S.G.K p vs) (r : RvL S l vs) : Rv S (.ktp l) (.ref p) := by simp only [Rv]; exact ⟨p, vs, rfl, h, r⟩
/-! cleaning: what a def leaves behind its own end is dropped -/
mutual
def lt (n : Nat) : T → Bool
  | .obj i => decide (i < n)
  | .tup l => ltL n l
  | .ktp l => ltL n l
  | .lst l => ltL n l
  | .rdl l => ltL n l
  | .inst _ _ l => ltL n l
  | .dct _ l => ltL n l
  | .dctT _ l => ltL n l
  | _ => true
def ltL (n : Nat) : List T → Bool
  | [] => true
  | t :: ts => lt n t && ltL n ts
end
def ltO (n : Nat) : O → Bool
  | .lst l => ltL n l
  | .dct m => ltL n (m.map (·.2))
  | .dctT m => ltL n (m.map (·.2))
  | .ins _ m => ltL n (m.map (·.2))
/-- the first n of the tracked things -/
def Sta.cut (S : Sta) (n : Nat) : Sta := ⟨S.G, S.al.take n, S.h.take n, S.H, S.pv⟩
theorem cut_trk {n : Nat} {b : Addr} (h : Trk (S.cut n) b) : Trk S b := by
  obtain ⟨i, o, h1, h2⟩ := h
  simp only [Sta.cut] at h1 h2
  rw [List.getElem?_take] at h1 h2
  split at h1
  · rename_i hi
    rw [if_pos hi] at h2
    exact ⟨i, o, h1, h2⟩
  · cases h1
theorem cut_fz {n : Nat} {p : Addr} {o : HO} (f : Fz S p o) : Fz (S.cut n) p o := ⟨f.1, fun z => f.2 (z.imp cut_trk id)⟩
mutual
theorem rv_cut {n : Nat} : ∀ {t : T} {v : V}, Rv S t v → lt n t = true → Rv (S.cut n) t v
  | .non, v, h, _ => by simp only [Rv] at h ⊢; exact h
  | .bl b, v, h, _ => by simp only [Rv] at h ⊢; exact h
  | .int i, v, h, _ => by simp only [Rv] at h ⊢; exact h
  | .str x, v, h, _ => by simp only [Rv] at h ⊢; exact h
  | .ref a, v, h, _ => by simp only [Rv] at h ⊢; exact h
  | .tup l, v, h, q => by
    simp only [Rv] at h ⊢; simp only [lt] at q
    obtain ⟨p, vs, e, f, r⟩ := h
    exact ⟨p, vs, e, cut_fz f, rvL_cut r q⟩
  | .ktp l, v, h, q => by
    simp only [Rv] at h ⊢; simp only [lt] at q
    obtain ⟨p, vs, e, f, r⟩ := h
    exact ⟨p, vs, e, f, rvL_cut r q⟩
  | .lst l, v, h, q => by
    simp only [Rv] at h ⊢; simp only [lt] at q
    obtain ⟨p, vs, e, f, r⟩ := h
    exact ⟨p, vs, e, cut_fz f, rvL_cut r q⟩
  | .rdl l, v, h, q => by
    simp only [Rv] at h ⊢; simp only [lt] at q
    obtain ⟨p, vs, e, f, r⟩ := h
    exact ⟨p, vs, e, f.imp (fun ⟨ob, f⟩ => ⟨ob, cut_fz f⟩) (fun z => z.imp cut_fz id), rvL_cut r q⟩
  | .inst c ns l, v, h, q => by
    simp only [Rv] at h ⊢; simp only [lt] at q
    obtain ⟨p, dx, vs, e, f, n, r⟩ := h
    exact ⟨p, dx, vs, e, cut_fz f, n, rvL_cut r q⟩
  | .dct ks l, v, h, q => by
    simp only [Rv] at h ⊢; simp only [lt] at q
    obtain ⟨p, vs, e, f, n, r⟩ := h
    exact ⟨p, vs, e, f.imp cut_fz (fun ⟨od, f⟩ => ⟨od, cut_fz f⟩), n, rvL_cut r q⟩
  | .dctT ks l, v, h, q => by
    simp only [Rv] at h ⊢; simp only [lt] at q
    obtain ⟨p, vs, e, f, n, r⟩ := h
    exact ⟨p, vs, e, cut_fz f, n, rvL_cut r q⟩
  | .obj i, v, h, q => by
    simp only [Rv] at h ⊢; simp only [lt] at q
    obtain ⟨p, e, z⟩ := h
    refine ⟨p, ?_, z⟩
    simp only [Sta.cut]
    rw [List.getElem?_take, if_pos (of_decide_eq_true q)]
    exact e
theorem rvL_cut {n : Nat} : ∀ {l : List T} {vs : List V}, RvL S l vs → ltL n l = true → RvL (S.cut n) l vs
  | [], _, h, _ => by simp only [RvL] at h ⊢; exact h
  | t :: ts, vs, h, q => by
    simp only [RvL] at h ⊢; simp only [ltL, Bool.and_eq_true] at q
    obtain ⟨v, r, e, h1, h2⟩ := h
    exact ⟨v, r, e, rv_cut h1 q.1, rvL_cut h2 q.2⟩
end
theorem rvK_cut {κ : Type} {n : Nat} : ∀ {m : List (κ × T)} {vs : List (κ × V)}, RvK S m vs → ltL n (m.map (·.2)) = true → RvK (S.cut n) m vs
  | [], _, h, _ => h
  | (k, t) :: m, vs, h, q => by
    obtain ⟨v, m', rfl, h1, h2⟩ := h
    simp only [List.map_cons, ltL, Bool.and_eq_true] at q
    exact ⟨v, m', rfl, rv_cut h1 q.1, rvK_cut h2 q.2⟩
theorem ro_cut {n : Nat} {o : O} {u : HO} (r : RO S o u) (q : ltO n o = true) : RO (S.cut n) o u := by
  cases o with
  | lst l => obtain ⟨vs, e, r⟩ := r; exact ⟨vs, e, rvL_cut r q⟩
  | dct m => obtain ⟨vs, e, r⟩ := r; exact ⟨vs, e, rvK_cut r q⟩
  | dctT m => obtain ⟨vs, e, r⟩ := r; exact ⟨vs, e, rvK_cut r q⟩
  | ins c m => obtain ⟨dx, vs, e, r⟩ := r; exact ⟨dx, vs, e, rvK_cut r q⟩
mutual
theorem lt_of_rv : ∀ {t : T} {v : V}, Rv S t v → lt S.al.length t = true
  | .non, v, h => rfl
  | .bl b, v, h => rfl
  | .int i, v, h => rfl
  | .str x, v, h => rfl
  | .ref a, v, h => rfl
  | .tup l, v, h => by simp only [Rv] at h; simp only [lt]; obtain ⟨p, vs, e, f, r⟩ := h; exact ltL_of_rv r
  | .ktp l, v, h => by simp only [Rv] at h; simp only [lt]; obtain ⟨p, vs, e, f, r⟩ := h; exact ltL_of_rv r
  | .lst l, v, h => by simp only [Rv] at h; simp only [lt]; obtain ⟨p, vs, e, f, r⟩ := h; exact ltL_of_rv r
  | .rdl l, v, h => by simp only [Rv] at h; simp only [lt]; obtain ⟨p, vs, e, f, r⟩ := h; exact ltL_of_rv r
  | .inst c ns l, v, h => by simp only [Rv] at h; simp only [lt]; obtain ⟨p, dx, vs, e, f, n, r⟩ := h; exact ltL_of_rv r
  | .dct ks l, v, h => by simp only [Rv] at h; simp only [lt]; obtain ⟨p, vs, e, f, n, r⟩ := h; exact ltL_of_rv r
  | .dctT ks l, v, h => by simp only [Rv] at h; simp only [lt]; obtain ⟨p, vs, e, f, n, r⟩ := h; exact ltL_of_rv r
  | .obj i, v, h => by simp only [Rv] at h; simp only [lt]; obtain ⟨p, e, z⟩ := h; exact decide_eq_true (List.getElem?_eq_some_iff.mp e).1
theorem ltL_of_rv : ∀ {l : List T} {vs : List V}, RvL S l vs → ltL S.al.length l = true
  | [], _, h => rfl
  | t :: ts, vs, h => by
    simp only [RvL] at h; simp only [ltL, Bool.and_eq_true]
    obtain ⟨v, r, e, h1, h2⟩ := h
    exact ⟨lt_of_rv h1, ltL_of_rv h2⟩
end
theorem ltK_of_rv {κ : Type} : ∀ {m : List (κ × T)} {vs : List (κ × V)}, RvK S m vs → ltL S.al.length (m.map (·.2)) = true
  | [], _, _ => rfl
  | (k, t) :: m, vs, h => by
    obtain ⟨v, m', rfl, h1, h2⟩ := h
    simp only [List.map_cons, ltL, Bool.and_eq_true]
    exact ⟨lt_of_rv h1, ltK_of_rv h2⟩
theorem ltO_of_ro {o : O} {u : HO} (r : RO S o u) : ltO S.al.length o = true := by
  cases o with
  | lst l => obtain ⟨vs, e, r⟩ := r; exact ltL_of_rv r
  | dct m => obtain ⟨vs, e, r⟩ := r; exact ltK_of_rv r
  | dctT m => obtain ⟨vs, e, r⟩ := r; exact ltK_of_rv r
  | ins c m => obtain ⟨dx, vs, e, r⟩ := r; exact ltK_of_rv r
mutual
theorem lt_le {n m : Nat} (h : n ≤ m) : ∀ {t : T}, lt n t = true → lt m t = true
  | .non, _ => rfl
  | .bl b, _ => rfl
  | .int i, _ => rfl
  | .str x, _ => rfl
  | .ref a, _ => rfl
  | .tup l, q => by simp only [lt] at q ⊢; exact ltL_le h q
  | .ktp l, q => by simp only [lt] at q ⊢; exact ltL_le h q
  | .lst l, q => by simp only [lt] at q ⊢; exact ltL_le h q
  | .rdl l, q => by simp only [lt] at q ⊢; exact ltL_le h q
  | .inst c ns l, q => by simp only [lt] at q ⊢; exact ltL_le h q
  | .dct ks l, q => by simp only [lt] at q ⊢; exact ltL_le h q
  | .dctT ks l, q => by simp only [lt] at q ⊢; exact ltL_le h q
  | .obj i, q => by simp only [lt] at q ⊢; exact decide_eq_true (Nat.lt_of_lt_of_le (of_decide_eq_true q) h)
theorem ltL_le {n m : Nat} (h : n ≤ m) : ∀ {l : List T}, ltL n l = true → ltL m l = true
  | [], _ => rfl
  | t :: ts, q => by
    simp only [ltL, Bool.and_eq_true] at q ⊢
    exact ⟨lt_le h q.1, ltL_le h q.2⟩
end
theorem ltO_le {n m : Nat} (h : n ≤ m) {o : O} (q : ltO n o = true) : ltO m o = true := by
  cases o <;> exact ltL_le h q
/-- r is q, but for tracked things at its end that nobody knows -/
def Clean {α : Type} (lq : Nat → α → Bool) (h : AH) (r q : Res α) : Prop := match q with
  | .bad => True
  | .ok a h' => ∃ j, r = .ok a (h' ++ j) ∧ h.length ≤ h'.length ∧ lq h'.length a = true ∧ ∀ (i : Nat) (o : O), h'[i]? = some (some o) → h[i]? = some (some o) ∨ ltO h'.length o = true
  | .exc e h' => ∃ j, r = .exc e (h' ++ j) ∧ h.length ≤ h'.length ∧ ltL h'.length e.l = true ∧ ∀ (i : Nat) (o : O), h'[i]? = some (some o) → h[i]? = some (some o) ∨ ltO h'.length o = true
theorem cut_ok {S1 : Sta} {h' j : AH} (k0 : Ok S) (k : Ok S1) (st : Step S S1) (e : S1.h = h' ++ j) (hl : S.h.length ≤ h'.length) (ho : ∀ (i : Nat) (o : O), h'[i]? = some (some o) → S.h[i]? = some (some o) ∨ ltO h'.length o = true) : (S1.cut h'.length).h = h' ∧ Ok (S1.cut h'.length) ∧ Step S (S1.cut h'.length) := by
  have eh : (S1.cut h'.length).h = h' := by show S1.h.take _ = _; rw [e, List.take_left]
  have hal : h'.length ≤ S1.al.length := by rw [k.len, e, List.length_append]; omega
  have small : ∀ (i : Nat) (o : O), h'[i]? = some (some o) → ltO h'.length o = true := fun i o hi => by
    rcases ho i o hi with z | z
    · obtain ⟨p, hp⟩ := k0.addr z
      obtain ⟨u, _, r⟩ := k0.rel i o p z hp
      exact ltO_le (by rw [k0.len]; exact hl) (ltO_of_ro r)
    · exact z
  have back : ∀ (i : Nat) (o : O), (S1.cut h'.length).h[i]? = some (some o) → S1.h[i]? = some (some o) ∧ h'[i]? = some (some o) := fun i o hi => by
    rw [eh] at hi
    refine ⟨?_, hi⟩
    rw [e, List.getElem?_append_left (List.getElem?_eq_some_iff.mp hi).1]
    exact hi
  have backA : ∀ (i : Nat) (p : Addr), (S1.cut h'.length).al[i]? = some p → S1.al[i]? = some p := fun i p hi => by
    simp only [Sta.cut] at hi
    rw [List.getElem?_take] at hi
    split at hi
    · exact hi
    · cases hi
  refine ⟨eh, ⟨?_, fun i o p h1 h2 => ?_, fun i j' o o' p h1 h2 h3 h4 => ?_, fun q hq => ?_⟩, ⟨st.G, ?_, st.keep, fun b z => st.own b (z.imp cut_trk id), st.pv, st.pk⟩⟩
  · rw [eh]; simp only [Sta.cut]; rw [List.length_take]; omega
  · obtain ⟨b1, b2⟩ := back i o h1
    obtain ⟨u, hu, r⟩ := k.rel i o p b1 (backA i p h2)
    exact ⟨u, hu, ro_cut r (small i o b2)⟩
  · exact k.inj i j' o o' p (back i o h1).1 (back j' o' h2).1 (backA i p h3) (backA j' p h4)
  · exact ⟨(k.priv q hq).1, fun z => (k.priv q hq).2 (cut_trk z)⟩
  · have pre := st.al
    rw [List.prefix_iff_eq_take] at pre
    have hle : S.al.length ≤ h'.length := by rw [k0.len]; exact hl
    show S.al <+: S1.al.take h'.length
    rw [pre]
    exact List.take_prefix_take_left hle
theorem Clean.post {h : AH} {r q : Res T} {X : Exc → Sta → Prop} {P : T → Sta → Prop} {E' : XK} {Q : VK} (k0 : Ok S) (eh : S.h = h) (c : Clean lt h r q) (p : PostG S (XP E') (fun t S' => ∀ v, Rv S' t v → Q v S'.H) q) : PostG S (XP E') (fun t S' => ∀ v, Rv S' t v → Q v S'.H) r := by
  subst eh
  cases q with
  | bad => exact p.elim
  | ok a h' =>
    obtain ⟨j, rfl, hl, ha, ho⟩ := c
    intro S1 e k st v rv
    obtain ⟨e2, k2, st2⟩ := cut_ok k0 k st e hl ho
    exact p (S1.cut h'.length) e2 k2 st2 v (rv_cut rv ha)
  | exc x h' =>
    obtain ⟨j, rfl, hl, ha, ho⟩ := c
    intro S1 e k st cls d rx
    obtain ⟨e2, k2, st2⟩ := cut_ok k0 k st e hl ho
    refine p (S1.cut h'.length) e2 k2 st2 cls d ?_
    obtain ⟨r1, r2⟩ := rx
    refine ⟨r1, r2.imp id fun ⟨a, vs, h1, h2, h3, h4⟩ => ⟨a, vs, h1, cut_fz h2, h3, rvL_cut h4 ha⟩⟩
/-- a def's promise by a cleaner mirror -/
theorem sp_clean {n : Nat} {m p : List T → AH → Res T} (hc : ∀ ts h, ts.length = n → Clean lt h (m ts h) (p ts h)) : ∀ vs H Q E, spM G n p vs H Q E → spM G n m vs H Q E := fun vs H Q E h => by
  obtain ⟨S, ts, e, k, rfl, rl, hn, q⟩ := h
  exact ⟨S, ts, e, k, rfl, rl, hn, Clean.post (P := fun _ _ => True) (X := fun _ _ => True) k rfl (hc ts S.h hn) q⟩
/-! the law's end -/
def FUEL : Nat := 1000000
def spLaw (K : PySem.W.Frag) : Sp := fun vs H Q _ => ∃ (a : Addr) (ns : List Int), vs = [.ref a] ∧ SqL K H a (ns.map V.int) ∧ ns.length ≤ 63 ∧ ∀ H', Q (.bl true) H'
theorem RvL.ofInts {S : Sta} : ∀ ns : List Int, RvL S (ns.map T.int) (ns.map V.int)
  | [] => RvL.nil
  | n :: ns => RvL.cons (by simp only [Rv]) (RvL.ofInts ns)
theorem law_end {P : Program} {w : World} {K : PySem.W.Frag} {mg : Str → Option Value} {k : Nat} {fa0 : Addr} {ps : List Str} {m : List T → AH → Res T} {R : FuncData → Prop} (ht : ∀ ns : List Int, ns.length ≤ 63 → ∃ h', m [.rdl (ns.map .int)] [] = .ok (.bl true) h')
    (h : ∃ fd : FuncData, R fd ∧ ∃ G : Env, G.K = K ∧ ∀ base : Heap, K.In base → base.Ns mainGlobals mg → FnOk P w K mg base CX0 k fa0 fd ps (spM G 1 m)) :
    ∃ fd : FuncData, R fd ∧ ∀ base : Heap, K.In base → base.Ns mainGlobals mg → FnOk P w K mg base CX0 k fa0 fd ps (spLaw K) := by
  obtain ⟨fd, r, G, rfl, h⟩ := h
  refine ⟨fd, r, fun base a b => FnOk.imp (h base a b) fun vs H Q E q => ?_⟩
  obtain ⟨p, ns, rfl, hs, hl, q⟩ := q
  obtain ⟨h', hm⟩ := ht ns hl
  refine ⟨⟨G, [], [], H, []⟩, [.rdl (ns.map .int)], rfl, ⟨rfl, fun i o p h1 => by simp at h1, fun i j o o' p h1 => by simp at h1, fun q hq => by simp at hq⟩, rfl, RvL.cons ?_ RvL.nil, rfl, ?_⟩
  · simp only [Rv]
    have no : ¬ Own (⟨G, [], [], H, []⟩ : Sta) p := fun z => by
      rcases z with ⟨i, o, h1, _⟩ | z
      · simp at h1
      · simp at z
    refine ⟨p, _, rfl, ?_, RvL.ofInts ns⟩
    rcases hs with (hs | ⟨ob, hs⟩) | hs
    · exact .inr (.inl ⟨hs, no⟩)
    · exact .inl ⟨ob, hs, no⟩
    · exact .inr (.inr hs)
  · rw [hm]
    intro S' e k st v rv
    simp only [Rv] at rv
    subst rv
    exact q _
end M
/-! ### loops, step by step -/
namespace M
open PySem PySem.Spec PyProof.Rows L2
section
variable {f : FT} {b : FS} {n : Nat} {τ τ' : LS} {h h1 h2 : AH} {t : T} {e : Exc}
theorem while_nx (hc : f τ h = .ok true h1) (hb : b τ h1 = .ok (.nx τ') h2) : sWhile f b (n + 1) τ h = sWhile f b n τ' h2 := by
  show liftE (f τ h) τ _ = _
  rw [hc]
  show (b τ h1).bind _ = _
  rw [hb]; rfl
theorem while_ct (hc : f τ h = .ok true h1) (hb : b τ h1 = .ok (.ct τ') h2) : sWhile f b (n + 1) τ h = sWhile f b n τ' h2 := by
  show liftE (f τ h) τ _ = _
  rw [hc]
  show (b τ h1).bind _ = _
  rw [hb]; rfl
theorem while_rt (hc : f τ h = .ok true h1) (hb : b τ h1 = .ok (.rt t) h2) : sWhile f b (n + 1) τ h = .ok (.rt t) h2 := by
  show liftE (f τ h) τ _ = _
  rw [hc]
  show (b τ h1).bind _ = _
  rw [hb]; rfl
theorem while_bk (hc : f τ h = .ok true h1) (hb : b τ h1 = .ok (.bk τ') h2) : sWhile f b (n + 1) τ h = .ok (.nx τ') h2 := by
  show liftE (f τ h) τ _ = _
  rw [hc]
  show (b τ h1).bind _ = _
  rw [hb]; rfl
theorem while_end (hc : f τ h = .ok false h1) : sWhile f b (n + 1) τ h = .ok (.nx τ) h1 := by
  show liftE (f τ h) τ _ = _
  rw [hc]; rfl
variable {a : FG} {x : T} {xs : List T} {τ1 : LS}
theorem for_nil : sForL a b [] τ h = .ok (.nx τ) h := rfl
theorem for_cons (ha : a x τ = some τ1) : sForL a b (x :: xs) τ h = (b τ1 h).bind fun fl h1 => match fl with
      | .nx τ2 => sForL a b xs τ2 h1
      | .ct τ2 => sForL a b xs τ2 h1
      | .bk τ2 => .ok (.nx τ2) h1
      | fl => .ok fl h1 := by
  show (match a x τ with | some τ' => _ | none => _) = _
  rw [ha] <;> rfl
theorem for_nx (ha : a x τ = some τ1) (hb : b τ1 h = .ok (.nx τ') h1) : sForL a b (x :: xs) τ h = sForL a b xs τ' h1 := by
  rw [for_cons ha, hb]; rfl
theorem for_ct (ha : a x τ = some τ1) (hb : b τ1 h = .ok (.ct τ') h1) : sForL a b (x :: xs) τ h = sForL a b xs τ' h1 := by
  rw [for_cons ha, hb]; rfl
theorem for_rt (ha : a x τ = some τ1) (hb : b τ1 h = .ok (.rt t) h1) : sForL a b (x :: xs) τ h = .ok (.rt t) h1 := by
  rw [for_cons ha, hb]; rfl
theorem for_bk (ha : a x τ = some τ1) (hb : b τ1 h = .ok (.bk τ') h1) : sForL a b (x :: xs) τ h = .ok (.nx τ') h1 := by
  rw [for_cons ha, hb]; rfl
/-- a for whose turns keep Pv -/
theorem for_all {l : List T} (Pv : List T → LS → AH → Prop) (h0 : Pv l τ h) (hs : ∀ x xs τ h, Pv (x :: xs) τ h → ∃ τ1 τ' h', a x τ = some τ1 ∧ (b τ1 h = .ok (.nx τ') h' ∨ b τ1 h = .ok (.ct τ') h') ∧ Pv xs τ' h') : ∃ τ' h', sForL a b l τ h = .ok (.nx τ') h' ∧ Pv [] τ' h' := by
  induction l generalizing τ h with
  | nil => exact ⟨τ, h, rfl, h0⟩
  | cons x xs ih =>
    obtain ⟨τ1, τ', h', ha, hb, hP⟩ := hs x xs τ h h0
    obtain ⟨τ2, h2, e, q⟩ := ih hP
    refine ⟨τ2, h2, ?_, q⟩
    rw [← e]
    rcases hb with hb | hb
    · exact for_nx ha hb
    · exact for_ct ha hb
end
end M
/-! ### what is never reached, stars, reversed, dict displays -/
namespace M
open PySem PySem.Spec PyProof.Rows L2
variable {G : Env} {E : L2.St → XK} {S : Sta} {W : WX}
/-! what the mirror never reaches -/
theorem ps_nev {X : Cx} {st : Stmt} : PS X st (fun _ _ _ => False) := ⟨fun _ _ _ _ _ _ h => h.elim⟩
theorem pe_nev {X : Cx} {e : Expr} : PE X e (fun _ _ _ => False) := ⟨fun _ _ _ _ _ _ h => h.elim⟩
theorem pt_nev {X : Cx} {e : Expr} : PT X e (fun _ _ _ => False) := ⟨fun _ _ _ _ _ _ h => h.elim⟩
@[simp] def mBad : FE := fun _ _ => .bad
@[simp] def tBad : FT := fun _ _ => .bad
@[simp] def sBad : FS := fun _ _ => .bad
theorem sim_bad {te : TE} : SimE G E te mBad := fun _ _ _ _ _ _ _ p => p.elim
theorem sim_badT {te : TT} : SimT G E te tBad := fun _ _ _ _ _ _ _ p => p.elim
theorem sim_badS {te : TS} : SimS G W te sBad := fun _ _ _ _ _ _ _ p => p.elim
/-! [*xs, ..] -/
@[simp] def mStar (fe : FE) (fr : FA) : FA := fun τ h => (fe τ h).bind fun x h1 => (pur (seqOf x h1) h1).bind fun l h1 => (fr τ h1).bind fun ys h2 => .ok (l ++ ys) h2
theorem x_star {X : Cx} {K : PySem.W.Frag} (h : X.K = K) {e : Expr} {es : List Expr} {te : TE} {t : TA} {p : Pos} (he : PE X e te) (hr : PA X es t) (hs : starEach (.Starred e p :: es) X.env = (true, eval e X.env) :: starEach es X.env := by rfl) : PA X (.Starred e p :: es) (StX.tStar K te t) := h ▸ StX.pa_star he hr hs
theorem sim_star {te : TE} {fe : FE} {tr : TA} {fr : FA} (ha : SimE G E te fe) (hb : SimA G E tr fr) : SimA G E (StX.tStar G.K te tr) (mStar fe fr) := fun S σ τ Q e k rs p => by
  refine ha S σ τ _ e k rs (PostG.imp (fun x S1 q u ru => ?_) (PostG.bind p))
  obtain ⟨k1, s1, q⟩ := q
  unfold pur at q
  split at q
  · rename_i l hl
    obtain ⟨a, vs, rfl, hs, rl⟩ := seqOf_ok k1 hl ru
    rw [s1.G.trans e] at hs
    refine ⟨a, vs, rfl, hs.symm, ?_⟩
    refine hb S1 σ τ _ (s1.G.trans e) k1 (rs.mono s1) (PostG.imp (fun y S2 q v rv => ?_) (PostG.bind q))
    obtain ⟨k2, s2, q⟩ := q
    exact q S2 rfl k2 (Step.refl S2) _ ((rl.mono s2).app rv)
  · exact q.elim
/-! reversed -/
theorem rev_get {l : List T} {i : Nat} {x : T} (h : l.reverse[i]? = some x) : i < l.length ∧ l[l.length - 1 - i]? = some x := by
  have hl := (List.getElem?_eq_some_iff.mp h).1
  rw [List.length_reverse] at hl
  rw [List.getElem?_reverse hl] at h
  exact ⟨hl, h⟩
@[simp] def iRevM (fe : FE) : FA := fun τ h => (fe τ h).bind fun x h1 => match x with
  | .lst l => .ok l.reverse h1
  | x => match tupOf x with | some l => .ok l.reverse h1 | none => .bad
theorem x_rev {X : Cx} {K : PySem.W.Frag} (h : X.K = K) {tg e : Expr} {te : TE} {p pos : Pos} (hg : Gl X "reversed") (hm : X.mg "reversed" = none) (he : PE X e te) (hs : starEach [e] X.env = (false, eval e X.env) :: starEach [] X.env := by rfl) : PI X tg (.Call (.Name "reversed" p) [e] [] pos) (RT.iRevA K te) := h ▸ RT.pi_revA hg hm he hs
theorem sim_rev {te : TE} {fe : FE} (he : SimE G E te fe) : SimI G E (RT.iRevA G.K te) (iRevM fe) := fun S σ τ R e k rs p => by
  refine he S σ τ _ e k rs (PostG.imp (fun x S1 q u ru => ?_) (PostG.bind p))
  obtain ⟨k1, s1, q⟩ := q
  have e1 := s1.G.trans e
  split at q
  · rename_i l
    simp only [Rv] at ru
    obtain ⟨p, vs, rfl, f, rl⟩ := ru
    refine ⟨p, vs, rfl, .inl ⟨by rw [← e1]; exact sql_of f, q S1 rfl k1 (Step.refl S1) _ fun S2 st k i => ?_⟩⟩
    have hs : SqL G.K S2.H p vs := by rw [← e1, ← st.G]; exact sql_of (st.fz _ _ f)
    refine ⟨fun t ht => ?_, fun h => by rw [List.length_reverse] at h; show vs.length ≤ i; rw [rl.len]; exact h⟩
    obtain ⟨hi, ht⟩ := rev_get ht
    obtain ⟨v, hv, rv⟩ := (rl.tr st).get ht
    rw [← rl.len] at hv hi
    refine ⟨⟨hi, vs, v, hs, hv⟩, fun w H' hy => ?_⟩
    obtain ⟨rfl, hy⟩ := hy
    have := hy vs hs
    rw [hv] at this; cases this
    exact ⟨S2, rfl, rfl, k, Step.refl S2, rv⟩
  · split at q
    · rename_i l hl
      obtain ⟨p, vs, rfl, hs, rl⟩ := tup_stay e1 hl ru
      refine ⟨p, vs, rfl, .inr ⟨hs S1 (Tr.refl S1), q S1 rfl k1 (Step.refl S1) _ fun S2 st k i => ?_⟩⟩
      have hs := hs S2 st
      refine ⟨fun t ht => ?_, fun h => by rw [List.length_reverse] at h; show vs.length ≤ i; rw [rl.len]; exact h⟩
      obtain ⟨hi, ht⟩ := rev_get ht
      obtain ⟨v, hv, rv⟩ := (rl.tr st).get ht
      rw [← rl.len] at hv hi
      refine ⟨⟨hi, vs, v, hs, hv⟩, fun w H' hy => ?_⟩
      obtain ⟨rfl, hy⟩ := hy
      have := hy vs hs
      rw [hv] at this; cases this
      exact ⟨S2, rfl, rfl, k, Step.refl S2, rv⟩
    · exact q.elim
/-! {k: v, ..} -/
def mPairs : List (FE × FE) → LS → AH → Res (List (Key × T))
  | [], _, h => .ok [] h
  | (fk, fv) :: r, τ, h => (fk τ h).bind fun x h1 => (fv τ h1).bind fun y h2 => match keyOf x with
    | some k => (mPairs r τ h2).bind fun ps h3 => .ok ((k, y) :: ps) h3
    | none => .bad
def mergeT (m more : List (Key × T)) : List (Key × T) := more.foldl (fun acc kv => putT acc kv.1 kv.2) m
theorem RvK.merge : ∀ {more : List (Key × T)} {ws : List (Key × V)} {m : List (Key × T)} {vs : List (Key × V)}, RvK S more ws → RvK S m vs → RvK S (mergeT m more) (mergeK vs ws)
  | [], ws, m, vs, r, q => by rw [show ws = [] from r]; exact q
  | (k, t) :: more, ws, m, vs, r, q => by
    obtain ⟨v, m', rfl, h1, h2⟩ := r
    exact RvK.merge (more := more) (ws := m') (m := putT m k t) h2 (q.put k h1)
inductive SimP (G : Env) (E : L2.St → XK) : List (TE × TE) → List (FE × FE) → Prop
  | nil : SimP G E [] []
  | cons {tk tv : TE} {fk fv : FE} {tr : List (TE × TE)} {fr : List (FE × FE)} : SimE G E tk fk → SimE G E tv fv → SimP G E tr fr → SimP G E ((tk, tv) :: tr) ((fk, fv) :: fr)
theorem pairs_ok {tr : List (TE × TE)} {fr : List (FE × FE)} (hp : SimP G E tr fr) : ∀ (S : Sta) (σ : L2.St) (τ : LS) (Q : List (V × V) → Hp → Prop), S.G = G → Ok S → RS S τ σ →
    PostG S (XP (E σ)) (fun m S' => ∀ ws, RvK S' m ws → Q (ws.map fun kv => (kV kv.1, kv.2)) S'.H) (mPairs fr τ S.h) → tPairs tr σ S.H Q := by
  induction hp with
  | nil => exact fun S σ τ Q e k rs p => p S rfl k (Step.refl S) [] rfl
  | cons hk hv hr ih =>
    intro S σ τ Q e k rs p
    refine hk S σ τ _ e k rs (PostG.imp (fun x S1 q u ru => ?_) (PostG.bind p))
    obtain ⟨k1, s1, q⟩ := q
    refine hv S1 σ τ _ (s1.G.trans e) k1 (rs.mono s1) (PostG.imp (fun y S2 q v rv => ?_) (PostG.bind q))
    obtain ⟨k2, s2, q⟩ := q
    split at q
    · rename_i ky hky
      refine ih S2 σ τ _ (s2.G.trans (s1.G.trans e)) k2 (rs.mono (s1.trans s2)) (PostG.imp (fun ps S3 q ws rw' => ?_) (PostG.bind q))
      obtain ⟨k3, s3, q⟩ := q
      have := q S3 rfl k3 (Step.refl S3) ((ky, v) :: ws) ⟨v, ws, rfl, rv.mono s3, rw'⟩
      rw [keyOf_ok ru hky]
      exact this
    · exact q.elim
/-- {k: v, ..}: a tree, or a dict that will change -/
@[simp] def mDisp (fr : List (FE × FE)) : FE := fun τ h => (mPairs fr τ h).bind fun ps h1 => if ps.length ≤ 15 then .ok (.dct ((mergeT [] ps).map (·.1)) ((mergeT [] ps).map (·.2))) h1 else .bad
@[simp] def mDispO (fr : List (FE × FE)) : FE := fun τ h => (mPairs fr τ h).bind fun ps h1 => if ps.length ≤ 15 then .ok (.obj h1.length) (h1 ++ [some (.dct (mergeT [] ps))]) else .bad
theorem rv_dct {p : Addr} {m : List (Key × T)} {vs : List (Key × V)} (f : Fz S p (.dK vs)) (r : RvK S m vs) : Rv S (.dct (m.map (·.1)) (m.map (·.2))) (.ref p) := by
  obtain ⟨ws, rfl, rl⟩ := r.unzip
  simp only [Rv]
  exact ⟨p, ws, rfl, .inl f, by rw [List.length_map, List.length_map], rl⟩
theorem disp_all {tr : List (TE × TE)} {fr : List (FE × FE)} (hp : SimP G ET tr fr) (S : Sta) (σ : L2.St) (τ : LS) (Q : VK) (e : S.G = G) (k : Ok S) (rs : RS S τ σ) (fin : List (Key × T) → AH → Res T)
    (p : PostG S (fun _ _ => True) (fun t S' => ∀ v, Rv S' t v → Q v S'.H) ((mPairs fr τ S.h).bind fun ps h1 => if ps.length ≤ 15 then fin (mergeT [] ps) h1 else .bad))
    (hfin : ∀ (S0 S : Sta) (m : List (Key × T)) (ws : List (Key × V)) (D : Addr), S0.G = G → Ok S0 → Ok S → Priv S0 S D → S.H D = some (.dK ws) → RvK S m ws → PostG S0 (fun _ _ => True) (fun t S' => ∀ v, Rv S' t v → Q v S'.H) (fin m S.h) → Q (.ref D) S.H) : tDisp tr σ S.H Q := by
  intro D hD
  have k1 := ok_hide (u := .dK []) k hD
  have x1 := Priv.start (u := .dK []) k hD
  refine pairs_ok hp (S.hide D (upd S.H D (.dK []))) σ τ _ e k1 (RS.tr x1.tr rs) (PostG.exc (fun _ _ _ _ _ _ => trivial) (PostG.imp (fun ps S2 q ws rw' => ?_) (Pnd.post (S := S.hide D (upd S.H D (.dK []))) (PostG.pnd (S := S) p))))
  obtain ⟨k2, s2, q⟩ := q
  have x2 := x1.step k k1 k2 s2
  have hD2 : S2.H D = some (.dK []) := (s2.pk D List.mem_cons_self).trans upd_same
  split at q
  · rename_i h15
    refine ⟨hD2, ws, rfl, by rw [rw'.len]; exact h15, ?_⟩
    have hm : D ∈ S2.pv := by rw [x2.pv]; exact List.mem_cons_self
    have k3 := ok_fill (u := .dK (mergeK [] ws)) k2 hm
    have x3 := x2.fill (u := .dK (mergeK [] ws)) k
    exact hfin S (S2.fill (upd S2.H D (.dK (mergeK [] ws)))) (mergeT [] ps) _ D e k k3 x3 upd_same ((RvK.merge (m := []) (vs := []) rw' rfl).tr (tr_fill hm)) q
  · exact q.elim
theorem sim_disp {tr : List (TE × TE)} {fr : List (FE × FE)} (hp : SimP G ET tr fr) : SimE G E (tDisp tr) (mDisp fr) := fun S σ τ Q e k rs p => by
  refine disp_all hp S σ τ Q e k rs (fun m h1 => .ok (.dct (m.map (·.1)) (m.map (·.2))) h1) (PostG.exc (fun _ _ _ => trivial) p) fun S0 S m ws D _ k0 k x hD r q => ?_
  have e := x.pv
  exact q (S.show S0.pv) rfl (ok_show k e) x.st _ (rv_dct ⟨hD, x.nown k0 k⟩ (r.tr (tr_show e)))
theorem sim_dispO {tr : List (TE × TE)} {fr : List (FE × FE)} (hp : SimP G ET tr fr) : SimE G E (tDisp tr) (mDispO fr) := fun S σ τ Q e k rs p => by
  refine disp_all hp S σ τ Q e k rs (fun m h1 => .ok (.obj h1.length) (h1 ++ [some (.dct m)])) (PostG.exc (fun _ _ _ => trivial) p) fun S0 S m ws D _ k0 k x hD r q => ?_
  obtain ⟨k', st⟩ := x.adopt (o := .dct m) k0 k hD ⟨_, rfl, r⟩
  exact q (S.adopt S0.pv D _) rfl k' st _ (by simp only [Rv]; exact ⟨D, by simp [Sta.adopt, k.len], rfl⟩)
end M
/-! ### bits put into a word -/
namespace M
open PySem PySem.Spec PyProof.Rows L2 PySem.W
theorem band_zero : ∀ y : Int, Builtin.bitAnd 0 y = 0 := fun y => by
  rw [bitAnd_comm]
  have := kbt_mask y 0
  simpa using this
theorem kb0 (x y : Int) : ((if x % 2 = 1 ∧ y % 2 = 1 then 1 else 0 : Int) = 0 ∧ ¬ (x % 2 = 1 ∧ y % 2 = 1)) ∨ ((if x % 2 = 1 ∧ y % 2 = 1 then 1 else 0 : Int) = 1 ∧ x % 2 = 1 ∧ y % 2 = 1) := by
  split
  · rename_i h; exact .inr ⟨rfl, h⟩
  · rename_i h; exact .inl ⟨rfl, h⟩
theorem p2s (k : Nat) : (2 : Int) ^ (k + 1) = 2 * 2 ^ k := Int.pow_succ' _ _
theorem band_not_n (y : Int) : ∀ (n : Nat) (w y : Int), 0 ≤ w → w < n → Builtin.bitAnd w (-y - 1) + Builtin.bitAnd w y = w := by
  intro n
  induction n with
  | zero => intro w y h1 h2; omega
  | succ n ih =>
    intro w y h1 h2
    by_cases z : w = 0
    · subst z; rw [band_zero, band_zero]; rfl
    · have a := kbt_halves w (-y - 1)
      have b := kbt_halves w y
      have c := ih (w / 2) (y / 2) (by omega) (by omega)
      have e : (-y - 1) / 2 = -(y / 2) - 1 := by omega
      rw [e] at a
      rcases kb0 w (-y - 1) with ⟨q, q'⟩ | ⟨q, q'⟩ <;> rcases kb0 w y with ⟨r, r'⟩ | ⟨r, r'⟩ <;> rw [q] at a <;> rw [r] at b <;> omega
theorem band_not {w y : Int} (h : 0 ≤ w) : Builtin.bitAnd w (Builtin.bitNot y) = w - Builtin.bitAnd w y := by
  have := band_not_n y (w.toNat + 1) w y h (by omega)
  rw [kbt_not]; omega
theorem band_sh : ∀ (k : Nat) (x y : Int), Builtin.bitAnd x (y * 2 ^ k) = Builtin.bitAnd (x / 2 ^ k) y * 2 ^ k
  | 0, x, y => by simp
  | k + 1, x, y => by
    have a := kbt_halves x (y * 2 ^ (k + 1))
    have e1 : y * 2 ^ (k + 1) = 2 * (y * 2 ^ k) := by rw [p2s, Int.mul_left_comm]
    have e2 : y * 2 ^ (k + 1) / 2 = y * 2 ^ k := by rw [e1]; omega
    have e3 : y * 2 ^ (k + 1) % 2 = 0 := by rw [e1]; omega
    have e4 : x / 2 ^ (k + 1) = x / 2 / 2 ^ k := by rw [p2s, Int.ediv_ediv_of_nonneg (by decide)]
    have e5 : Builtin.bitAnd (x / 2 / 2 ^ k) y * 2 ^ (k + 1) = 2 * (Builtin.bitAnd (x / 2 / 2 ^ k) y * 2 ^ k) := by rw [p2s, Int.mul_left_comm]
    rw [e2, e3, band_sh k (x / 2) y] at a
    rw [a, e4, e5]
    have : ¬ (x % 2 = 1 ∧ (0 : Int) = 1) := by omega
    rw [if_neg this]; omega
theorem band_lo : ∀ (k : Nat) (x y : Int), x % 2 ^ k = 0 → 0 ≤ y → y < 2 ^ k → Builtin.bitAnd x y = 0
  | 0, x, y, _, h1, h2 => by
    have : y = 0 := by simp at h2; omega
    subst this; rw [bitAnd_comm, band_zero]
  | k + 1, x, y, h0, h1, h2 => by
    have a := kbt_halves x y
    have hp := kbt_pos k
    rw [p2s] at h0 h2
    have hx : x % 2 = 0 := by
      have := Int.emod_emod_of_dvd x (Int.dvd_mul_right 2 (2 ^ k)); rw [h0] at this; omega
    have hx2 : x / 2 % 2 ^ k = 0 := by
      have d : 2 * 2 ^ k ∣ x := Int.dvd_of_emod_eq_zero h0
      obtain ⟨c, rfl⟩ := d
      rw [Int.mul_assoc, Int.mul_ediv_cancel_left _ (by decide)]
      exact Int.mul_emod_right _ _
    rw [band_lo k (x / 2) (y / 2) hx2 (by omega) (by omega)] at a
    have : ¬ (x % 2 = 1 ∧ y % 2 = 1) := by omega
    rw [if_neg this] at a; omega
/-- a field that is empty takes a number's bits -/
theorem setf {w x : Int} {many pos : Nat} (h : 0 ≤ w) (hz : w / 2 ^ pos % 2 ^ many = 0) : Builtin.bitOr (Builtin.bitAnd w (Builtin.bitNot ((2 ^ many - 1) * 2 ^ pos))) (Builtin.bitAnd x (2 ^ many - 1) * 2 ^ pos) = w + x % 2 ^ many * 2 ^ pos := by
  have hm := kbt_pos many
  rw [band_not h, band_sh, kbt_mask, kbt_mask, hz, Int.zero_mul, Int.sub_zero, bitOr_and, band_sh, band_lo many _ _ hz (Int.emod_nonneg _ (by omega)) (Int.emod_lt_of_pos _ hm)]
  omega
/-- bits put beside -/
theorem bor_add {w x : Int} {pos : Nat} (h : 0 ≤ w) (hw : w < 2 ^ pos) : Builtin.bitOr w (x * 2 ^ pos) = w + x * 2 ^ pos := by
  have e : w / 2 ^ pos = 0 := Int.ediv_eq_zero_of_lt h hw
  rw [bitOr_and, band_sh, e, band_zero]; omega
/-! letting go of plain lists -/
@[simp] def isObj : T → Bool | .obj _ => true | _ => false
theorem frz_no {n : Nat} {h : AH} {t : T} (ht : isObj t = false) : frz n h t = (t, h) := by
  cases n with
  | zero => rfl
  | succ n => cases t <;> first | rfl | cases ht
theorem frzL_no {n : Nat} {h : AH} : ∀ {l : List T}, (∀ t ∈ l, isObj t = false) → frzL (frz n) h l = (l, h)
  | [], _ => rfl
  | t :: ts, hl => by
    have e := frz_no (n := n) (h := h) (hl t List.mem_cons_self)
    have r := frzL_no (n := n) (h := h) (l := ts) fun t ht => hl t (List.mem_cons_of_mem _ ht)
    unfold frzL
    rw [e]
    dsimp only
    rw [r]
theorem frz_lst {h : AH} {i : Nat} {l : List T} (hi : h[i]? = some (some (.lst l))) (hl : ∀ t ∈ l, isObj t = false) : frz 8 h (.obj i) = (.lst l, h.set i none) := by
  show frz (7 + 1) h (.obj i) = _
  unfold frz
  dsimp only
  rw [hi]
  dsimp only
  rw [frzL_no hl]
/-- a for that appends -/
theorem for_app {α : Type} {b : FS} {a : FG} {g enc : α → T} {τ0 : Option T → LS} {p : Nat} (hb : ∀ (x : α) (l : List T) (h : AH), h[p]? = some (some (.lst l)) → l.length < sizeLine → b (τ0 (some (enc x))) h = .ok (.nx (τ0 (some (enc x)))) (h.set p (some (.lst (l ++ [g x])))))
    (ha : ∀ x v, a x (τ0 v) = some (τ0 (some x))) : ∀ (xs : List α) (v : Option T) (l : List T) (h : AH), h[p]? = some (some (.lst l)) → l.length + xs.length ≤ sizeLine → ∃ v', sForL a b (xs.map enc) (τ0 v) h = .ok (.nx (τ0 v')) (h.set p (some (.lst (l ++ xs.map g))))
  | [], v, l, h, hp, _ => ⟨v, by
    have : h.set p (some (.lst l)) = h := by
      apply List.ext_getElem?
      intro j
      by_cases z : p = j
      · subst z; rw [List.getElem?_set_self (List.getElem?_eq_some_iff.mp hp).1, hp]
      · rw [List.getElem?_set_ne z]
    rw [List.map_nil, List.map_nil, List.append_nil, this]; rfl⟩
  | x :: xs, v, l, h, hp, hn => by
    rw [List.length_cons] at hn
    obtain ⟨v', e⟩ := for_app hb ha xs (some (enc x)) (l ++ [g x]) (h.set p (some (.lst (l ++ [g x])))) (List.getElem?_set_self (List.getElem?_eq_some_iff.mp hp).1) (by rw [List.length_append, List.length_singleton]; omega)
    refine ⟨v', ?_⟩
    rw [List.map_cons, for_nx (ha _ _) (hb x l h hp (by omega)), e, List.set_set, List.append_assoc]
    rfl
theorem get_new {h : AH} {o : Option O} : (h ++ [o])[h.length]? = some o := by simp
theorem set_new {h : AH} {o o' : Option O} : (h ++ [o]).set h.length o' = h ++ [o'] := by simp
/-! texts of the program are compared as texts of Lean -/
theorem map_inj {α β : Type} {f : α → β} (hf : ∀ a b, f a = f b → a = b) : ∀ {l m : List α}, l.map f = m.map f → l = m
  | [], [], _ => rfl
  | [], _ :: _, h => by cases h
  | _ :: _, [], h => by cases h
  | a :: l, b :: m, h => by
    simp only [List.map_cons, List.cons.injEq] at h
    rw [hf a b h.1, map_inj hf h.2]
@[simp] theorem str_inj {a b : String} : Str.ofString a = Str.ofString b ↔ a = b := ⟨fun h => by
  rw [Str.ofString_eq_toList, Str.ofString_eq_toList] at h
  have h : (a.toList.map Char.toNat).toArray = (b.toList.map Char.toNat).toArray := congrArg Str.cps h
  have h := congrArg Array.toList h
  simp only [List.toList_toArray] at h
  have := map_inj (fun x y e => Char.ext (UInt32.toNat_inj.mp e)) h
  rw [← String.ofList_toList (s := a), this, String.ofList_toList], fun h => by rw [h]⟩
end M
/-! ### for k, v in D.items(), D a dict of the module -/
namespace M
open PySem PySem.Spec PyProof.Rows L2 PySem.W
/-- the items of a dict of the module, in their order -/
def ItiK (kvs : List (V × V)) : It :=
  ⟨fun i _ => i < kvs.length, fun i H x H' => ∃ (T : Addr) (k v : V), kvs[i]? = some (k, v) ∧ x = .ref T ∧ H T = none ∧ H' = upd H T (.tup [k, v]), fun i _ => kvs.length ≤ i⟩
def EsRel (es : Array DictEntry) (kvs : List (V × V)) : Prop := es.size = kvs.length ∧ ∀ (i : Nat) (hi : i < es.size) (k v : V), kvs[i]? = some (k, v) → RelV k es[i].key ∧ RelV v es[i].val
def KItems (K : PySem.W.Frag) (d : Addr) (kvs : List (V × V)) : Prop := ∃ es n, K.lookup d = some ⟨.type "dict", none, .dict es n, #[]⟩ ∧ (d == sysModules) = false ∧ EsRel es kvs
def iItemsK (K : PySem.W.Frag) (td : TE) : TI := fun σ H R => td σ H fun x H1 => ∃ d kvs, x = .ref d ∧ KItems K d kvs ∧ R (ItiK kvs) H1
theorem turn_itemsK {P : Program} {w : World} {K : PySem.W.Frag} {d : Addr} {es : Array DictEntry} {n : Nat} {elts : List Expr} {kk : Nat} {tpos : Pos} (hl : K.lookup d = some ⟨.type "dict", none, .dict es n, #[]⟩) {kvs : List (V × V)} (hv : EsRel es kvs) (it : Addr) :
    Turn P w K (.Tuple elts kk tpos) (ItiK kvs) [it] it (fun i h => ∃ ok ov, IsItemIter h it d i es.size n ok ov) where
  mem := by simp
  obj := fun i h st b hb => by
    have e : b = it := by simpa using hb
    subst e
    obtain ⟨ok, ov, e⟩ := st
    exact ⟨_, e, fun v z => nomatch z⟩
  keep := fun i h h' st k => let ⟨ok, ov, e⟩ := st; ⟨ok, ov, k it (by simp) _ e⟩
  item := by
    intro X hP hw hK hc i pins s σ H E I hf st hg
    subst hP hw hK
    have hi' : i < kvs.length := hg
    have hi : i < es.size := by rw [hv.1]; exact hi'
    obtain ⟨⟨k, v⟩, hkv⟩ : ∃ p, kvs[i]? = some p := ⟨kvs[i], List.getElem?_eq_getElem hi'⟩
    obtain ⟨rk, rv⟩ := hv.2 i hi k v hkv
    obtain ⟨ok, ov, he⟩ := st
    have hlt : it < s.heap.objs.size := Heap.lt_size he
    have hm : s.heap.DictRaw d es n := ⟨_, I.kIn _ _ hl, ⟨rfl, rfl, rfl⟩, rfl⟩
    refine wpAny_pyNext_items_item_raw he hm hi fun h' ho hT hz hk => ?_
    refine ⟨_, rfl, wpAny_letOwnedTupleGo_items (s := { s with heap := h' }) ho fun h'' he' sb => ?_⟩
    have hT2 : h''.get? s.heap.objs.size = some { cls := .type "tuple", data := .seq #[es[i].key, es[i].val] } := (sb.2 _ (Nat.ne_of_gt hlt)).trans hT
    have new : ObjOk X.prog X.w (upd H s.heap.objs.size (.tup [k, v])) h'' s.heap.objs.size (.tup [k, v]) :=
      ⟨by show 2 ≤ sizeLine; decide, [es[i].key, es[i].val], .cons rk (.cons rv .nil), ⟨_, hT2, rfl, _, rfl⟩⟩
    have I1 : Inv X pins σ (upd H s.heap.objs.size (.tup [k, v])) { s with heap := h'' } :=
      I.turnedNew (t' := s.toks) (ch := [it]) (fun b ob hb e => (sb.2 b (by simpa using hb)).trans (hk b ob (by simpa using hb) e)) hf (Nat.le_refl _) new
    refine ⟨.ref s.heap.objs.size, _, I1, rfl, ⟨_, k, v, hkv, rfl, I.hok.fresh (Nat.le_refl _), rfl⟩, ⟨es[i].key, es[i].val, he'⟩, fun b hb => ?_⟩
    have e : b = it := by simpa using hb
    rw [e, upd_ne (Nat.ne_of_lt hlt)]
    exact (hf it (by simp)).1
  done := by
    intro X hP hw hK hc i pins s σ H E I hf st hg
    subst hP hw hK
    obtain ⟨f0, f1, f2, f3, f4, f5⟩ := hf it (by simp)
    obtain ⟨ok, ov, he⟩ := st
    have hm : s.heap.DictRaw d es n := ⟨_, I.kIn _ _ hl, ⟨rfl, rfl, rfl⟩, rfl⟩
    exact wpAny_pyNext_items_end_raw (I.ok.hd hc) he hm (by rw [hv.1]; exact hg) fun h' eb => ⟨rfl, I.turned (t' := s.toks) (fun b ob hb e => eb b ob hb e) f0 f1 f3 f4 f5⟩
  self := fun A i s Q E st h => let ⟨_, _, e⟩ := st; PySem.W.kcp_self e h
theorem pi_itemsK {X : Cx} {e : Expr} {td : TE} {apos cpos : Pos} {elts : List Expr} {kk : Nat} {tpos : Pos} (he : PE X e td) (hbase : attributeBase e "items" X.env (eval e X.env) = eval e X.env := by rfl) (hline : (apos.endLine == cpos.line) = true := by rfl) :
    PI X (.Tuple elts kk tpos) (.Call (.Attribute e "items" apos) [] [] cpos) (iItemsK X.K td) := by
  refine ⟨fun pins s σ H R I h => ?_⟩
  refine wpAny_Call_method (T := "dict") (id := "dict.items") hbase rfl hline F.plainAttrs_dict F.slot_dict_items F.type_dict_items (thn (he.run pins s σ H _ I h) fun u s1 ⟨x, H1, I1, rx, d, kvs, ex, ⟨es, n, hl, hs, hv⟩, q⟩ => ?_)
  subst ex
  obtain rfl : u = Value.ref d := rx
  have hm : s1.heap.DictRaw d es n := ⟨_, I1.kIn _ _ hl, ⟨rfl, rfl, rfl⟩, rfl⟩
  have hT : s1.TypeIs (.ref d) "dict" := ⟨_, I1.kIn _ _ hl, rfl⟩
  refine ⟨hT, fun a ea => by cases ea; exact ⟨_, I1.kIn _ _ hl, rfl⟩, ?_⟩
  have I2 : Inv X pins σ H1 { s1 with heap := s1.heap.push { cls := .type "dict_items", data := .fields #[.ref d] } } := I1.kept (t' := s1.toks) fun b ob q => Heap.get?_push_of_some _ q
  have hm2 : ({ s1 with heap := s1.heap.push { cls := .type "dict_items", data := .fields #[.ref d] } } : Shared).heap.DictRaw d es n := ⟨_, I2.kIn _ _ hl, ⟨rfl, rfl, rfl⟩, rfl⟩
  have fin : wpAny (model X.prog X.w) X.A (pyIter (.ref s1.heap.objs.size)) (PIE X pins σ (.Tuple elts kk tpos) R) X.xe { s1 with heap := s1.heap.push { cls := .type "dict_items", data := .fields #[.ref d] } } := by
    refine wpAny_pyIter_items_raw (d := d) ⟨_, Heap.get?_push_size _ rfl, rfl, rfl⟩ hm2 (pi_one (tk := s1.toks) I2 _ (turn_itemsK hl hv _) ⟨.none, .none, ?_⟩ q)
    exact Heap.get?_push_size _ rfl
  show wpAny _ _ (callWith cpos (.builtin "dict.items") [.ref d] [] []) _ X.xe s1
  exact method_meetsIn F.slot_dict_items F.entry_dict_items rfl (PySem.evalArgs_none ⟨rfl, hT, F.args_dict_items_1 _, _, meets_dict_items_raw d hs, ⟨es, n, hm⟩, fin⟩)
variable {G : Env} {E : L2.St → XK} {S : Sta}
/-- all rows of a dict of the module, in their order -/
def KAll (G : Env) (d : Addr) (rows : List (Str × T)) : Prop := ∃ kvs, KItems G.K d kvs ∧ kvs.length = rows.length ∧ ∀ (i : Nat) (r : Str × T), rows[i]? = some r → ∃ v, kvs[i]? = some (.str r.1, v) ∧ ∀ S, S.G = G → Rv S r.2 v
@[simp] def iItmM (n : Str) (rows : List (Str × T)) (fe : FE) : FA := fun τ h => (fe τ h).bind fun x h1 => match x with | .ref m => if m = n then .ok (rows.map fun r => .tup [.str r.1, r.2]) h1 else .bad | _ => .bad
theorem sim_itemsK {n : Str} {d : Addr} {rows : List (Str × T)} {te : TE} {fe : FE} (hd : G.fa n = .ref d) (hk : KAll G d rows) (he : SimE G E te fe) : SimI G E (iItemsK G.K te) (iItmM n rows fe) := fun S σ τ R e k rs p => by
  refine he S σ τ _ e k rs (PostG.imp (fun x S1 q u ru => ?_) (PostG.bind p))
  obtain ⟨k1, s1, q⟩ := q
  have e1 := s1.G.trans e
  split at q
  · split at q
    · rename_i hm
      subst hm
      simp only [Rv] at ru
      rw [e1, hd] at ru
      subst ru
      obtain ⟨kvs, hki, hlen, hr⟩ := hk
      refine ⟨d, kvs, rfl, hki, q S1 rfl k1 (Step.refl S1) _ fun S2 st k i => ?_⟩
      have e2 : S2.G = G := st.G.trans e1
      refine ⟨fun t ht => ?_, fun h => by rw [List.length_map] at h; show kvs.length ≤ i; rw [hlen]; exact h⟩
      rw [List.getElem?_map] at ht
      obtain ⟨r, hri, rfl⟩ := Option.map_eq_some_iff.mp ht
      obtain ⟨v, hv, rv⟩ := hr i r hri
      refine ⟨(List.getElem?_eq_some_iff.mp hv).1, fun z H' hy => ?_⟩
      obtain ⟨T0, k', v', hkv, rfl, hn, rfl⟩ := hy
      rw [hv] at hkv; cases hkv
      exact new_pair k hn (by simp only [Rv]) (rv S2 e2)
    · exact q.elim
  · exact q.elim
def EsR : List DictEntry → List (V × V) → Prop
  | [], [] => True
  | e :: es, kv :: kvs => (RelV kv.1 e.key ∧ RelV kv.2 e.val) ∧ EsR es kvs
  | _, _ => False
def RwR (G : Env) : List (Str × T) → List (V × V) → Prop
  | [], [] => True
  | r :: rs, kv :: kvs => (kv.1 = .str r.1 ∧ ∀ S, S.G = G → Rv S r.2 kv.2) ∧ RwR G rs kvs
  | _, _ => False
theorem esR_get : ∀ {es : List DictEntry} {kvs : List (V × V)}, EsR es kvs → es.length = kvs.length ∧ ∀ (i : Nat) (e : DictEntry) (kv : V × V), es[i]? = some e → kvs[i]? = some kv → RelV kv.1 e.key ∧ RelV kv.2 e.val
  | [], [], _ => ⟨rfl, fun i e kv h _ => by cases h⟩
  | e :: es, kv :: kvs, h => by
    obtain ⟨h1, h2⟩ := h
    obtain ⟨l, r⟩ := esR_get h2
    refine ⟨by rw [List.length_cons, List.length_cons, l], fun i e' kv' he hk => ?_⟩
    cases i with
    | zero => cases he; cases hk; exact h1
    | succ i => exact r i e' kv' he hk
  | [], _ :: _, h => h.elim
  | _ :: _, [], h => h.elim
theorem rwR_get {G : Env} : ∀ {rs : List (Str × T)} {kvs : List (V × V)}, RwR G rs kvs → kvs.length = rs.length ∧ ∀ (i : Nat) (r : Str × T), rs[i]? = some r → ∃ v, kvs[i]? = some (.str r.1, v) ∧ ∀ S, S.G = G → Rv S r.2 v
  | [], [], _ => ⟨rfl, fun i r h => by cases h⟩
  | r :: rs, (k, v) :: kvs, h => by
    obtain ⟨⟨h0, h1⟩, h2⟩ := h
    obtain ⟨l, q⟩ := rwR_get h2
    refine ⟨by rw [List.length_cons, List.length_cons, l], fun i r' hr => ?_⟩
    cases i with
    | zero => cases hr; exact ⟨v, by dsimp only at h0; rw [h0]; rfl, h1⟩
    | succ i => exact q i r' hr
  | [], _ :: _, h => h.elim
  | _ :: _, [], h => h.elim
theorem kall_of {d : Addr} {es : Array DictEntry} {n : Nat} {kvs : List (V × V)} {rows : List (Str × T)} (hl : G.K.lookup d = some ⟨.type "dict", none, .dict es n, #[]⟩) (hs : (d == sysModules) = false) (he : EsR es.toList kvs) (hr : RwR G rows kvs) : KAll G d rows := by
  obtain ⟨l, q⟩ := esR_get he
  refine ⟨kvs, ⟨es, n, hl, hs, by rw [← l, Array.length_toList], fun i hi k v hk => ?_⟩, (rwR_get hr).1, (rwR_get hr).2⟩
  exact q i es[i] (k, v) (by rw [Array.getElem?_toList]; exact Array.getElem?_eq_getElem hi) hk
theorem x_itemsK {X : Cx} {K : PySem.W.Frag} (h : X.K = K) {e : Expr} {td : TE} {apos cpos : Pos} {elts : List Expr} {kk : Nat} {tpos : Pos} (he : PE X e td) (hbase : attributeBase e "items" X.env (eval e X.env) = eval e X.env := by rfl) (hline : (apos.endLine == cpos.line) = true := by rfl) :
    PI X (.Tuple elts kk tpos) (.Call (.Attribute e "items" apos) [] [] cpos) (iItemsK K td) := h ▸ pi_itemsK he hbase hline
end M
/-! ### bits taken out of a word -/
namespace M
open PySem PySem.Spec PyProof.Rows L2 PySem.W
/-- an empty field takes bits -/
theorem bor_fld {w x : Int} {many pos : Nat} (h : 0 ≤ w) (x0 : 0 ≤ x) (x1 : x < 2 ^ many) (hz : w / 2 ^ pos % 2 ^ many = 0) : Builtin.bitOr w (x * 2 ^ pos) = w + x * 2 ^ pos := by
  have := setf (x := x) h hz
  rw [band_not h, band_sh, kbt_mask, kbt_mask, hz, Int.zero_mul, Int.sub_zero, Int.emod_eq_of_lt x0 x1] at this
  exact this
theorem emod_2 (x : Int) {m : Int} (hm : 0 < m) : x % (2 * m) = 2 * (x / 2 % m) + x % 2 := by
  have e := Int.mul_ediv_add_emod (x / 2) m
  have h0 := Int.emod_nonneg (x / 2) (by omega : m ≠ 0)
  have h1 := Int.emod_lt_of_pos (x / 2) hm
  refine (kbt_unique (b := 2 * m) (q := x / 2 / m) (by omega) ?_ (by omega) (by omega)).2
  rw [Int.mul_assoc]; omega
theorem band_cat : ∀ (k : Nat) (w a b : Int), 0 ≤ a → a < 2 ^ k → Builtin.bitAnd w (a + b * 2 ^ k) = Builtin.bitAnd w a + Builtin.bitAnd (w / 2 ^ k) b * 2 ^ k
  | 0, w, a, b, h0, h1 => by
    have : a = 0 := by simp at h1; omega
    subst this
    have := bitAnd_comm w 0
    simp [this, band_zero]
  | k + 1, w, a, b, h0, h1 => by
    rw [p2s] at h1
    have x := kbt_halves w (a + b * 2 ^ (k + 1))
    have y := kbt_halves w a
    have e1 : b * 2 ^ (k + 1) = 2 * (b * 2 ^ k) := by rw [p2s, Int.mul_left_comm]
    have e2 : (a + b * 2 ^ (k + 1)) / 2 = a / 2 + b * 2 ^ k := by rw [e1]; omega
    have e3 : (a + b * 2 ^ (k + 1)) % 2 = a % 2 := by rw [e1]; omega
    have e4 : w / 2 ^ (k + 1) = w / 2 / 2 ^ k := by rw [p2s, Int.ediv_ediv_of_nonneg (by decide)]
    have e5 : Builtin.bitAnd (w / 2 / 2 ^ k) b * 2 ^ (k + 1) = 2 * (Builtin.bitAnd (w / 2 / 2 ^ k) b * 2 ^ k) := by rw [p2s, Int.mul_left_comm]
    rw [e2, e3, band_cat k (w / 2) (a / 2) b (by omega) (by omega)] at x
    rw [e4, e5]
    omega
theorem bxor_half (x y : Int) : Builtin.bitXor x y = 2 * Builtin.bitXor (x / 2) (y / 2) + (if x % 2 = y % 2 then 0 else 1) := by
  have a := kbt_halves x y
  have e : ∀ x y, Builtin.bitXor x y = Builtin.bitOr x y - Builtin.bitAnd x y := fun _ _ => rfl
  rw [e, e, bitOr_and, bitOr_and]
  by_cases z : x % 2 = y % 2
  · rw [if_pos z]
    by_cases q : x % 2 = 1 ∧ y % 2 = 1
    · rw [if_pos q] at a; omega
    · rw [if_neg q] at a; omega
  · rw [if_neg z]
    rw [if_neg (by omega)] at a; omega
theorem bxor_low : ∀ (k : Nat) (x y : Int), Builtin.bitXor x y % 2 ^ k = 0 ↔ x % 2 ^ k = y % 2 ^ k
  | 0, x, y => by simp
  | k + 1, x, y => by
    have hp := kbt_pos k
    have a := bxor_half x y
    have ih := bxor_low k (x / 2) (y / 2)
    rw [p2s, emod_2 _ hp, emod_2 x hp, emod_2 y hp]
    have q0 := Int.emod_nonneg (Builtin.bitXor x y / 2) (by omega : (2 : Int) ^ k ≠ 0)
    have q1 := Int.emod_nonneg (x / 2) (by omega : (2 : Int) ^ k ≠ 0)
    have q2 := Int.emod_nonneg (y / 2) (by omega : (2 : Int) ^ k ≠ 0)
    by_cases z : x % 2 = y % 2
    · rw [if_pos z] at a
      have e : Builtin.bitXor x y / 2 = Builtin.bitXor (x / 2) (y / 2) := by omega
      rw [e] at q0 ⊢
      constructor
      · intro h
        have := ih.mp (by omega); omega
      · intro h
        have := ih.mpr (by omega); omega
    · rw [if_neg z] at a
      constructor <;> intro h <;> omega
/-- the masks of the words' fixed bits -/
theorem band_1 {w : Int} : Builtin.bitAnd w 127 = w % 128 := kbt_mask w 7
theorem band_2 {w : Int} : Builtin.bitAnd w 28799 = w % 128 + w / 4096 % 8 * 4096 := by
  have := band_cat 12 w 127 7 (by decide) (by decide)
  have q : Builtin.bitAnd (w / 4096) 7 = w / 4096 % 8 := kbt_mask _ 3
  rw [band_1] at this
  rw [← q]; exact this
theorem band_3 {w : Int} : Builtin.bitAnd w 4261441663 = w % 128 + w / 4096 % 8 * 4096 + w / 33554432 % 128 * 33554432 := by
  have := band_cat 25 w 28799 127 (by decide) (by decide)
  rw [band_2] at this
  have q : Builtin.bitAnd (w / 33554432) 127 = w / 33554432 % 128 := band_1
  rw [← q]; exact this
theorem band_4 {w : Int} (h0 : 0 ≤ w) (h1 : w < 4294967296) : Builtin.bitAnd w 4294967295 = w := (kbt_mask w 32).trans (Int.emod_eq_of_lt h0 h1)
theorem bxor_7 {w op : Int} : (Builtin.bitAnd (Builtin.bitXor w op) 127 = 0) ↔ w % 128 = op % 128 := by
  rw [band_1]; exact bxor_low 7 w op
/-- a digit, named -/
theorem dig (v : Int) (s m : Nat) : ∃ d, v / 2 ^ s % 2 ^ m = d ∧ 0 ≤ d ∧ d < 2 ^ m := by
  have p := kbt_pos m
  exact ⟨_, rfl, Int.emod_nonneg _ (by omega), Int.emod_lt_of_pos _ p⟩
/-- a number that is small enough to be multiplied -/
theorem mul_lt {x : Int} {n : Nat} (h0 : -4294967296 ≤ x) (h1 : x ≤ 4294967296) (hn : n < 18446744073709551616) : x.natAbs.log2 + n.log2 < 1000000 := by
  have a : x.natAbs.log2 < 100 := by
    by_cases z : x.natAbs = 0
    · rw [z]; decide
    · exact (Nat.log2_lt z).mpr (by omega)
  have b : n.log2 < 100 := by
    by_cases z : n = 0
    · rw [z]; decide
    · exact (Nat.log2_lt z).mpr (by omega)
  omega
theorem mul_d {d : Int} {k n : Nat} (l : 0 ≤ d) (u : d < 2 ^ k) (hk : k ≤ 32) (hn : n < 18446744073709551616) : d.natAbs.log2 + n.log2 < 1000000 := by
  have p2 : (2 : Nat) ^ k ≤ 2 ^ 32 := Nat.pow_le_pow_right (by decide) hk
  have p3 := kbt_cast k
  have : (2 : Nat) ^ 32 = 4294967296 := by decide
  exact mul_lt (by omega) (by omega) hn
/-- written divisors are small -/
theorem lgs : Nat.log2 2 < 9000 ∧ Nat.log2 3 < 9000 ∧ Nat.log2 4 < 9000 ∧ Nat.log2 5 < 9000 ∧ Nat.log2 6 < 9000 ∧ Nat.log2 7 < 9000 ∧ Nat.log2 8 < 9000 ∧ Nat.log2 9 < 9000 ∧ Nat.log2 10 < 9000 ∧ Nat.log2 11 < 9000 ∧ Nat.log2 12 < 9000 ∧ Nat.log2 13 < 9000 ∧ Nat.log2 14 < 9000 ∧ Nat.log2 15 < 9000 ∧ Nat.log2 16 < 9000 ∧ Nat.log2 17 < 9000 ∧ Nat.log2 18 < 9000 ∧ Nat.log2 19 < 9000 ∧ Nat.log2 20 < 9000 ∧ Nat.log2 21 < 9000 ∧ Nat.log2 22 < 9000 ∧ Nat.log2 23 < 9000 ∧ Nat.log2 24 < 9000 ∧ Nat.log2 25 < 9000 ∧ Nat.log2 26 < 9000 ∧ Nat.log2 27 < 9000 ∧ Nat.log2 28 < 9000 ∧ Nat.log2 29 < 9000 ∧ Nat.log2 30 < 9000 ∧ Nat.log2 31 < 9000 ∧ Nat.log2 32 < 9000 ∧ Nat.log2 33 < 9000 ∧ Nat.log2 34 < 9000 ∧ Nat.log2 35 < 9000 ∧ Nat.log2 36 < 9000 ∧ Nat.log2 37 < 9000 ∧ Nat.log2 38 < 9000 ∧ Nat.log2 39 < 9000 ∧ Nat.log2 40 < 9000 ∧ Nat.log2 41 < 9000 ∧ Nat.log2 42 < 9000 ∧ Nat.log2 43 < 9000 ∧ Nat.log2 44 < 9000 ∧ Nat.log2 45 < 9000 ∧ Nat.log2 46 < 9000 ∧ Nat.log2 47 < 9000 ∧ Nat.log2 48 < 9000 ∧ Nat.log2 49 < 9000 ∧ Nat.log2 50 < 9000 ∧ Nat.log2 51 < 9000 ∧ Nat.log2 52 < 9000 ∧ Nat.log2 53 < 9000 ∧ Nat.log2 54 < 9000 ∧ Nat.log2 55 < 9000 ∧ Nat.log2 56 < 9000 ∧ Nat.log2 57 < 9000 ∧ Nat.log2 58 < 9000 ∧ Nat.log2 59 < 9000 ∧ Nat.log2 60 < 9000 ∧ Nat.log2 61 < 9000 ∧ Nat.log2 62 < 9000 ∧ Nat.log2 63 < 9000 ∧ Nat.log2 64 < 9000 ∧ Nat.log2 100 < 9000 ∧ Nat.log2 127 < 9000 ∧ Nat.log2 128 < 9000 ∧ Nat.log2 255 < 9000 ∧ Nat.log2 256 < 9000 ∧ Nat.log2 512 < 9000 ∧ Nat.log2 1000 < 9000 ∧ Nat.log2 1001 < 9000 ∧ Nat.log2 1024 < 9000 ∧ Nat.log2 2048 < 9000 ∧ Nat.log2 4096 < 9000 ∧ Nat.log2 8192 < 9000 ∧ Nat.log2 16384 < 9000 ∧ Nat.log2 32768 < 9000 ∧ Nat.log2 65536 < 9000 ∧ Nat.log2 131072 < 9000 ∧ Nat.log2 1048576 < 9000 ∧ Nat.log2 2097152 < 9000 ∧ Nat.log2 33554432 < 9000 ∧ Nat.log2 2147483648 < 9000 ∧ Nat.log2 4294967296 < 9000 ∧ Nat.log2 4294967295 < 9000 ∧ Nat.log2 2199023255551 < 9000 := ⟨by decide, by decide, by decide, by decide, by decide, by decide, by decide, by decide, by decide, by decide, by decide, by decide, by decide, by decide, by decide, by decide, by decide, by decide, by decide, by decide, by decide, by decide, by decide, by decide, by decide, by decide, by decide, by decide, by decide, by decide, by decide, by decide, by decide, by decide, by decide, by decide, by decide, by decide, by decide, by decide, by decide, by decide, by decide, by decide, by decide, by decide, by decide, by decide, by decide, by decide, by decide, by decide, by decide, by decide, by decide, by decide, by decide, by decide, by decide, by decide, by decide, by decide, by decide, by decide, by decide, by decide, by decide, by decide, by decide, by decide, by decide, by decide, by decide, by decide, by decide, by decide, by decide, by decide, by decide, by decide, by decide, by decide, by decide, by decide, by decide, by decide⟩
/-- a signed field -/
def sg (s n : Int) : Int := if n < s / 2 then n else n - s
theorem sg_of {n n' lo hi s : Int} (e : n = n') (hl : 2 * lo = -s) (hh : n' ≤ hi ↔ n' < s / 2) : (if n ≤ hi then n else n + 2 * lo) = sg s n' := by
  subst e
  unfold sg
  by_cases z : n ≤ hi
  · rw [if_pos z, if_pos (hh.mp z)]
  · rw [if_neg z, if_neg (fun q => z (hh.mpr q)), hl]; rfl
theorem sg_no {n n' lo hi : Int} (e : n = n') (hh : n' ≤ hi) : (if n ≤ hi then n else n + 2 * lo) = n' := by
  subst e; exact if_pos hh
theorem sg_inv {s v n : Int} (hn : n = v % s) (hs : 0 < s) (h2 : s % 2 = 0) (h0 : -(s / 2) ≤ v) (h1 : v < s / 2) : sg s n = v := by
  subst hn
  unfold sg
  by_cases z : 0 ≤ v
  · have : v % s = v := Int.emod_eq_of_lt z (by omega)
    rw [this, if_pos h1]
  · have : v % s = v + s := by
      rw [← Int.add_emod_right]; exact Int.emod_eq_of_lt (by omega) (by omega)
    rw [this, if_neg (by omega)]; omega
/-! comprehensions that only read -/
theorem lc_pure {α : Type} {a : FG} {tt : FT} {fe : FE} {τ : LS} {enc g : α → T} {h : AH} : ∀ (l : List α) (n : Nat), n + l.length ≤ sizeLine → (∀ x ∈ l, ∃ τ', a (enc x) τ = some τ' ∧ tt τ' h = .ok true h ∧ fe τ' h = .ok (g x) h) → mLcL a tt fe τ n (l.map enc) h = .ok (l.map g) h
  | [], _, _, _ => rfl
  | x :: l, n, hn, ha => by
    rw [List.length_cons] at hn
    obtain ⟨τ', e1, e2, e3⟩ := ha x List.mem_cons_self
    have ih := lc_pure (a := a) (tt := tt) (fe := fe) (τ := τ) (enc := enc) (g := g) (h := h) l (n + 1) (by omega) fun x hx => ha x (List.mem_cons_of_mem _ hx)
    have hn' : n < sizeLine := by omega
    rw [List.map_cons, List.map_cons]
    unfold mLcL
    rw [e1]
    simp [e2, e3, hn', ih]
theorem lc_some {α : Type} {a : FG} {tt : FT} {fe : FE} {τ : LS} {enc g : α → T} {q : α → Bool} {h : AH} : ∀ (l : List α) (n : Nat), n + l.length ≤ sizeLine → (∀ x ∈ l, ∃ τ', a (enc x) τ = some τ' ∧ tt τ' h = .ok (q x) h ∧ (q x = true → fe τ' h = .ok (g x) h)) → mLcL a tt fe τ n (l.map enc) h = .ok ((l.filter q).map g) h
  | [], _, _, _ => rfl
  | x :: l, n, hn, ha => by
    rw [List.length_cons] at hn
    obtain ⟨τ', e1, e2, e3⟩ := ha x List.mem_cons_self
    have ih := fun m hm => lc_some (a := a) (tt := tt) (fe := fe) (τ := τ) (enc := enc) (g := g) (q := q) (h := h) l m hm fun x hx => ha x (List.mem_cons_of_mem _ hx)
    have hn' : n < sizeLine := by omega
    rw [List.map_cons]
    unfold mLcL
    rw [e1]
    cases z : q x with
    | true => rw [List.filter_cons_of_pos (by rw [z])]; simp [e2, z, e3 z, hn', ih (n + 1) (by omega)]
    | false => rw [List.filter_cons_of_neg (by rw [z]; simp)]; simp [e2, z, ih n (by omega)]
end M
/-! isinstance of built-in types: decided once -/
namespace M
open PySem PySem.Spec PyProof.Rows L2
@[simp] theorem kit_int_int : kitB "int" "int" = some true := by decide +kernel
@[simp] theorem kit_int_bool : kitB "int" "bool" = some false := by decide +kernel
@[simp] theorem kit_int_str : kitB "int" "str" = some false := by decide +kernel
@[simp] theorem kit_int_tuple : kitB "int" "tuple" = some false := by decide +kernel
@[simp] theorem kit_int_list : kitB "int" "list" = some false := by decide +kernel
@[simp] theorem kit_int_dict : kitB "int" "dict" = some false := by decide +kernel
@[simp] theorem kit_bool_int : kitB "bool" "int" = some true := by decide +kernel
@[simp] theorem kit_bool_bool : kitB "bool" "bool" = some true := by decide +kernel
@[simp] theorem kit_bool_str : kitB "bool" "str" = some false := by decide +kernel
@[simp] theorem kit_bool_tuple : kitB "bool" "tuple" = some false := by decide +kernel
@[simp] theorem kit_bool_list : kitB "bool" "list" = some false := by decide +kernel
@[simp] theorem kit_bool_dict : kitB "bool" "dict" = some false := by decide +kernel
@[simp] theorem kit_str_int : kitB "str" "int" = some false := by decide +kernel
@[simp] theorem kit_str_bool : kitB "str" "bool" = some false := by decide +kernel
@[simp] theorem kit_str_str : kitB "str" "str" = some true := by decide +kernel
@[simp] theorem kit_str_tuple : kitB "str" "tuple" = some false := by decide +kernel
@[simp] theorem kit_str_list : kitB "str" "list" = some false := by decide +kernel
@[simp] theorem kit_str_dict : kitB "str" "dict" = some false := by decide +kernel
@[simp] theorem kit_tuple_int : kitB "tuple" "int" = some false := by decide +kernel
@[simp] theorem kit_tuple_bool : kitB "tuple" "bool" = some false := by decide +kernel
@[simp] theorem kit_tuple_str : kitB "tuple" "str" = some false := by decide +kernel
@[simp] theorem kit_tuple_tuple : kitB "tuple" "tuple" = some true := by decide +kernel
@[simp] theorem kit_tuple_list : kitB "tuple" "list" = some false := by decide +kernel
@[simp] theorem kit_tuple_dict : kitB "tuple" "dict" = some false := by decide +kernel
@[simp] theorem kit_list_int : kitB "list" "int" = some false := by decide +kernel
@[simp] theorem kit_list_bool : kitB "list" "bool" = some false := by decide +kernel
@[simp] theorem kit_list_str : kitB "list" "str" = some false := by decide +kernel
@[simp] theorem kit_list_tuple : kitB "list" "tuple" = some false := by decide +kernel
@[simp] theorem kit_list_list : kitB "list" "list" = some true := by decide +kernel
@[simp] theorem kit_list_dict : kitB "list" "dict" = some false := by decide +kernel
@[simp] theorem kit_dict_int : kitB "dict" "int" = some false := by decide +kernel
@[simp] theorem kit_dict_bool : kitB "dict" "bool" = some false := by decide +kernel
@[simp] theorem kit_dict_str : kitB "dict" "str" = some false := by decide +kernel
@[simp] theorem kit_dict_tuple : kitB "dict" "tuple" = some false := by decide +kernel
@[simp] theorem kit_dict_list : kitB "dict" "list" = some false := by decide +kernel
@[simp] theorem kit_dict_dict : kitB "dict" "dict" = some true := by decide +kernel
@[simp] theorem kit_NoneType_int : kitB "NoneType" "int" = some false := by decide +kernel
@[simp] theorem kit_NoneType_bool : kitB "NoneType" "bool" = some false := by decide +kernel
@[simp] theorem kit_NoneType_str : kitB "NoneType" "str" = some false := by decide +kernel
@[simp] theorem kit_NoneType_tuple : kitB "NoneType" "tuple" = some false := by decide +kernel
@[simp] theorem kit_NoneType_list : kitB "NoneType" "list" = some false := by decide +kernel
@[simp] theorem kit_NoneType_dict : kitB "NoneType" "dict" = some false := by decide +kernel
end M
/-! ### recursion's start; what is raised and caught -/
namespace M
open PySem PySem.Spec PyProof.Rows L2
variable {G : Env} {W : WX} {S : Sta} {E : L2.St → XK}
/-- without fuel: no promise -/
theorem fn_bad {P : Program} {w : World} {K : PySem.W.Frag} {mg : Str → Option Value} {base : Heap} {CX : CXT} {lv : Nat} {f : Addr} {fd : FuncData} {ps : List Str} {n : Nat} (hp : ps.length = n) : FnOk P w K mg base CX lv f fd ps (spM G n fun _ _ => .bad) :=
  ⟨sp_len hp, fun _ _ _ _ _ _ _ _ _ _ _ _ _ ⟨_, _, _, _, _, _, _, p⟩ => p.elim⟩
/-- an own exception class -/
structure TxE (K : PySem.W.Frag) (C : Addr) (fs : List Str) : Prop where
  ox : OexC K C
  xf : XfC K C
  ie : ExcC K C
  no : ∀ f ∈ fs, PySem.W.findIn K (.ref C) f = some none
/-- its own __init__ -/
structure MkX (K : PySem.W.Frag) (C fI : Addr) : Prop where
  iC : PySem.W.findIn K (.ref C) "__init__" = some (some (.ref fI))
  tI : PySem.W.typeIn K (.ref fI) = some (.type "function")
/-! who is of which class -/
theorem exm_own {K : PySem.W.Frag} {A B : Addr} {b : Bool} (i : PySem.W.isClsIn K B = true) (t : PySem.W.typeIn K (.ref B) = some (.type "type")) (s0 : PySem.W.subIn K (.ref B) (.type "BaseException") = some true) (s : PySem.W.subIn K (.ref A) (.ref B) = some b) : PySem.W.exmOne K (.ref A) (.ref B) = some b := by
  have i : (PySem.W.clsIn K B).isSome = true := i
  unfold PySem.W.exmOne
  rw [s0]
  unfold PySem.W.kitCls
  dsimp only
  rw [i, t]
  simp [s]
theorem kit_self {K : PySem.W.Frag} {A : Addr} : PySem.W.kitOne K (.ref A) (.ref A) = some true := by
  unfold PySem.W.kitOne
  simp
theorem kit_own {K : PySem.W.Frag} {A B : Addr} {b : Bool} (i : PySem.W.isClsIn K B = true) (t : PySem.W.typeIn K (.ref B) = some (.type "type")) (s : PySem.W.subIn K (.ref A) (.ref B) = some b) (n : (A == B) = false) : PySem.W.kitOne K (.ref A) (.ref B) = some b := by
  have i : (PySem.W.clsIn K B).isSome = true := i
  have n : ¬ A = B := by simpa using n
  unfold PySem.W.kitOne PySem.W.kitCls
  dsimp only
  rw [i, t]
  simp [s, n]
theorem kit_type {K : PySem.W.Frag} {A : Addr} {T : String} {b : Bool} (m : PySem.W.kitMeta T = true) (s : PySem.W.subIn K (.ref A) (.type T) = some b) : PySem.W.kitOne K (.ref A) (.type T) = some b := by
  unfold PySem.W.kitOne PySem.W.kitCls
  dsimp only
  rw [m]
  simp [s]
/-! __init__ of an own exception: it stores its arguments -/
def spX1 (K : PySem.W.Frag) (f : Str) : Sp := fun vs H Q _ => ∃ (a C : Addr) (x : V), vs = [.ref a, x] ∧ H a = some (exo a C none) ∧ OexC K C ∧ PySem.W.findIn K (.ref C) f = some none ∧
  ∀ d, H d = none → d ≠ a → Q .non (upd (upd H d (exd d [(f, x)])) a (exo a C (some d)))
def spX2 (K : PySem.W.Frag) (f g : Str) : Sp := fun vs H Q _ => ∃ (a C : Addr) (x y : V), vs = [.ref a, x, y] ∧ H a = some (exo a C none) ∧ OexC K C ∧ (PySem.W.findIn K (.ref C) f = some none ∧ PySem.W.findIn K (.ref C) g = some none) ∧
  ∀ d, H d = none → d ≠ a → Q .non (upd (upd (upd H d (exd d [(f, x)])) a (exo a C (some d))) d (exd d [(g, y), (f, x)]))
theorem spX1_len {K : PySem.W.Frag} {f : Str} {ps : List Str} (hp : ps.length = 2) : ∀ vs H Q E, spX1 K f vs H Q E → vs.length = ps.length := fun vs H Q E ⟨_, _, _, e, _⟩ => by subst e; exact hp.symm
theorem spX2_len {K : PySem.W.Frag} {f g : Str} {ps : List Str} (hp : ps.length = 3) : ∀ vs H Q E, spX2 K f g vs H Q E → vs.length = ps.length := fun vs H Q E ⟨_, _, _, _, e, _⟩ => by subst e; exact hp.symm
theorem x1_run {K : PySem.W.Frag} {f : Str} {vs : List V} {H : Hp} {Q : VK} {E : XK} {a b : Str} (h : spX1 K f vs H Q E) : tOst K f (tVar 0) (tVar 1) { nx := fun _ H' => Q .non H', rt := Q } (start [a, b] vs) H := by
  obtain ⟨a, C, x, rfl, ha, T, n1, q⟩ := h
  exact ⟨_, rfl, _, rfl, _, _, rfl, T, n1, .inl ⟨ha, fun dx hdx ne => q dx hdx ne⟩⟩
theorem x2_run {K : PySem.W.Frag} {f g : Str} {vs : List V} {H : Hp} {Q : VK} {E : XK} {a b c : Str} (h : spX2 K f g vs H Q E) : tSeq (tOst K f (tVar 0) (tVar 1)) (tOst K g (tVar 0) (tVar 2)) { nx := fun _ H' => Q .non H', rt := Q } (start [a, b, c] vs) H := by
  obtain ⟨a, C, x, y, rfl, ha, T, ⟨n1, n2⟩, q⟩ := h
  refine ⟨_, rfl, _, rfl, _, _, rfl, T, n1, .inl ⟨ha, fun dx hdx ne => ?_⟩⟩
  exact ⟨_, rfl, _, rfl, _, _, rfl, T, n2, .inr ⟨dx, _, upd_same, by rw [upd_ne ne]; exact upd_same, by show (1 : Nat) ≤ 900; decide, q dx hdx ne⟩⟩
/-! raise C(..) -/
@[simp] def sRaise (c : Str) (ns : List Str) (fa : FA) : FS := fun τ h => liftE (fa τ h) τ fun xs h1 => if xs.length = ns.length then .ok (.xc ⟨c, ns.reverse, xs.reverse⟩ τ) h1 else .bad
theorem raise_end {σ : L2.St} {τ : LS} {D : Ends} {c : Str} {C d : Addr} {ns : List Str} {xs : List T} {vs : List V} (hc : S.G.ca c = C) (k : Ok S) (rs : RS S τ σ) (hd : S.H d = none) (hn : ns.length = xs.length) (r : RvL S xs vs)
    (q : PG S W D (.ok (.xc ⟨c, ns, xs⟩ τ) S.h)) : W (.ref C) (some d) σ (upd S.H d (.xd (ns.zip vs))) := by
  have g := Grow.upd (u := HO.xd (ns.zip vs)) hd
  have st := step_at k g
  have q := q (S.at (upd S.H d (.xd (ns.zip vs)))) rfl (ok_at k g) st σ (rs.mono st) (.ref C) (some d)
  exact q ⟨by rw [← hc]; rfl, .inr ⟨d, vs, rfl, fz_new k hd upd_same, hn, r.mono st⟩⟩
theorem sim_raise1 {C : Addr} {c f : Str} {ta : TA} {fa : FA} (hc : G.ca c = C) (T : TxE G.K C [f]) (ha : SimA G (WE W) ta fa) : SimS G W (fun _ σ H => tMkO C (spX1 G.K f) [] ta σ H fun cls d H' => W cls d σ H') (sRaise c [f] fa) := fun S σ τ D e k rs p => by
  refine ha S σ τ _ e k rs (PostG.imp (fun xs S1 q vs rv => ?_) (PG.lift rs p))
  obtain ⟨k1, s1, q⟩ := q
  split at q
  · rename_i hl
    obtain ⟨x, rfl⟩ : ∃ x, xs = [x] := List.length_eq_one_iff.mp hl
    simp only [RvL] at rv
    obtain ⟨v, _, rfl, r1, rfl⟩ := rv
    refine ⟨by show (1 : Nat) ≤ 1000; decide, fun a hna => ⟨a, C, v, rfl, upd_same, T.ox, T.no _ List.mem_cons_self, fun d hd ne => ?_⟩⟩
    rw [upd_ne ne] at hd
    refine ⟨rfl, d, _, upd_same, by rw [upd_ne ne]; exact upd_same, hd, ?_⟩
    have eH : upd (del (upd (upd (upd S1.H a (exo a C none)) d (exd d [(f, v)])) a (exo a C (some d))) a) d (HO.xd [(f, v)]) = upd S1.H d (.xd (([f] : List Str).zip [v])) := by
      funext b
      by_cases hb : b = d
      · subst hb; rw [upd_same, upd_same]; rfl
      · rw [upd_ne hb, upd_ne hb]
        by_cases ha : b = a
        · subst ha; rw [del_same, hna]
        · rw [del_ne ha, upd_ne ha, upd_ne hb, upd_ne ha]
    rw [eH]
    exact raise_end (by rw [s1.G, e]; exact hc) k1 (rs.mono s1) hd rfl (RvL.cons r1 RvL.nil) q
  · exact q.elim
theorem sim_raise2 {C : Addr} {c f g : Str} {ta : TA} {fa : FA} (hc : G.ca c = C) (T : TxE G.K C [f, g]) (ha : SimA G (WE W) ta fa) : SimS G W (fun _ σ H => tMkO C (spX2 G.K f g) [] ta σ H fun cls d H' => W cls d σ H') (sRaise c [f, g] fa) := fun S σ τ D e k rs p => by
  refine ha S σ τ _ e k rs (PostG.imp (fun xs S1 q vs rv => ?_) (PG.lift rs p))
  obtain ⟨k1, s1, q⟩ := q
  split at q
  · rename_i hl
    obtain ⟨x, y, rfl⟩ : ∃ x y, xs = [x, y] := by
      match xs, hl with
      | [x, y], _ => exact ⟨x, y, rfl⟩
    simp only [RvL] at rv
    obtain ⟨v, _, rfl, r1, w, _, rfl, r2, rfl⟩ := rv
    refine ⟨by show (2 : Nat) ≤ 1000; decide, fun a hna => ⟨a, C, v, w, rfl, upd_same, T.ox, ⟨T.no _ List.mem_cons_self, T.no _ (List.mem_cons_of_mem _ List.mem_cons_self)⟩, fun d hd ne => ?_⟩⟩
    rw [upd_ne ne] at hd
    refine ⟨rfl, d, _, by rw [upd_ne (Ne.symm ne)]; exact upd_same, upd_same, hd, ?_⟩
    have eH : upd (del (upd (upd (upd (upd S1.H a (exo a C none)) d (exd d [(f, v)])) a (exo a C (some d))) d (exd d [(g, w), (f, v)])) a) d (HO.xd [(g, w), (f, v)]) = upd S1.H d (.xd (([g, f] : List Str).zip [w, v])) := by
      funext b
      by_cases hb : b = d
      · subst hb; rw [upd_same, upd_same]; rfl
      · rw [upd_ne hb, upd_ne hb]
        by_cases ha : b = a
        · subst ha; rw [del_same, hna]
        · rw [del_ne ha, upd_ne hb, upd_ne ha, upd_ne hb, upd_ne ha]
    rw [eH]
    exact raise_end (by rw [s1.G, e]; exact hc) k1 (rs.mono s1) hd rfl (RvL.cons r2 (RvL.cons r1 RvL.nil)) q
  · exact q.elim
/-! the same state, seen with something caught (or without) -/
def Sta.c (S : Sta) (x : Option Ex) : Sta := ⟨⟨S.G.K, S.G.ca, S.G.fa, x⟩, S.al, S.h, S.H, S.pv⟩
variable {x : Option Ex}
mutual
theorem Rv.c : ∀ {t : T} {v : V}, Rv S t v → Rv (S.c x) t v
  | .non, v, h => by simp only [Rv] at h ⊢; exact h
  | .bl b, v, h => by simp only [Rv] at h ⊢; exact h
  | .int i, v, h => by simp only [Rv] at h ⊢; exact h
  | .str z, v, h => by simp only [Rv] at h ⊢; exact h
  | .ref a, v, h => by simp only [Rv] at h ⊢; exact h
  | .tup l, v, h => by
    simp only [Rv] at h ⊢
    obtain ⟨p, vs, e, f, r⟩ := h
    exact ⟨p, vs, e, f, RvL.c r⟩
  | .ktp l, v, h => by
    simp only [Rv] at h ⊢
    obtain ⟨p, vs, e, f, r⟩ := h
    exact ⟨p, vs, e, f, RvL.c r⟩
  | .lst l, v, h => by
    simp only [Rv] at h ⊢
    obtain ⟨p, vs, e, f, r⟩ := h
    exact ⟨p, vs, e, f, RvL.c r⟩
  | .rdl l, v, h => by
    simp only [Rv] at h ⊢
    obtain ⟨p, vs, e, f, r⟩ := h
    exact ⟨p, vs, e, f, RvL.c r⟩
  | .inst c ns l, v, h => by
    simp only [Rv] at h ⊢
    obtain ⟨p, dx, vs, e, f, n, r⟩ := h
    exact ⟨p, dx, vs, e, f, n, RvL.c r⟩
  | .dct ks l, v, h => by
    simp only [Rv] at h ⊢
    obtain ⟨p, vs, e, f, n, r⟩ := h
    exact ⟨p, vs, e, f, n, RvL.c r⟩
  | .dctT ks l, v, h => by
    simp only [Rv] at h ⊢
    obtain ⟨p, vs, e, f, n, r⟩ := h
    exact ⟨p, vs, e, f, n, RvL.c r⟩
  | .obj i, v, h => by simp only [Rv] at h ⊢; exact h
theorem RvL.c : ∀ {l : List T} {vs : List V}, RvL S l vs → RvL (S.c x) l vs
  | [], _, h => by simp only [RvL] at h ⊢; exact h
  | t :: ts, vs, h => by
    simp only [RvL] at h ⊢
    obtain ⟨v, r, e, h1, h2⟩ := h
    exact ⟨v, r, e, Rv.c h1, RvL.c h2⟩
end
theorem RvK.c {κ : Type} : ∀ {m : List (κ × T)} {vs : List (κ × V)}, RvK S m vs → RvK (S.c x) m vs
  | [], _, h => h
  | (_, _) :: _, _, ⟨v, m', e, h1, h2⟩ => ⟨v, m', e, h1.c, RvK.c h2⟩
theorem RO.c : ∀ {o : O} {u : HO}, RO S o u → RO (S.c x) o u
  | .lst _, _, ⟨vs, e, r⟩ => ⟨vs, e, r.c⟩
  | .dct _, _, ⟨vs, e, r⟩ => ⟨vs, e, r.c⟩
  | .dctT _, _, ⟨vs, e, r⟩ => ⟨vs, e, r.c⟩
  | .ins _ _, _, ⟨dx, vs, e, r⟩ => ⟨dx, vs, e, r.c⟩
theorem Ok.c (k : Ok S) : Ok (S.c x) := ⟨k.len, fun i o p h1 h2 => let ⟨u, hu, r⟩ := k.rel i o p h1 h2; ⟨u, hu, r.c⟩, k.inj, k.priv⟩
theorem RS0.c : ∀ {τ : LS} {σ : L2.St}, RS0 S τ σ → RS0 (S.c x) τ σ
  | [], _, h => h
  | _ :: _, _, ⟨v, r, e, h, q⟩ => ⟨v, r, e, fun t ht => let ⟨w, h1, h2⟩ := h t ht; ⟨w, h1, h2.c⟩, RS0.c q⟩
theorem RS0.len : ∀ {τ : LS} {σ : L2.St}, RS0 S τ σ → σ.length = τ.length
  | [], σ, h => by
    have h : σ = [] := h
    subst h; rfl
  | _ :: _, _, ⟨v, r, e, _, q⟩ => by subst e; simp [RS0.len q]
theorem RX.c {e : Exc} {cls : Value} {d : Option Addr} (h : RX S e cls d) : RX (S.c x) e cls d := by
  obtain ⟨h1, h2⟩ := h
  refine ⟨h1, h2.imp id ?_⟩
  rintro ⟨a, vs, e1, f, n, r⟩
  exact ⟨a, vs, e1, f, n, r.c⟩
/-! try .. except C as n -/
/-- behind a suite the name is gone -/
def unname (i : Nat) : Fl → Fl
  | .nx τ => .nx (τ.set i none)
  | .bk τ => .bk (τ.set i none)
  | .ct τ => .ct (τ.set i none)
  | .rt t => .rt t
  | .xc e τ => .xc e τ
def noXc : Fl → Bool
  | .xc _ _ => false
  | _ => true
def sTry (xm : List (Str × Bool)) (i : Nat) (b : FS) (su : Exc → FS) : FS := fun τ h => (b τ h).bind fun fl h1 => match fl with
  | .xc e τ1 => match xm.lookup e.c with
    | some true => if i < τ1.length then (su e (τ1.set i none) h1).bind fun fl2 h2 => if noXc fl2 = true then .ok (unname i fl2) h2 else .bad else .bad
    | some false => .ok (.xc e τ1) h1
    | none => .bad
  | fl => .ok fl h1
section
variable {K : PySem.W.Frag} {ca : Str → Addr} {fa : Str → V} {c : Value} {i : Nat} {tb : WX → TS} {ts : Addr → Value → Option Addr → TS} {xm : List (Str × Bool)} {b : FS} {su : Exc → FS} {W0 : WX}
theorem suite_go {D D' : Ends} {σ : L2.St} {τ : LS} {e : Exc} {a : Addr} {cls : Value} {d : Option Addr} {ts : TS} {g : FS} (eG : S.G = ⟨K, ca, fa, none⟩) (k : Ok S) (rs : RS S τ σ) (hi : i < τ.length) (rx : RX S e cls d)
    (hs : SimS ⟨K, ca, fa, some ⟨a, cls, d, i, e⟩⟩ W0 ts g)
    (hn : ∀ σ' H, D.nx (σ'.set i none) H → D'.nx σ' H) (hb : ∀ σ' H, D.bk (σ'.set i none) H → D'.bk σ' H) (hc : ∀ σ' H, D.ct (σ'.set i none) H → D'.ct σ' H) (hr : ∀ v H, D.rt v H → D'.rt v H)
    (p : PG S W D ((g (τ.set i none) S.h).bind fun fl2 h2 => if noXc fl2 = true then .ok (unname i fl2) h2 else .bad)) : ts D' (σ.set i (some (.ref a))) S.H := by
  have eG2 : (S.c (some ⟨a, cls, d, i, e⟩)).G = ⟨K, ca, fa, some ⟨a, cls, d, i, e⟩⟩ := by unfold Sta.c; rw [eG]
  refine hs (S.c (some ⟨a, cls, d, i, e⟩)) _ (τ.set i none) D' eG2 k.c ⟨RS0.unset i rs.r.c, fun y hy => ?_⟩ ?_
  · have hy : some _ = some y := hy
    cases hy
    exact ⟨by rw [List.getElem?_set_self (by rw [rs.r.len]; exact hi)], rx.c⟩
  · show PG (S.c (some ⟨a, cls, d, i, e⟩)) W0 D' (g (τ.set i none) S.h)
    cases hg : g (τ.set i none) S.h with
    | bad => rw [hg] at p; exact p.elim
    | exc e2 h2 =>
      rw [hg] at p
      intro S2 e2 k2 st
      have eS2 : (S2.c none).G = S.G := by
        have : S2.G = _ := st.G
        unfold Sta.c
        rw [this, eG2, eG]
      exact p (S2.c none) e2 k2.c ⟨eS2, st.al, st.keep, st.own, st.pv, st.pk⟩
    | ok fl2 h2 =>
      rw [hg, bind_ok] at p
      intro S2 e2 k2 st
      have k2' : Ok (S2.c none) := k2.c
      have eS2 : (S2.c none).G = S.G := by
        have : S2.G = _ := st.G
        unfold Sta.c
        rw [this, eG2, eG]
      have st' : Step S (S2.c none) := ⟨eS2, st.al, st.keep, st.own, st.pv, st.pk⟩
      have xi : ∀ σ', XI (S2.c none) σ' := fun σ' y hy => by cases hy
      split at p
      · rename_i hx
        have p := p (S2.c none) e2 k2' st'
        match fl2, hx, p with
        | .nx τ2, _, p => exact fun σ2 rs2 => hn _ _ (p _ ⟨RS0.unset i rs2.r.c, xi _⟩)
        | .bk τ2, _, p => exact fun σ2 rs2 => hb _ _ (p _ ⟨RS0.unset i rs2.r.c, xi _⟩)
        | .ct τ2, _, p => exact fun σ2 rs2 => hc _ _ (p _ ⟨RS0.unset i rs2.r.c, xi _⟩)
        | .rt t, _, p => exact fun v rv => hr _ _ (p v rv.c)
      · exact p.elim
/-- the reading of a try, as one thing -/
def tTryAs (K : PySem.W.Frag) (c : Value) (i : Nat) (ts : Addr → Value → Option Addr → TS) (Wout : WX) (tb : WX → TS) : TS := fun D σ H => tb (wAs K c i ts Wout D) D σ H
theorem ps_tryT {X : Cx} {x n : Str} {c : Value} {body suite : List Stmt} {b₀ : Stmt} {np pos pos' : Pos} {tb : WX → TS} {ts : Addr → Value → Option Addr → TS} {Wout : WX} {i : Nat} {K : PySem.W.Frag} (hK : X.K = K) (hs : X.stack = X.env :: X.outer) (hf : X.env.frame = some X.env.locals) (hN : X.N.Nodup) (hi : X.N[i]? = some n) (hln : X.env.kindOf n = some .local) (hc : Names X x c) (tk : Takes X Wout)
    (hb : ∀ (W : WX) (pn : List (Addr × Obj)) (xe : Value → Shared → Prop), Takes (X.tr pn xe) W → PassesOwn (model X.prog X.w) X.A X.env xe → PSs (X.tr pn xe) body (tb W))
    (hsu : ∀ (a : Addr) (oe : Obj) (cls : Value) (d : Option Addr) (pn : List (Addr × Obj)), Zc cls d oe → (∃ vs, oe.data = .fields vs) → PSs (X.suite a ((a, oe) :: pn)) (b₀ :: suite) (ts a cls d)) :
    PS X (.Try body [.ExceptHandler (some (.Name x np)) (some n) (b₀ :: suite) pos'] [] [] pos) (tTryAs K c i ts Wout tb) := hK ▸ ps_try_as hs hf hN hi hln hc tk hb hsu
theorem sim_try (hk : ∀ n b, xm.lookup n = some b → PySem.W.exmOne K (.ref (ca n)) c = some b) (hb : ∀ W', SimS ⟨K, ca, fa, none⟩ W' (tb W') b)
    (hs : ∀ (a : Addr) (cls : Value) (d : Option Addr) (e : Exc), SimS ⟨K, ca, fa, some ⟨a, cls, d, i, e⟩⟩ W0 (ts a cls d) (su e)) :
    SimS ⟨K, ca, fa, none⟩ W (tTryAs K c i ts W tb) (sTry xm i b su) := fun S σ τ D e k rs p => by
  refine hb (wAs K c i ts W D) S σ τ D e k rs ?_
  unfold sTry at p
  cases hg : b τ S.h with
  | bad => rw [hg] at p; exact p.elim
  | exc e2 h2 => rw [hg] at p; exact p
  | ok fl h1 =>
    rw [hg, bind_ok] at p
    match fl, p with
    | .nx τ1, p => exact p
    | .bk τ1, p => exact p
    | .ct τ1, p => exact p
    | .rt t, p => exact p
    | .xc ex τ1, p =>
      intro S1 e1 k1 st1 σ1 rs1 cls d rx
      subst e1
      have eG := st1.G.trans e
      dsimp only at p
      have ec : cls = .ref (ca ex.c) := by rw [rx.1, eG]
      split at p
      · rename_i hl
        refine ⟨true, by rw [ec]; exact hk _ _ hl, fun _ a ha => ?_, fun z => Bool.noConfusion z⟩
        split at p
        · rename_i hi
          exact suite_go (D := D) eG k1 rs1 hi rx (hs a cls d ex) (fun _ _ z => z) (fun _ _ z => z) (fun _ _ z => z) (fun _ _ z => z) (PostG.mono st1 p)
        · exact p.elim
      · rename_i hl
        refine ⟨false, by rw [ec]; exact hk _ _ hl, fun z => Bool.noConfusion z, fun _ => ?_⟩
        exact p S1 rfl k1 st1 σ1 rs1 cls d rx
      · exact p.elim
/-- a try in a def that raises nothing itself -/
def sTry0 (xm : List (Str × Bool)) (i : Nat) (b : FS) (su : Exc → FS) : FS := fun τ h => (b τ h).bind fun fl h1 => match fl with
  | .xc e τ1 => match xm.lookup e.c with
    | some true => if i < τ1.length then (su e (τ1.set i none) h1).bind fun fl2 h2 => if noXc fl2 = true then .ok (unname i fl2) h2 else .bad else .bad
    | _ => .bad
  | fl => .ok fl h1
theorem sim_try0 (hk : ∀ n b, xm.lookup n = some b → PySem.W.exmOne K (.ref (ca n)) c = some b) (hb : ∀ W', SimS ⟨K, ca, fa, none⟩ W' (tb W') b)
    (hs : ∀ (a : Addr) (cls : Value) (d : Option Addr) (e : Exc), SimS ⟨K, ca, fa, some ⟨a, cls, d, i, e⟩⟩ W0 (ts a cls d) (su e)) :
    SimS ⟨K, ca, fa, none⟩ W (tTryAs K c i ts (fun _ _ _ _ => False) tb) (sTry0 xm i b su) := fun S σ τ D e k rs p => by
  refine hb (wAs K c i ts (fun _ _ _ _ => False) D) S σ τ D e k rs ?_
  unfold sTry0 at p
  cases hg : b τ S.h with
  | bad => rw [hg] at p; exact p.elim
  | exc e2 h2 => rw [hg] at p; exact p
  | ok fl h1 =>
    rw [hg, bind_ok] at p
    match fl, p with
    | .nx τ1, p => exact p
    | .bk τ1, p => exact p
    | .ct τ1, p => exact p
    | .rt t, p => exact p
    | .xc ex τ1, p =>
      intro S1 e1 k1 st1 σ1 rs1 cls d rx
      subst e1
      have eG := st1.G.trans e
      dsimp only at p
      have ec : cls = .ref (ca ex.c) := by rw [rx.1, eG]
      split at p
      · rename_i hl
        refine ⟨true, by rw [ec]; exact hk _ _ hl, fun _ a ha => ?_, fun z => Bool.noConfusion z⟩
        split at p
        · rename_i hi
          exact suite_go (D := D) eG k1 rs1 hi rx (hs a cls d ex) (fun _ _ z => z) (fun _ _ z => z) (fun _ _ z => z) (fun _ _ z => z) (PostG.mono st1 p)
        · exact p.elim
      · exact p.elim
end
/-! what a suite asks of what is caught -/
section
variable {K : PySem.W.Frag} {ca : Str → Addr} {fa : Str → V} {y : Ex}
/-- n.f -/
@[simp] def mXf (e : Exc) (c f : Str) : FE := fun _ h => if e.c = c then (match (e.ns.zip e.l).lookup f with | some t => .ok t h | none => .bad) else .bad
theorem sim_xf {C : Addr} {c f : Str} (hc : ca c = C) : SimE ⟨K, ca, fa, some y⟩ E (tXf y.a y.cls y.d C f (tVar y.i)) (mXf y.e c f) := fun S σ τ Q e k rs p => by
  unfold mXf at p
  obtain ⟨h1, h2, h3⟩ := rs.x y (by rw [e])
  split at p
  · rename_i he
    split at p
    · rename_i t ht
      refine ⟨_, h1, rfl, by rw [h2, e, ← hc, ← he], ?_⟩
      rcases h3 with ⟨n1, n2, _⟩ | ⟨dd, vs, e1, f1, n1, rl⟩
      · rw [n1] at ht; cases ht
      · have := (RvK.zip n1 rl).look (f := f)
        rw [ht] at this
        cases hv : (y.e.ns.zip vs).lookup f with
        | none => rw [hv] at this; exact this.elim
        | some w => rw [hv] at this; exact ⟨dd, _, w, e1, f1.1, hv, p S rfl k (Step.refl S) w this⟩
    · exact p.elim
  · exact p.elim
/-- one of two readings -/
def tAlt (t1 t2 : TE) : TE := fun σ H Q => t1 σ H Q ∨ t2 σ H Q
theorem pe_alt {X : Cx} {e : Expr} {t1 t2 : TE} (h1 : PE X e t1) (h2 : PE X e t2) : PE X e (tAlt t1 t2) := ⟨fun pins s σ H Q I h => h.elim (h1.run pins s σ H Q I) (h2.run pins s σ H Q I)⟩
@[simp] def mAlt (f g : FE) : FE := fun τ h => match f τ h with | .bad => g τ h | r => r
theorem mAlt_bad {f g : FE} {τ : LS} {h : AH} (e : f τ h = .bad) : mAlt f g τ h = g τ h := by unfold mAlt; rw [e]
theorem sim_alt {t1 t2 : TE} {f g : FE} (h1 : SimE G E t1 f) (h2 : SimE G E t2 g) : SimE G E (tAlt t1 t2) (mAlt f g) := fun S σ τ Q e k rs p => by
  unfold mAlt at p
  split at p
  · exact .inr (h2 S σ τ Q e k rs p)
  · exact .inl (h1 S σ τ Q e k rs p)
/-- isinstance(n, c), isinstance(n, (c, ..)), n of the class c0 -/
def rIsX (K : PySem.W.Frag) (D a : Addr) (cls : Value) (d : Option Addr) : List V → Hp → VK → Prop := fun xs H Q => cls = .ref D ∧ (∃ dd fs, d = some dd ∧ H dd = some (.xd fs)) ∧
  ((∃ (c : V) (u : Value) (b : Bool), xs = [.ref a, c] ∧ ClsV c u ∧ PySem.W.kitOne K (.ref D) u = some b ∧ Q (.bl b) H) ∨
    ∃ (tp : Addr) (cs : List V) (us : List Value) (b : Bool), xs = [.ref a, .ref tp] ∧ H tp = some (.tup cs) ∧ Paired ClsV cs us ∧ PySem.W.kitAny K (.ref D) us = some b ∧ Q (.bl b) H)
theorem call_isX {X : Cx} {a D : Addr} {oe : Obj} {pn : List (Addr × Obj)} {cls : Value} {d : Option Addr} (C : ExcC X.K D) (hz : Zc cls d oe) (hf : ∃ vs, oe.data = .fields vs) : CallR (X.suite a ((a, oe) :: pn)) (.builtin "isinstance") (rIsX X.K D a cls d) := by
  intro pins s σ H xs us Q I r h
  obtain ⟨rfl, ⟨dd, fs, rfl, ed⟩, h⟩ := h
  obtain ⟨ha, _⟩ := I.pin (a, oe) (List.mem_append_left _ List.mem_cons_self)
  obtain ⟨vs, hd⟩ := hf
  have hx : ObjOk X.prog X.w H s.heap dd (.xd fs) := I.hok dd _ ed
  obtain ⟨mA, hns, hr⟩ := hx
  obtain ⟨od, ho, hl⟩ := lookIn_ns hns
  have J : PySem.W.InstAt s.heap a oe D (some od) := ⟨ha, hz.1, by unfold PySem.W.notCls; rw [hd] <;> rfl, by rw [hz.2]; exact ho⟩
  have hcl : (PySem.W.clsIn X.K D).isSome = true := by
    obtain ⟨cd, hc, _⟩ := PySem.W.any_some C.hd
    rw [hc]; rfl
  have Z := PySem.W.kitx_exc (x := a) (ox := oe) (od := some od) hcl C.hg C.hk C.hs C.ha C.hn C.ht C.hm
  rcases h with ⟨c, u, b, rfl, k, e, q⟩ | ⟨tp, cs, us', b, rfl, hT, k, e, q⟩
  · obtain ⟨u1, u2, rfl, r1, r2⟩ := vals2 r
    have e2 := k.eq r2
    subst e2
    cases r1
    exact PySem.W.kia_one Z I.kIn J e (fun z => nomatch z) fun tk => ⟨.bl b, H, I.tok tk, rfl, q⟩
  · obtain ⟨u1, u2, rfl, r1, r2⟩ := vals2 r
    cases (show u2 = Value.ref tp from r2)
    cases r1
    obtain ⟨_, its, rv, o, h1, h2, n, h3⟩ := (show ObjOk X.prog X.w H s.heap tp (.tup cs) from I.hok tp _ hT)
    have e3 := ClsV.all k rv
    subst e3
    obtain ⟨oc, od', dt, sl⟩ := o
    simp only at h2 h3
    subst h2 h3
    exact PySem.W.kia_tup Z I.kIn J h1 e (fun z => nomatch z) fun tk => ⟨.bl b, H, I.tok tk, rfl, q⟩
@[simp] def mIsX (e : Exc) (c : Str) (b : Bool) : FE := fun _ h => if e.c = c then (match e.ns with | [] => .bad | _ => .ok (.bl b) h) else .bad
theorem isX_at {σ : L2.St} {τ : LS} (e : S.G = ⟨K, ca, fa, some y⟩) (rs : RS S τ σ) {c : Str} {C : Addr} (hc : ca c = C) (he : y.e.c = c) (hn : y.e.ns ≠ []) : σ[y.i]? = some (some (.ref y.a)) ∧ y.cls = .ref C ∧ ∃ dd fs, y.d = some dd ∧ S.H dd = some (.xd fs) ∧ Fz S dd (.xd fs) := by
  obtain ⟨h1, h2, h3⟩ := rs.x y (by rw [e])
  refine ⟨h1, by rw [h2, e, ← hc, ← he], ?_⟩
  rcases h3 with ⟨n1, _⟩ | ⟨dd, vs, e1, f1, n1, rl⟩
  · exact (hn n1).elim
  · exact ⟨dd, _, e1, f1.1, f1⟩
theorem sim_isX1 {C : Addr} {c : Str} {v : V} {u : Value} {b : Bool} (hc : ca c = C) (hv : ClsV v u) (hk : PySem.W.kitOne K (.ref C) u = some b) : SimE ⟨K, ca, fa, some y⟩ E (tCB (rIsX K C y.a y.cls y.d) (tCons (tVar y.i) (tCons (tC v) tNil))) (mIsX y.e c b) := fun S σ τ Q e k rs p => by
  unfold mIsX at p
  split at p
  · rename_i he
    split at p
    · exact p.elim
    · rename_i hn
      obtain ⟨h1, h2, dd, fs, h3, h4, _⟩ := isX_at e rs hc he (fun z => hn z)
      exact ⟨_, h1, h2, ⟨dd, fs, h3, h4⟩, .inl ⟨v, u, b, rfl, hv, hk, p S rfl k (Step.refl S) _ (by simp only [Rv])⟩⟩
  · exact p.elim
/-- a tuple of classes -/
inductive CTs : TA → List V → Prop
  | nil : CTs tNil []
  | cons {v : V} {t : TA} {vs : List V} : CTs t vs → CTs (tCons (tC v) t) (v :: vs)
theorem CTs.go {t : TA} {vs : List V} (h : CTs t vs) {σ : L2.St} {H : Hp} {Q : List V → Hp → Prop} (q : Q vs H) : t σ H Q := by
  induction h generalizing Q with
  | nil => exact q
  | cons _ ih => exact ih q
theorem sim_isXt {C : Addr} {c : Str} {t : TA} {vs : List V} {us : List Value} {b : Bool} (hc : ca c = C) (ht : CTs t vs) (hl : vs.length ≤ 100) (hv : Paired ClsV vs us) (hk : PySem.W.kitAny K (.ref C) us = some b) : SimE ⟨K, ca, fa, some y⟩ E (tCB (rIsX K C y.a y.cls y.d) (tCons (tVar y.i) (tCons (tTup t) tNil))) (mIsX y.e c b) := fun S σ τ Q e k rs p => by
  unfold mIsX at p
  split at p
  · rename_i he
    split at p
    · exact p.elim
    · rename_i hn
      obtain ⟨h1, h2, dd, fs, h3, h4, f1⟩ := isX_at e rs hc he (fun z => hn z)
      refine ⟨_, h1, ht.go ⟨Nat.le_trans hl (by decide), fun q hq => ?_⟩⟩
      have g := Grow.upd (u := HO.tup vs) hq
      have st := step_at k g
      exact ⟨h2, ⟨dd, fs, h3, g dd _ h4⟩, .inr ⟨q, vs, us, b, rfl, upd_same, hv, hk, p (S.at (upd S.H q (.tup vs))) rfl (ok_at k g) st _ (by simp only [Rv])⟩⟩
  · exact p.elim
end
end M
/-! ### methods of texts; is of bools; insert, index, list * int; o.f op= e, d[k] op= e; isinstance with a tuple of built-in types; a module's dict asked with any text -/
namespace M
open PySem PySem.Spec PyProof.Rows L2
variable {G : Env} {W : WX} {S : Sta} {E : L2.St → XK}
/-! methods of texts -/
@[simp] def mM0 (g : Str → AH → Res T) (fo : FE) : FE := fun τ h => (fo τ h).bind fun x h1 => match x with | .str a => g a h1 | _ => .bad
@[simp] def mM1 (g : Str → T → AH → Res T) (fo fe : FE) : FE := fun τ h => (fo τ h).bind fun x h1 => match x with | .str a => (fe τ h1).bind fun y h2 => g a y h2 | _ => .bad
def SimM0 (G : Env) (r : V → List V → Hp → VK → Prop) (g : Str → AH → Res T) : Prop := ∀ (S : Sta) (a : Str) (X : Exc → Sta → Prop) (Q : VK), S.G = G → Ok S → PostG S X (fun t S' => ∀ v, Rv S' t v → Q v S'.H) (g a S.h) → r (.str a) [] S.H Q
def SimM1 (G : Env) (r : V → List V → Hp → VK → Prop) (g : Str → T → AH → Res T) : Prop := ∀ (S : Sta) (a : Str) (y : T) (v : V) (X : Exc → Sta → Prop) (Q : VK), S.G = G → Ok S → Rv S y v → PostG S X (fun t S' => ∀ v, Rv S' t v → Q v S'.H) (g a y S.h) → r (.str a) [v] S.H Q
theorem sim_M0 {r : V → List V → Hp → VK → Prop} {g : Str → AH → Res T} {to : TE} {fo : FE} (hr : SimM0 G r g) (ho : SimE G E to fo) : SimE G E (tM0 r to) (mM0 g fo) := fun S σ τ Q e k rs p => by
  refine ho S σ τ _ e k rs (PostG.imp (fun x S1 q u ru => ?_) (PostG.bind p))
  obtain ⟨k1, s1, q⟩ := q
  split at q
  · rename_i a
    simp only [Rv] at ru; subst ru
    exact ⟨⟨a, rfl⟩, hr S1 a _ Q (s1.G.trans e) k1 q⟩
  · exact q.elim
theorem sim_M1 {r : V → List V → Hp → VK → Prop} {g : Str → T → AH → Res T} {to te : TE} {fo fe : FE} (hr : SimM1 G r g) (ho : SimE G E to fo) (he : SimE G E te fe) : SimE G E (tM1 r to te) (mM1 g fo fe) := fun S σ τ Q e k rs p => by
  refine ho S σ τ _ e k rs (PostG.imp (fun x S1 q u ru => ?_) (PostG.bind p))
  obtain ⟨k1, s1, q⟩ := q
  split at q
  · rename_i a
    simp only [Rv] at ru; subst ru
    refine ⟨⟨a, rfl⟩, he S1 σ τ _ (s1.G.trans e) k1 (rs.mono s1) (PostG.imp (fun y S2 q v rv => ?_) (PostG.bind q))⟩
    obtain ⟨k2, s2, q⟩ := q
    exact hr S2 a y v _ Q (s2.G.trans (s1.G.trans e)) k2 rv q
  · exact q.elim
@[simp] def gUpper (a : Str) (h : AH) : Res T := if a.length ≤ 5592405 then .ok (.str (Txt.upper a)) h else .bad
theorem sr_upper : SimM0 G (fun x xs H Q => ∃ a, x = .str a ∧ xs = [] ∧ a.length ≤ 5592405 ∧ Q (.str (Txt.upper a)) H) gUpper := fun S a X Q e k p => by
  unfold gUpper at p
  split at p
  · rename_i hl; exact ⟨a, rfl, rfl, hl, p S rfl k (Step.refl S) _ (by simp only [Rv])⟩
  · exact p.elim
@[simp] def gStarts (a : Str) (y : T) (h : AH) : Res T := match y with | .str b => .ok (.bl (Txt.startswith a b)) h | _ => .bad
theorem sr_starts : SimM1 G (fun x xs H Q => ∃ a b, x = .str a ∧ xs = [.str b] ∧ Q (.bl (Txt.startswith a b)) H) gStarts := fun S a y v X Q e k r p => by
  unfold gStarts at p
  split at p
  · simp only [Rv] at r; subst r; exact ⟨a, _, rfl, rfl, p S rfl k (Step.refl S) _ (by simp only [Rv])⟩
  · exact p.elim
@[simp] def gFind (a : Str) (y : T) (h : AH) : Res T := match y with | .str b => .ok (.int (Txt.find a b)) h | _ => .bad
theorem sr_find : SimM1 G (fun x xs H Q => ∃ a b, x = .str a ∧ xs = [.str b] ∧ Q (.int (Txt.find a b)) H) gFind := fun S a y v X Q e k r p => by
  unfold gFind at p
  split at p
  · simp only [Rv] at r; subst r; exact ⟨a, _, rfl, rfl, p S rfl k (Step.refl S) _ (by simp only [Rv])⟩
  · exact p.elim
@[simp] def gPart (a : Str) (y : T) (h : AH) : Res T := match y with
  | .str b => if (b.length == 0) = false ∧ a.length ≤ sizeLine then .ok (.tup [.str (Txt.partition a b).1, .str (Txt.partition a b).2.1, .str (Txt.partition a b).2.2]) h else .bad
  | _ => .bad
theorem sr_part : SimM1 G (fun x xs H Q => ∃ a b, x = .str a ∧ xs = [.str b] ∧ (b.length == 0) = false ∧ a.length ≤ sizeLine ∧ ∀ p, H p = none → Q (.ref p) (upd H p (.tup [.str (Txt.partition a b).1, .str (Txt.partition a b).2.1, .str (Txt.partition a b).2.2]))) gPart := fun S a y v X Q e k r p => by
  unfold gPart at p
  split at p
  · split at p
    · rename_i b hl
      simp only [Rv] at r; subst r
      exact ⟨a, b, rfl, rfl, hl.1, hl.2, new_fz k p fun q hq f => rv_tup f (RvL.cons (by simp only [Rv]) (RvL.cons (by simp only [Rv]) (RvL.cons (by simp only [Rv]) RvL.nil)))⟩
    · exact p.elim
  · exact p.elim
theorem rvL_strs : ∀ ys : List Str, RvL S (ys.map T.str) (ys.map V.str)
  | [] => RvL.nil
  | y :: ys => RvL.cons (by simp only [Rv]) (rvL_strs ys)
@[simp] def gSplit (a : Str) (y : T) (h : AH) : Res T := match y with
  | .str b => if (b.length == 0) = false ∧ a.length + 2 ≤ sizeLine then .ok (.lst ((Txt.split a b).map .str)) h else .bad
  | _ => .bad
theorem sr_split : SimM1 G (fun x xs H Q => ∃ a b, x = .str a ∧ xs = [.str b] ∧ (b.length == 0) = false ∧ a.length + 2 ≤ sizeLine ∧ rNewStrs (Txt.split a b) H Q) gSplit := fun S a y v X Q e k r p => by
  unfold gSplit at p
  split at p
  · split at p
    · rename_i b hl
      simp only [Rv] at r; subst r
      exact ⟨a, b, rfl, rfl, hl.1, hl.2, new_fz k p fun q hq f => rv_lst f (rvL_strs _)⟩
    · exact p.elim
  · exact p.elim
/-- all texts, or not -/
def strsOf : List T → Option (List Str)
  | [] => some []
  | .str x :: r => (strsOf r).map (x :: ·)
  | _ :: _ => none
theorem strsOf_ok : ∀ {l : List T} {vs : List V} {xs : List Str}, RvL S l vs → strsOf l = some xs → vs = xs.map V.str
  | [], _, _, r, h => by
    simp only [RvL] at r
    unfold strsOf at h; cases h; exact r
  | t :: l, vs, xs, r, h => by
    simp only [RvL] at r
    obtain ⟨v, m, rfl, r1, r2⟩ := r
    unfold strsOf at h
    split at h
    · rename_i e; cases e
    · rename_i x r' e
      cases e
      obtain ⟨ys, h1, rfl⟩ := Option.map_eq_some_iff.mp h
      simp only [Rv] at r1; subst r1
      rw [strsOf_ok r2 h1]; rfl
    · cases h
@[simp] theorem strsOf_map : ∀ xs : List Str, strsOf (xs.map T.str) = some xs
  | [] => rfl
  | x :: xs => by show (strsOf (xs.map T.str)).map (x :: ·) = _; rw [strsOf_map xs]; rfl
@[simp] def gJoin (a : Str) (y : T) (h : AH) : Res T := match (seqOf y h).bind strsOf with
  | some ys => if (ys.map (·.length)).sum + ys.length * a.length ≤ 16777216 then .ok (.str (Txt.join a ys)) h else .bad
  | none => .bad
theorem sr_join : SimM1 G (fun x xs H Q => ∃ a p, ∃ ys : List Str, x = .str a ∧ xs = [.ref p] ∧ (SqL G.K H p (ys.map V.str) ∨ SqT G.K H p (ys.map V.str)) ∧ (ys.map (·.length)).sum + ys.length * a.length ≤ 16777216 ∧ Q (.str (Txt.join a ys)) H) gJoin := fun S a y v X Q e k r p => by
  unfold gJoin at p
  split at p
  · rename_i ys hy
    split at p
    · rename_i hl
      obtain ⟨l, h1, h2⟩ := Option.bind_eq_some_iff.mp hy
      obtain ⟨q, vs, rfl, hs, rl⟩ := seqOf_ok k h1 r
      have := strsOf_ok rl h2
      subst this
      rw [e] at hs
      exact ⟨a, q, ys, rfl, rfl, hs, hl, p S rfl k (Step.refl S) _ (by simp only [Rv])⟩
    · exact p.elim
  · exact p.elim
theorem x_join {X : Cx} {K : PySem.W.Frag} (h : X.K = K) {o e : Expr} {to te : TE} {apos pos : Pos} (ho : PE X o to) (he : PE X e te) (hs : starEach [e] X.env = [(false, eval e X.env)] := by rfl) (hbase : attributeBase o "join" X.env (eval o X.env) = eval o X.env := by rfl) (hline : (apos.endLine == pos.line) = true := by rfl) :
    PE X (.Call (.Attribute o "join" apos) [e] [] pos) (tM1 (fun x xs H Q => ∃ a p, ∃ ys : List Str, x = .str a ∧ xs = [.ref p] ∧ (SqL K H p (ys.map V.str) ∨ SqT K H p (ys.map V.str)) ∧ (ys.map (·.length)).sum + ys.length * a.length ≤ 16777216 ∧ Q (.str (Txt.join a ys)) H) to te) := h ▸ pe_join ho he hs hbase hline
/-! order of texts -/
@[simp] abbrev oLeS := P2 (fun x y => match x, y with | .str i, .str j => some (.bl (!decide (j.cps.toList < i.cps.toList))) | _, _ => none)
@[simp] abbrev oGtS := P2 (fun x y => match x, y with | .str i, .str j => some (.bl (decide (j.cps.toList < i.cps.toList))) | _, _ => none)
@[simp] abbrev oGeS := P2 (fun x y => match x, y with | .str i, .str j => some (.bl (!decide (i.cps.toList < j.cps.toList))) | _, _ => none)
theorem so_leS : SimR2 G (fun x y H Q => ∃ i j, x = .str i ∧ y = .str j ∧ Q (.bl (!decide (j.cps.toList < i.cps.toList))) H) oLeS := simP2 fun S x y t u v Q e k ru rv hg q => by
  split at hg
  · cases hg; simp only [Rv] at ru rv; subst ru; subst rv; exact ⟨_, _, rfl, rfl, q _ (by simp only [Rv])⟩
  · cases hg
theorem so_gtS : SimR2 G (fun x y H Q => ∃ i j, x = .str i ∧ y = .str j ∧ Q (.bl (decide (j.cps.toList < i.cps.toList))) H) oGtS := simP2 fun S x y t u v Q e k ru rv hg q => by
  split at hg
  · cases hg; simp only [Rv] at ru rv; subst ru; subst rv; exact ⟨_, _, rfl, rfl, q _ (by simp only [Rv])⟩
  · cases hg
theorem so_geS : SimR2 G (fun x y H Q => ∃ i j, x = .str i ∧ y = .str j ∧ Q (.bl (!decide (i.cps.toList < j.cps.toList))) H) oGeS := simP2 fun S x y t u v Q e k ru rv hg q => by
  split at hg
  · cases hg; simp only [Rv] at ru rv; subst ru; subst rv; exact ⟨_, _, rfl, rfl, q _ (by simp only [Rv])⟩
  · cases hg
/-! is of bools -/
@[simp] abbrev oIsB := P2 (fun x y => match x, y with | .bl a, .bl b => some (.bl (decide (a = b))) | _, _ => none)
@[simp] abbrev oNotB := P2 (fun x y => match x, y with | .bl a, .bl b => some (.bl (!decide (a = b))) | _, _ => none)
theorem so_isB : SimR2 G rIsB oIsB := simP2 fun S x y t u v Q e k ru rv hg q => by
  split at hg
  · cases hg; simp only [Rv] at ru rv; subst ru; subst rv; exact ⟨_, _, rfl, rfl, q _ (by simp only [Rv])⟩
  · cases hg
theorem so_notB : SimR2 G rNotB oNotB := simP2 fun S x y t u v Q e k ru rv hg q => by
  split at hg
  · cases hg; simp only [Rv] at ru rv; subst ru; subst rv; exact ⟨_, _, rfl, rfl, q _ (by simp only [Rv])⟩
  · cases hg
/-! list * int: a list that is wholly known -/
@[simp] def gRep (x y : T) (h : AH) : Option (List T) := match y with
  | .int k => (lstIn x h).bind fun l => if -(2 ^ 60) ≤ k ∧ k.natAbs.log2 < 60 ∧ l.length * k.toNat ≤ sizeLine then some (List.replicate k.toNat l).flatten else none
  | _ => none
theorem RvL.rep {l : List T} {vs : List V} (r : RvL S l vs) : ∀ n, RvL S (List.replicate n l).flatten (List.replicate n vs).flatten
  | 0 => RvL.nil
  | n + 1 => by
    rw [List.replicate_succ, List.replicate_succ, List.flatten_cons, List.flatten_cons]
    exact r.app (RvL.rep r n)
@[simp] def oRep : T → T → AH → Res T := fun x y h => (pur (gRep x y h) h).bind fun l h1 => .ok (.lst l) h1
@[simp] def oRepO : T → T → AH → Res T := fun x y h => (pur (gRep x y h) h).bind fun l h1 => .ok (.obj h1.length) (h1 ++ [some (.lst l)])
theorem rep_ok {x y : T} {u v : V} {l : List T} (k : Ok S) (ru : Rv S x u) (rv : Rv S y v) (h : gRep x y S.h = some l) : ∃ p i xs, u = .ref p ∧ v = .int i ∧ S.H p = some (.lst xs) ∧ -(2 ^ 63) ≤ i ∧ i < 2 ^ 63 ∧ xs.length * i.toNat ≤ sizeLine ∧ RvL S l (List.replicate i.toNat xs).flatten := by
  unfold gRep at h
  split at h
  · rename_i i
    obtain ⟨m, hm, h⟩ := Option.bind_eq_some_iff.mp h
    split at h
    · rename_i hz
      cases h
      obtain ⟨p, vs, rfl, hp, r⟩ := lstIn_ok k hm ru
      simp only [Rv] at rv
      have hb : i.natAbs < 2 ^ 60 := by
        by_cases z : i.natAbs = 0
        · omega
        · exact (Nat.log2_lt z).mp hz.2.1
      have : (2 : Nat) ^ 60 = 1152921504606846976 := by decide
      exact ⟨p, i, vs, rfl, rv, hp, by omega, by omega, by rw [r.len]; exact hz.2.2, r.rep _⟩
    · cases h
  · cases h
theorem so_rep : SimR2 G rRep oRep := fun S x y u v X Q e k ru rv p => by
  unfold oRep at p
  cases hg : gRep x y S.h with
  | none => rw [hg] at p; exact p.elim
  | some l =>
    rw [hg] at p
    obtain ⟨q, i, xs, rfl, rfl, hq, b1, b2, hl, r⟩ := rep_ok k ru rv hg
    refine ⟨q, i, xs, rfl, rfl, hq, b1, b2, hl, ?_⟩
    exact new_fz k p fun a ha f => rv_lst f (r.mono (step_at k (Grow.upd ha)))
theorem so_repO : SimR2 G rRep oRepO := fun S x y u v X Q e k ru rv p => by
  unfold oRepO at p
  cases hg : gRep x y S.h with
  | none => rw [hg] at p; exact p.elim
  | some l =>
    rw [hg] at p
    obtain ⟨q, i, xs, rfl, rfl, hq, b1, b2, hl, r⟩ := rep_ok k ru rv hg
    refine ⟨q, i, xs, rfl, rfl, hq, b1, b2, hl, ?_⟩
    exact new_obj k p fun S' st => ⟨_, rfl, r.mono st⟩
/-! insert, index -/
@[simp] def gIns : T → List T → AH → Res T
  | .obj i, [.int j, y], h => match h[i]? with
    | some (some (.lst l)) => if l.length < sizeLine ∧ 0 ≤ j ∧ j.natAbs.log2 < 60 then .ok .non (h.set i (some (.lst (l.take j.toNat ++ [y] ++ l.drop j.toNat)))) else .bad
    | _ => .bad
  | _, _, _ => .bad
theorem sm_insert : SimM G "list" (fun x vs H Q => ∃ (l : Addr) (xs : List V) (i : Int) (y : V), x = .ref l ∧ vs = [.int i, y] ∧ H l = some (.lst xs) ∧ xs.length < sizeLine ∧ 0 ≤ i ∧ i < 2 ^ 63 ∧ Q .non (upd H l (.lst (xs.take i.toNat ++ [y] ++ xs.drop i.toNat)))) gIns := fun S x xs u us X Q e k ru rus p => by
  unfold gIns at p
  split at p
  · rename_i i j y
    split at p
    · rename_i l hl
      split at p
      · rename_i hz
        obtain ⟨a, vs, rfl, hp, ha, rl⟩ := obj_lst k hl ru
        simp only [RvL] at rus
        obtain ⟨v, _, rfl, r1, w, _, rfl, r2, rfl⟩ := rus
        simp only [Rv] at r1
        subst r1
        have hb : j.natAbs < 2 ^ 60 := by
          by_cases z : j.natAbs = 0
          · omega
          · exact (Nat.log2_lt z).mp hz.2.2
        have : (2 : Nat) ^ 60 = 1152921504606846976 := by decide
        refine ⟨a, vs, j, w, rfl, rfl, ha, by rw [rl.len]; exact hz.1, hz.2.1, by omega, ?_⟩
        exact put_done k hl hp (RO.mk_lst (((rl.take _).app (RvL.cons r2 RvL.nil)).app (rl.drop _))) (by simp only [Rv]) p
      · exact p.elim
    · exact p.elim
  · exact p.elim
theorem x_index {X : Cx} {K : PySem.W.Frag} (h : X.K = K) : MtR X "list.index" (rIndex K) := h ▸ mt_index
/-- the place of the first like thing -/
def idxT (y : T) : List T → Option Nat
  | [] => none
  | x :: r => if eqF x y = true then some 0 else (idxT y r).map (· + 1)
@[simp] def gIdx : T → List T → AH → Res T := fun x xs h => match xs with
  | [y] => match lstOf x h with
    | some l => if flatT y = true ∧ l.all flatT = true then (match idxT y l with | some j => .ok (.int (j : Nat)) h | none => .bad) else .bad
    | none => .bad
  | _ => .bad
theorem idxT_ok {y : T} {w : V} (ry : Rv S y w) (fy : flatT y = true) : ∀ {l : List T} {vs : List V} {j : Nat}, RvL S l vs → l.all flatT = true → idxT y l = some j → ∃ z, vs[j]? = some z ∧ eqV z w = true ∧ ∀ (m : Nat) (z' : V), m < j → vs[m]? = some z' → eqV z' w = false
  | [], _, _, _, _, h => by cases h
  | x :: l, vs, j, r, fl, h => by
    simp only [RvL] at r
    obtain ⟨v, m, rfl, r1, r2⟩ := r
    rw [List.all_cons, Bool.and_eq_true] at fl
    have eq := eqF_ok ry r1 fy fl.1
    unfold idxT at h
    split at h
    · rename_i hx
      cases h
      exact ⟨v, rfl, by rw [eq]; exact hx, fun m z' hm => by omega⟩
    · rename_i hx
      obtain ⟨i, hi, rfl⟩ := Option.map_eq_some_iff.mp h
      obtain ⟨z, h1, h2, h3⟩ := idxT_ok ry fy r2 fl.2 hi
      refine ⟨z, by simpa using h1, h2, fun q z' hq hz => ?_⟩
      match q with
      | 0 =>
        simp at hz; subst hz
        rw [eq]; exact Bool.eq_false_iff.mpr hx
      | q + 1 => exact h3 q z' (by omega) (by simpa using hz)
theorem sm_index : SimM G "list" (rIndex G.K) gIdx := fun S x xs u us X Q e k ru rus p => by
  unfold gIdx at p
  split at p
  · split at p
    · rename_i y l hl
      split at p
      · rename_i hf
        split at p
        · rename_i j hj
          obtain ⟨a, vs, rfl, hs, rl⟩ := lstOf_ok k hl ru
          simp only [RvL] at rus
          obtain ⟨w, _, rfl, r1, rfl⟩ := rus
          obtain ⟨z, h1, h2, h3⟩ := idxT_ok r1 hf.1 rl hf.2 hj
          rw [e] at hs
          exact ⟨a, vs, w, j, z, rfl, rfl, hs, flat_ok r1 hf.1, flats_ok rl hf.2, h1, h2, h3, p S rfl k (Step.refl S) _ (by simp only [Rv])⟩
        · exact p.elim
      · exact p.elim
    · exact p.elim
  · exact p.elim
/-! isinstance(x, (T, ..)) of built-in types -/
def kitL (a : String) : List String → Option Bool
  | [] => some false
  | b :: r => match kitB a b with | some true => some true | some false => kitL a r | none => none
@[simp] def mIsiT (ns : List String) (fe : FE) : FE := fun τ h => (fe τ h).bind fun x h1 => match (tyOf x h1).bind fun a => kitL a ns with | some b => .ok (.bl b) h1 | none => .bad
theorem kitL_ok {K : PySem.W.Frag} {a : String} : ∀ {ns : List String} {b : Bool}, kitL a ns = some b → PySem.W.kitAny K (.type a) (ns.map .type) = some b
  | [], _, h => h
  | n :: ns, b, h => by
    unfold kitL at h
    split at h
    · rename_i hb; cases h
      exact kitAny_cons (kit_ty hb) (fun z => Bool.noConfusion z) fun _ => rfl
    · rename_i hb
      exact kitAny_cons (kit_ty hb) (fun _ => kitL_ok h) fun z => Bool.noConfusion z
    · cases h
theorem paired_ty : ∀ ns : List String, Paired ClsV (ns.map V.ty) (ns.map Value.type)
  | [] => .nil
  | n :: ns => .cons (.ty n) (paired_ty ns)
theorem sim_isiT {ns : List String} {te : TE} {fe : FE} {t : TA} (hl : ns.length ≤ 100) (he : SimE G E te fe) (ht : CTs t (ns.map V.ty)) : SimE G E (tCB (rIsiT G.K) (tCons te (tCons (tTup t) tNil))) (mIsiT ns fe) := fun S σ τ Q e k rs p => by
  refine he S σ τ _ e k rs (PostG.imp (fun x S1 q u ru => ?_) (PostG.bind p))
  obtain ⟨k1, s1, q⟩ := q
  split at q
  · rename_i b hb
    obtain ⟨a, h1, h2⟩ := Option.bind_eq_some_iff.mp hb
    refine ht.go ⟨by rw [List.length_map]; exact Nat.le_trans hl (by decide), fun r hr => ?_⟩
    have g := Grow.upd (u := HO.tup (ns.map V.ty)) hr
    have st := step_at k1 g
    have ty := tyOf_ok (S := S1.at (upd S1.H r (.tup (ns.map V.ty)))) (ok_at k1 g) (ru.mono st) (n := a) h1
    have eG : (S1.at (upd S1.H r (HO.tup (ns.map V.ty)))).G = G := st.G.trans (s1.G.trans e)
    rw [eG] at ty
    exact ⟨u, r, ns.map V.ty, _, ns.map Value.type, b, rfl, upd_same, paired_ty ns, ty, kitL_ok h2, q (S1.at (upd S1.H r (.tup (ns.map V.ty)))) rfl (ok_at k1 g) st (.bl b) (by simp only [Rv])⟩
  · exact q.elim
theorem x_isiT {X : Cx} {K : PySem.W.Frag} (h : X.K = K) : CallR X (.builtin "isinstance") (rIsiT K) := h ▸ call_isiT
/-! o.f op= e -/
@[simp] def sFldAugM (c f : Str) (g : T → T → AH → Res T) (fo fv : FE) : FS := fun τ h => liftE (fo τ h) τ fun x h1 => match x with
  | .obj i => match h1[i]? with
    | some (some (.ins c' m)) => if c' = c ∧ m.length < 1000 then (match m.lookup f with
      | some a => liftE (fv τ h1) τ fun y h2 => liftE (g a y h2) τ fun z h3 => match h3[i]? with
        | some (some (.ins c2 m2)) => if c2 = c ∧ m2.length < 1000 then .ok (.nx τ) (h3.set i (some (.ins c2 (putFT f z m2)))) else .bad
        | _ => .bad
      | none => .bad) else .bad
    | _ => .bad
  | _ => .bad
theorem sim_fldaug {c f : Str} {ta tv : TE} {fo fv : FE} {rd : V → V → Hp → VK → Prop} {g : T → T → AH → Res T} (hC : Cls G.K (G.ca c)) (hn : NoAttr G.K (G.ca c) f) (hr : SimR2 G rd g) (ha : SimE G (WE W) ta fo) (hv : SimE G (WE W) tv fv) : SimS G W (sFldAug G.K ta tv rd f) (sFldAugM c f g fo fv) := fun S σ τ D e k rs p => by
  refine ha S σ τ _ e k rs (PostG.imp (fun x S1 q u ru => ?_) (PG.lift rs p))
  obtain ⟨k1, s1, q⟩ := q
  have e1 := s1.G.trans e
  split at q
  · rename_i i
    split at q
    · rename_i c' m hm
      split at q
      · rename_i hz
        obtain ⟨rfl, hz⟩ := hz
        split at q
        · rename_i t ht
          obtain ⟨a, ho, rfl, hp, hH, dx, vs, rfl, rk⟩ := obj_at k1 hm ru
          have := rk.look (f := f)
          rw [ht] at this
          cases hv' : vs.lookup f with
          | none => rw [hv'] at this; exact this.elim
          | some w =>
            rw [hv'] at this
            refine ⟨a, G.ca c', dx, vs, w, rfl, by rw [hH, e1], hC, hn, hv', ?_⟩
            refine hv S1 σ τ _ e1 k1 (rs.mono s1) (PostG.imp (fun y S2 q2 v2 rv2 => ?_) (PG.lift (rs.mono s1) q))
            obtain ⟨k2, s2, q2⟩ := q2
            have e2 := s2.G.trans e1
            have this : Rv S1 t w := this
            refine hr S2 t y w v2 _ _ e2 k2 (this.mono s2) rv2 (PostG.imp (fun z S3 q3 v3 rv3 => ?_) (PG.lift (rs.mono (s1.trans s2)) q2))
            obtain ⟨k3, s3, q3⟩ := q3
            have e3 := s3.G.trans e2
            split at q3
            · rename_i c2 m2 hm2
              split at q3
              · rename_i hz2
                obtain ⟨rfl, hz2⟩ := hz2
                have hp3 := s3.al_lt (s2.al_lt hp)
                obtain ⟨a', ho', ea, hp', hH', dx', vs', rfl, rk'⟩ := obj_at k3 hm2 (show Rv S3 (.obj i) (.ref a) by simp only [Rv]; exact ⟨a, hp3, rfl⟩)
                cases ea
                have st := step_put (o' := .ins c2 (putFT f z m2)) (u := .ins (S3.G.ca c2) dx' (putF f v3 vs')) k3 hm2 hp'
                have q4 := q3 (S3.put _ _ _) rfl (ok_put k3 hm2 hp' ⟨dx', _, rfl, rk'.putF rv3⟩) st σ (rs.mono (((s1.trans s2).trans s3).trans st))
                refine ⟨dx', vs', by rw [hH', e3], by rw [rk'.len]; exact hz2, ?_⟩
                rw [← e3]; exact q4
              · exact q3.elim
            · exact q3.elim
        · exact q.elim
      · exact q.elim
    · exact q.elim
  · exact q.elim
/-! d[k] op= e -/
@[simp] def sDAugM (g : T → T → AH → Res T) (fd fy fv : FE) : FS := fun τ h => liftE (fd τ h) τ fun x h1 => liftE (fy τ h1) τ fun y h2 => match x, keyOf y with
  | .obj i, some kk => match h2[i]? with
    | some (some (.dct m)) => (match getT m kk with
      | some a => liftE (fv τ h2) τ fun y2 h3 => liftE (g a y2 h3) τ fun z h4 => match h4[i]? with
        | some (some (.dct m2)) => if m2.length < sizeLine then .ok (.nx τ) (h4.set i (some (.dct (putT m2 kk z)))) else .bad
        | _ => .bad
      | none => .bad)
    | _ => .bad
  | _, _ => .bad
theorem sim_daug {td ty tv : TE} {fd fy fv : FE} {rd : V → V → Hp → VK → Prop} {g : T → T → AH → Res T} (hr : SimR2 G rd g) (hd : SimE G (WE W) td fd) (hy : SimE G (WE W) ty fy) (hv : SimE G (WE W) tv fv) : SimS G W (sDAug td ty tv rd) (sDAugM g fd fy fv) := fun S σ τ D e k rs p => by
  refine hd S σ τ _ e k rs (PostG.imp (fun x S1 q u ru => ?_) (PG.lift rs p))
  obtain ⟨k1, s1, q⟩ := q
  have e1 := s1.G.trans e
  refine hy S1 σ τ _ e1 k1 (rs.mono s1) (PostG.imp (fun y S2 q v rv => ?_) (PG.lift (rs.mono s1) q))
  obtain ⟨k2, s2, q⟩ := q
  have e2 := s2.G.trans e1
  have s12 := s1.trans s2
  split at q
  · rename_i i kk hk q
    split at q
    · rename_i m hm
      split at q
      · rename_i t ht
        obtain ⟨a, ho, rfl, hp, hH, vs, rfl, rk⟩ := obj_at k2 hm (ru.mono s2)
        have hkv := keyOf_ok rv hk
        have := rk.get kk
        rw [ht] at this
        cases hv' : valV vs kk with
        | none => rw [hv'] at this; exact this.elim
        | some w =>
          rw [hv'] at this
          have this : Rv S2 t w := this
          subst hkv
          refine ⟨a, w, rfl, by rw [← hv']; exact DGet.k hH, ?_⟩
          refine hv S2 σ τ _ e2 k2 (rs.mono s12) (PostG.imp (fun y2 S3 q2 v2 rv2 => ?_) (PG.lift (rs.mono s12) q))
          obtain ⟨k3, s3, q2⟩ := q2
          have e3 := s3.G.trans e2
          refine hr S3 t y2 w v2 _ _ e3 k3 (this.mono s3) rv2 (PostG.imp (fun z S4 q3 v3 rv3 => ?_) (PG.lift (rs.mono (s12.trans s3)) q2))
          obtain ⟨k4, s4, q3⟩ := q3
          split at q3
          · rename_i m2 hm2
            split at q3
            · rename_i hz2
              obtain ⟨a', ho', ea, hp', hH', vs', rfl, rk'⟩ := obj_at k4 hm2 (show Rv S4 (.obj i) (.ref a) by simp only [Rv]; exact ⟨a, s4.al_lt (s3.al_lt hp), rfl⟩)
              cases ea
              have st := step_put (o' := .dct (putT m2 kk z)) (u := .dK (putK vs' kk v3)) k4 hm2 hp'
              have q4 := q3 (S4.put _ _ _) rfl (ok_put k4 hm2 hp' ⟨_, rfl, rk'.put kk rv3⟩) st σ (rs.mono (((s12.trans s3).trans s4).trans st))
              exact ⟨_, DPut.k hH' (by rw [rk'.len]; exact hz2), q4⟩
            · exact q3.elim
          · exact q3.elim
      · exact q.elim
    · exact q.elim
  · exact q.elim
/-! a module's dict asked with any text -/
def KFull (G : Env) (d : Addr) (rows : List (Str × T)) : Prop := ∀ z : Str, match rows.lookup z with
  | some t => ∃ u v, PySem.W.nsIn G.K d z = some (some u) ∧ RelV v u ∧ ∀ S, S.G = G → Rv S t v
  | none => PySem.W.nsIn G.K d z = some none
theorem kfull_go {z : Str} {G : Env} : ∀ {es : List DictEntry} {kvs : List (V × V)} {rows : List (Str × T)}, EsR es kvs → RwR G rows kvs →
    match rows.lookup z with
    | some t => ∃ e v, es.find? (·.key.isStr z) = some e ∧ RelV v e.val ∧ ∀ S, S.G = G → Rv S t v
    | none => es.find? (·.key.isStr z) = none ∧ es.any (·.refKey) = false
  | [], [], [], _, _ => ⟨rfl, rfl⟩
  | e :: es, (k, v) :: kvs, (s, t) :: rows, h1, h2 => by
    obtain ⟨⟨r1, r2⟩, h1⟩ := h1
    obtain ⟨⟨ek, rv⟩, h2⟩ := h2
    dsimp only at r1 r2 ek
    subst ek
    obtain ⟨tk, hk⟩ := (show ∃ t, e.key = Value.str s t from r1)
    have ih := kfull_go (z := z) h1 h2
    rw [List.lookup_cons, List.find?_cons, List.any_cons]
    by_cases q : z = s
    · subst q
      have e1 : e.key.isStr z = true := by rw [hk]; simp [Value.isStr]
      rw [e1, beq_self_eq_true]
      exact ⟨e, v, rfl, r2, rv⟩
    · have e1 : e.key.isStr z = false := by rw [hk]; simp [Value.isStr]; exact fun y => q y.symm
      have e2 : (z == s) = false := by simpa using q
      have e3 : e.refKey = false := by unfold DictEntry.refKey; rw [hk]
      rw [e1, e2]
      dsimp only
      split at ih
      · rename_i t' hl; rw [hl]; exact ih
      · rename_i hl; rw [hl, e3]; exact ih
theorem kfull_of {d : Addr} {es : Array DictEntry} {n : Nat} {kvs : List (V × V)} {rows : List (Str × T)} (hl : G.K.lookup d = some ⟨.type "dict", none, .dict es n, #[]⟩) (he : EsR es.toList kvs) (hr : RwR G rows kvs) : KFull G d rows := fun z => by
  have := kfull_go (z := z) he hr
  unfold PySem.W.nsIn
  rw [hl]
  dsimp only
  split at this
  · rename_i t ht
    obtain ⟨e, v, h1, h2, h3⟩ := this
    rw [h1]
    exact ⟨e.val, v, rfl, h2, h3⟩
  · rename_i ht
    rw [this.1, this.2]
    rfl
@[simp] abbrev oKinA (neg : Bool) (n : Str) (rows : List (Str × T)) := P2 (fun x y => match x, y with | .str z, .ref m => if m = n then some (.bl (if neg then !(rows.lookup z).isSome else (rows.lookup z).isSome)) else none | _, _ => none)
@[simp] abbrev oKdA (n : Str) (rows : List (Str × T)) := P2 (fun x y => match x, y with | .ref m, .str z => if m = n then rows.lookup z else none | _, _ => none)
theorem kfull_some {d : Addr} {rows : List (Str × T)} (h : KFull G d rows) (z : Str) : ∃ r, PySem.W.nsIn G.K d z = some r ∧ r.isSome = (rows.lookup z).isSome := by
  have := h z
  split at this
  · rename_i t ht
    obtain ⟨u, v, h1, _⟩ := this
    exact ⟨_, h1, by rw [ht]; rfl⟩
  · rename_i ht; exact ⟨_, this, by rw [ht]; rfl⟩
theorem so_kinA {n : Str} {d : Addr} {rows : List (Str × T)} (hd : G.fa n = .ref d) (hr : KFull G d rows) : SimR2 G (fun x y H Q => ∃ (z : Str) (r : Option Value), x = .str z ∧ y = .ref d ∧ PySem.W.nsIn G.K d z = some r ∧ Q (.bl r.isSome) H) (oKinA false n rows) := simP2 fun S x y t u v Q e k ru rv hg q => by
  split at hg
  · rename_i z m
    split at hg
    · rename_i hm
      subst hm; cases hg
      simp only [Rv] at ru rv
      obtain ⟨r, h1, h2⟩ := kfull_some hr z
      exact ⟨z, r, ru, by rw [rv, e, hd], h1, q _ (by simp only [Rv]; rw [h2]; rfl)⟩
    · cases hg
  · cases hg
theorem so_kninA {n : Str} {d : Addr} {rows : List (Str × T)} (hd : G.fa n = .ref d) (hr : KFull G d rows) : SimR2 G (fun x y H Q => ∃ (z : Str) (r : Option Value), x = .str z ∧ y = .ref d ∧ PySem.W.nsIn G.K d z = some r ∧ Q (.bl (!r.isSome)) H) (oKinA true n rows) := simP2 fun S x y t u v Q e k ru rv hg q => by
  split at hg
  · rename_i z m
    split at hg
    · rename_i hm
      subst hm; cases hg
      simp only [Rv] at ru rv
      obtain ⟨r, h1, h2⟩ := kfull_some hr z
      exact ⟨z, r, ru, by rw [rv, e, hd], h1, q _ (by simp only [Rv]; rw [h2]; rfl)⟩
    · cases hg
  · cases hg
theorem so_kdA {n : Str} {d : Addr} {rows : List (Str × T)} (hd : G.fa n = .ref d) (hr : KFull G d rows) : SimR2 G (fun x y H Q => ∃ (z : Str) (u0 : Value) (v0 : V), x = .ref d ∧ y = .str z ∧ PySem.W.nsIn G.K d z = some (some u0) ∧ RelV v0 u0 ∧ Q v0 H) (oKdA n rows) := simP2 fun S x y t u v Q e k ru rv hg q => by
  split at hg
  · rename_i m z
    split at hg
    · rename_i hm
      subst hm
      simp only [Rv] at ru rv
      have := hr z
      rw [hg] at this
      obtain ⟨u0, v0, h1, h2, h3⟩ := this
      exact ⟨z, u0, v0, by rw [ru, e, hd], rv, h1, h2, q _ (h3 S e)⟩
    · cases hg
  · cases hg
/-! tuple + tuple, any of them empty -/
@[simp] def gCatA : T → T → Option T
  | .tup l, .tup m => if l.length + m.length ≤ sizeLine then some (.tup (l ++ m)) else none
  | _, _ => none
@[simp] abbrev oCatA : T → T → AH → Res T := P2 gCatA
theorem x_catA {X : Cx} {K : PySem.W.Frag} (h : X.K = K) : OpR X (binaryOp .Add) (rCatA K) := h ▸ op_catA
theorem so_catA : SimR2 G (rCatA G.K) oCatA := fun S x y u v X Q e k ru rv p => by
  rw [← e]
  unfold oCatA P2 pur at p
  split at p
  · rename_i t ht
    unfold gCatA at ht
    split at ht
    · rename_i l m
      split at ht
      · rename_i hz
        cases ht
        obtain ⟨a, xs, ru', hs, rl⟩ := tupOf_ok (l := l) rfl ru
        obtain ⟨b, ys, rv', hs2, rm⟩ := tupOf_ok (l := m) rfl rv
        have nx : xs = [] → l = [] := by
          rintro rfl
          have := rl.len
          exact List.length_eq_zero_iff.mp (by simpa using this.symm)
        have ny : ys = [] → m = [] := by
          rintro rfl
          have := rm.len
          exact List.length_eq_zero_iff.mp (by simpa using this.symm)
        subst ru'; subst rv'
        refine ⟨a, b, xs, ys, rfl, rfl, hs, hs2, by rw [rl.len, rm.len]; exact hz, fun z => ?_, fun _ z => ?_, fun _ _ => new_fz k p fun p n f => rv_tup f ((rl.app rm).mono (step_at (by assumption) (Grow.upd n)))⟩
        · have z := nx z; subst z
          exact p S rfl k (Step.refl S) _ rv
        · have z := ny z; subst z
          rw [List.append_nil] at p
          exact p S rfl k (Step.refl S) _ ru
      · cases ht
    · cases ht
  · exact p.elim
/-! n.bit_length() -/
@[simp] def mBits (fo : FE) : FE := fun τ h => (fo τ h).bind fun x h1 => match x with | .int i => .ok (.int (Builtin.Int.intBits i : Nat)) h1 | _ => .bad
theorem sim_bits {to : TE} {fo : FE} (ho : SimE G E to fo) : SimE G E (tBits to) (mBits fo) := fun S σ τ Q e k rs p => by
  refine ho S σ τ _ e k rs (PostG.imp (fun x S1 q u ru => ?_) (PostG.bind p))
  obtain ⟨k1, s1, q⟩ := q
  split at q
  · simp only [Rv] at ru; exact ⟨_, ru, q S1 rfl k1 (Step.refl S1) _ (by simp only [Rv])⟩
  · exact q.elim
end M
/-! a call of a local that holds a def; len(set(t)) -/
/- a level below another -/
namespace M
open PySem PySem.Spec PyProof.Rows L2
variable {G : Env} {W : WX} {S : Sta} {E : L2.St → XK}
/-- the local i holds the def nm, with the mirror m: its call; else as els -/
@[simp] def mCallL (i : Nat) (nm : Str) (n : Nat) (m : List T → AH → Res T) (fr : FA) (els : FE) : FE := fun τ h => match τ[i]? with
  | some (some (.ref a)) => if a = nm then mCall n m fr τ h else els τ h
  | _ => .bad
theorem sim_callL {i n : Nat} {nm : Str} {f : Addr} {m : List T → AH → Res T} {ta : TA} {fa : FA} {tb : TE} {fb : FE} (hl : G.fa nm = .ref f) (ha : SimA G E ta fa) (hb : SimE G E tb fb) :
    SimE G E (tAlt (tCallL i f (spM G n m) [] (fun _ _ _ => True) ta) tb) (mCallL i nm n m fa fb) := fun S σ τ Q e k rs p => by
  unfold mCallL at p
  split at p
  · rename_i a ht
    split at p
    · rename_i h
      subst h
      obtain ⟨w, h1, h2⟩ := rs.get ht
      simp only [Rv] at h2
      rw [e, hl] at h2
      subst h2
      exact .inl ⟨h1, sim_call ha S σ τ Q e k rs p⟩
    · exact .inr (hb S σ τ Q e k rs p)
  · exact p.elim
/-- an own class as its instances' fields are asked -/
structure TxC (K : PySem.W.Frag) (C : Addr) (fs : List Str) : Prop where
  cl : Cls K C
  no : ∀ f ∈ fs, NoAttr K C f
section
variable {X : Cx} {CX : CXT} {k : Nat} {f C : Addr} {fd : FuncData} {ps : List Str} {sp : Sp} {E : L2.St → XK} {x : Str} {p pos : Pos} {e : Expr} {es : List Expr} {ds : List Value} {dvs : List V} {t : TA}
/-- C(e, ..) whose __init__ may raise, at the slots σ -/
def tMakeS (C : Addr) (sp : Sp) (dvs : List V) (E : L2.St → XK) (t : TA) : TE := fun σ H Q => t σ H fun vs H1 => ∀ x dx, H1 x = none → H1 dx = none → dx ≠ x → sp (.ref x :: (vs ++ dvs)) (upd (upd H1 dx (.own x)) x (.ins C dx [])) (fun v H2 => v = .non ∧ Q (.ref x) H2) (E σ)
theorem pe_makeS (Z : Mk X.K C f) (F : FnOk X.prog X.w X.K X.mg X.base CX k f fd ps sp) (hr : Room (k + 1) X.A) (hg : Gl X x) (hm : X.mg x = some (.ref C)) (hb : Binds X.K fd ps ds) (hd : Vals dvs ds) (hx : ∀ σ, PassesAt CX X σ (E σ))
    (ha : PA X (e :: es) t) (hdb : (x == ("__debug__" : Str)) = false := by decide) (he : starEach (e :: es) X.env = (false, eval e X.env) :: starEach es X.env := by rfl) (hpl : (backTo pos (starEach es X.env)).any (·.1) = false := by rfl) :
    PE X (.Call (.Name x p) (e :: es) [] pos) (tMakeS C sp dvs E t) := by
  refine ⟨fun pins s σ H Q I h => ?_⟩
  refine wpAny_Call_Name_kw (ld_glob I hg hm ?_ hdb)
  refine PySem.W.callWith_K (h₀ := X.base) I.ok.mod.kin Z.kp (thn (ha.run pos pins s σ H _ I h) fun us s1 ⟨vs, H1, I1, r, q⟩ => ⟨I1.kIn, ?_⟩) he hpl
  have hq := q (s1.heap.objs.size + 1) s1.heap.objs.size (I1.hok.fresh (Nat.le_succ _)) (I1.hok.fresh (Nat.le_refl _)) (Nat.ne_of_lt (Nat.lt_succ_self _))
  have I2 := Inv.made (C := C) I1
  have r2 : Vals (V.ref (s1.heap.objs.size + 1) :: (vs ++ dvs)) (Value.ref (s1.heap.objs.size + 1) :: (us ++ ds)) := .cons rfl (r.append hd)
  have hl : (Value.ref (s1.heap.objs.size + 1) :: us ++ ds).length = ps.length := r2.length.symm.trans (F.len _ _ _ _ hq)
  refine wpAny_call (make_map (f := f) I1.kIn Z.makes Z.init (beq_iff_eq.mp Z.fn) (codeAny_mono (F.run _ X.stack _ _ ⟨Value.ref (s1.heap.objs.size + 1) :: us, []⟩ (Value.ref (s1.heap.objs.size + 1) :: (us ++ ds)) _ _ (E σ) (hr.make C us [])
    (I2.env0.make C us []) (hb _ (Value.ref (s1.heap.objs.size + 1) :: us) I2.kIn hl) r2 hq) fun r s' hq' => ?_))
  cases r with
  | error e => exact hx σ pins _ _ e s' I2 hq'
  | ok fl =>
    cases fl with
    | ret u =>
      obtain ⟨v, H', I3, rv, ev, q3⟩ := I2.after hq'
      subst ev
      exact ⟨rv, ⟨V.ref (s1.heap.objs.size + 1), H', I3, rfl, q3⟩⟩
    | next => exact False.elim hq'
    | brk => exact False.elim hq'
    | cont => exact False.elim hq'
end
theorem sim_makeS {c : Str} {C : Addr} {n : Nat} {mir : List T → AH → Res T} {fz : Bool} {tr : TA} {fr : FA} (hc : G.ca c = C) (hr : SimA G E tr fr) : SimE G E (tMakeS C (spM G n mir) [] E tr) (mMake c n mir fz fr) := fun S σ τ Q e k rs p => by
  subst hc
  refine hr S σ τ _ e k rs (PostG.imp (fun xs S1 q us rus => ?_) (PostG.bind p))
  obtain ⟨k1, s1, q⟩ := q
  split at q
  · rename_i hn
    rw [List.append_nil]
    exact make_core (s1.G.trans e) k1 rus hn (fun _ _ h => h) q
  · exact q.elim
theorem cl_at {G : Env} {c : Str} {C : Addr} {fs : List Str} (hc : G.ca c = C) (T : TxC G.K C fs) : Cls G.K (G.ca c) := by rw [hc]; exact T.cl
theorem no_at {G : Env} {c f : Str} {C : Addr} {fs : List Str} (hc : G.ca c = C) (T : TxC G.K C fs) (h : f ∈ fs) : NoAttr G.K (G.ca c) f := by rw [hc]; exact T.no f h
/-! how many unlike numbers -/
def cntD : List Int → Nat
  | [] => 0
  | x :: r => if x ∈ r then cntD r else cntD r + 1
theorem cntD_le : ∀ l : List Int, cntD l ≤ l.length
  | [] => Nat.le_refl _
  | x :: r => by
    have := cntD_le r
    unfold cntD
    rw [List.length_cons]
    split <;> omega
theorem cntD_nodup : ∀ {l : List Int}, cntD l = l.length ↔ l.Nodup
  | [] => by simp [cntD]
  | x :: r => by
    have h := cntD_le r
    have ih := cntD_nodup (l := r)
    unfold cntD
    rw [List.length_cons, List.nodup_cons]
    split
    · rename_i hx
      constructor
      · intro e; omega
      · intro e; exact absurd hx e.1
    · rename_i hx
      constructor
      · intro e; exact ⟨hx, ih.mp (by omega)⟩
      · intro e; rw [ih.mpr e.2]
theorem cntD_eq : ∀ {l keys : List Int}, keys.Nodup → (∀ k, k ∈ l ↔ k ∈ keys) → keys.length = cntD l
  | [], keys, _, hm => by
    cases keys with
    | nil => rfl
    | cons x r => exact absurd ((hm x).mpr List.mem_cons_self) (by simp)
  | x :: r, keys, hn, hm => by
    unfold cntD
    split
    · rename_i hx
      refine cntD_eq hn fun k => ?_
      rw [← hm k, List.mem_cons]
      constructor
      · exact .inr
      · rintro (rfl | h)
        · exact hx
        · exact h
    · rename_i hx
      have hk : x ∈ keys := (hm x).mp List.mem_cons_self
      have := cntD_eq (l := r) (keys := keys.erase x) (hn.erase x) fun k => by
        rw [hn.mem_erase_iff, ← hm k, List.mem_cons]
        constructor
        · intro h
          exact ⟨fun e => hx (e ▸ h), .inr h⟩
        · rintro ⟨h1, h2 | h2⟩
          · exact absurd h2 h1
          · exact h2
      rw [List.length_erase_of_mem hk] at this
      have : 0 < keys.length := List.length_pos_of_mem hk
      omega
/-- len(set(t)), t a tuple of numbers -/
def tLenSet (ta : TE) : TE := fun σ H Q => ta σ H fun x H1 => ∃ (l : Addr) (ns : List Int), x = .ref l ∧ H1 l = some (.tup (ns.map V.int)) ∧ ns.length ≤ 4000 ∧ Q (.int (cntD ns : Nat)) H1
theorem vals_ints : ∀ {ns : List Int} {us : List Value}, Vals (ns.map V.int) us → PyProof.Rows.IntsAre us ns
  | [], _, .nil => .nil
  | n :: ns, _, .cons r t => by
    obtain ⟨k, rfl⟩ := r
    exact .cons n k (vals_ints t)
theorem pe_lenSet {X : Cx} {a : Expr} {ta : TE} {p p2 q pos : Pos} (hg : Gl X "len") (hm : X.mg "len" = none) (hg2 : Gl X "set") (hm2 : X.mg "set" = none) (ha : PE X a ta) (hc : X.calm = true := by rfl)
    (na : starEach [a] X.env = (false, eval a X.env) :: starEach [] X.env := by rfl) : PE X (.Call (.Name "len" p) [.Call (.Name "set" p2) [a] [] q] [] pos) (tLenSet ta) := by
  refine ⟨fun pins s σ H Q I h => ?_⟩
  refine Call_ (ld_blt I hg hm boot_len ?_)
  refine PyProof.Rows.callWith_builtin1 (PyProof.Rows.args_cons ?_ rfl) rfl rfl
  refine Call_ (ld_blt I hg2 hm2 boot_set ?_)
  refine PyProof.Rows.callWith_type1 (PyProof.Rows.args_cons (thn (ha.run pins s σ H _ I h) fun v s1 ⟨x, H1, I1, r1, q1⟩ => PyProof.Rows.args_nil ?_) na) na rfl
  obtain ⟨l, ns, rfl, hq, hl, q1⟩ := q1
  cases r1
  obtain ⟨its, r, pl, hz⟩ := I1.tuple (.inl (.inl hq))
  have hT : s1.heap.IsTuple l its.toArray := pl
  refine call_set_tupI ns (I1.ok.hd hc) hT (by simpa using vals_ints r) (by unfold scanBound; omega) fun h' tk c hS hcl hk => ?_
  refine PyProof.Rows.args_nil ?_
  obtain ⟨o, es, ep, t, ho, hex, hd, _, hnd, hmem, _, hf, hn, _⟩ := hS
  have I2 : Inv X pins σ H1 { s1 with heap := h', toks := tk } := I1.kept hk
  have key : c = cntD ns := by
    have := cntD_eq (keys := es.toList.map L2.keyOf) (l := ns) hnd fun k => by
      have := hmem k
      rw [decide_eq_true_iff] at this
      exact this
    rw [List.length_map, Array.length_toList, hn] at this
    exact this
  exact call_len_set ho hex hd hf (by rw [hn] <;> omega) ⟨.int c, H1, I2.tok _, ⟨_, by rw [hn]⟩, key ▸ q1⟩
@[simp] def mLenSet (fo : FE) : FE := fun τ h => (fo τ h).bind fun x h1 => match x with
  | .tup l => match intsOf l with
    | some ns => if ns.length ≤ 4000 then .ok (.int (cntD ns : Nat)) h1 else .bad
    | none => .bad
  | _ => .bad
theorem sim_lenSet {to : TE} {fo : FE} (ho : SimE G E to fo) : SimE G E (tLenSet to) (mLenSet fo) := fun S σ τ Q e k rs p => by
  refine ho S σ τ _ e k rs (PostG.imp (fun x S1 q u ru => ?_) (PostG.bind p))
  obtain ⟨k1, s1, q⟩ := q
  split at q
  · rename_i l
    split at q
    · rename_i ns hns
      split at q
      · rename_i hz
        simp only [Rv] at ru
        obtain ⟨p, vs, rfl, ⟨hp, _⟩, rl⟩ := ru
        rw [intsOf_ok rl hns] at hp
        exact ⟨p, ns, rfl, hp, hz, q S1 rfl k1 (Step.refl S1) _ (by simp only [Rv])⟩
      · exact q.elim
    · exact q.elim
  · exact q.elim
end M
/-! list(range(..)), reversed(range(..)), sorted numbers -/
namespace M
open PySem PySem.Spec PyProof.Rows L2
variable {G : Env} {W : WX} {S : Sta} {E : L2.St → XK}
theorem nf_ref {p : Addr} : (V.ref p) ≠ .non := fun z => by cases z
theorem nf_ite {c : Prop} [Decidable c] {p : Addr} {v : V} (h : v ≠ .non) : (if c then V.ref p else v) ≠ .non := by
  split
  · exact nf_ref
  · exact h
/-- a range's bounds -/
def SimRg (G : Env) (E : L2.St → XK) (tr : L2.St → Hp → (Int → Int → Hp → Prop) → Prop) (f : LS → AH → Res (Int × Int)) : Prop := ∀ (S : Sta) (σ : L2.St) (τ : LS) (R : Int → Int → Hp → Prop), S.G = G → Ok S → RS S τ σ → PostG S (XP (E σ)) (fun ab S' => R ab.1 ab.2 S'.H) (f τ S.h) → tr σ S.H R
@[simp] def gRg1 (fe : FE) : LS → AH → Res (Int × Int) := fun τ h => (fe τ h).bind fun x h1 => match x with | .int n => .ok (0, n) h1 | _ => .bad
theorem sim_rg1 {te : TE} {fe : FE} (he : SimE G E te fe) : SimRg G E (tRg1 te) (gRg1 fe) := fun S σ τ R e k rs p => by
  refine he S σ τ _ e k rs (PostG.imp (fun x S1 q u ru => ?_) (PostG.bind p))
  obtain ⟨k1, s1, q⟩ := q
  split at q
  · simp only [Rv] at ru
    exact ⟨_, ru, q S1 rfl k1 (Step.refl S1)⟩
  · exact q.elim
@[simp] def gRg2 (fa fb : FE) : LS → AH → Res (Int × Int) := fun τ h => (fa τ h).bind fun x h1 => (fb τ h1).bind fun y h2 => match x, y with | .int i, .int j => .ok (i, j) h2 | _, _ => .bad
theorem sim_rg2 {ta tb : TE} {fa fb : FE} (ha : SimE G E ta fa) (hb : SimE G E tb fb) : SimRg G E (tRg2 ta tb) (gRg2 fa fb) := fun S σ τ R e k rs p => by
  refine ha S σ τ _ e k rs (PostG.imp (fun x S1 q u ru => ?_) (PostG.bind p))
  obtain ⟨k1, s1, q⟩ := q
  refine hb S1 σ τ _ (s1.G.trans e) k1 (rs.mono s1) (PostG.imp (fun y S2 q2 v rv => ?_) (PostG.bind q))
  obtain ⟨k2, s2, q2⟩ := q2
  split at q2
  · simp only [Rv] at ru rv
    exact ⟨_, _, ru, rv, q2 S2 rfl k2 (Step.refl S2)⟩
  · exact q2.elim
theorem rv_irange {a : Int} : ∀ {n : Nat}, RvL S (irange a n) ((List.range n).map fun i => V.int (a + (i : Nat))) := by
  intro n
  unfold irange
  generalize List.range n = l
  induction l with
  | nil => simp only [List.map_nil, RvL]
  | cons x r ih =>
    simp only [List.map_cons, RvL]
    exact ⟨_, _, rfl, by simp only [Rv], ih⟩
/-- the range as a list -/
def rgL (a b : Int) : Option (List T) := match r62 a && r62 b && Nat.ble (b - a).toNat 100000 with | true => some (irange a (b - a).toNat) | false => none
theorem rgL_ok {a b : Int} {l : List T} (h : rgL a b = some l) : RgOk a b ∧ l = irange a (b - a).toNat := by
  unfold rgL at h
  split at h
  · rename_i z
    simp only [Bool.and_eq_true, Nat.ble_eq] at z
    cases h
    have h1 := r62_iff z.1.1; have h2 := r62_iff z.1.2
    exact ⟨⟨h1.1, h1.2, h2.1, h2.2, by omega⟩, rfl⟩
  · cases h
@[simp] theorem rgL_eq {a b : Int} (ha : r62 a = true) (hb : r62 b = true) (h : (b - a).toNat ≤ 100000) : rgL a b = some (irange a (b - a).toNat) := by
  unfold rgL
  rw [ha, hb, show Nat.ble (b - a).toNat 100000 = true from Nat.ble_eq.mpr h]; rfl
@[simp] def mLstRg (fr : LS → AH → Res (Int × Int)) : FE := fun τ h => (fr τ h).bind fun ab h1 => match rgL ab.1 ab.2 with | some l => .ok (.lst l) h1 | none => .bad
@[simp] def mLstRgO (fr : LS → AH → Res (Int × Int)) : FE := fun τ h => (fr τ h).bind fun ab h1 => match rgL ab.1 ab.2 with | some l => .ok (.obj h1.length) (h1 ++ [some (.lst l)]) | none => .bad
theorem sim_lstRg {tr : L2.St → Hp → (Int → Int → Hp → Prop) → Prop} {fr : LS → AH → Res (Int × Int)} (hr : SimRg G E tr fr) : SimE G E (tLstRg tr) (mLstRg fr) := fun S σ τ Q e k rs p => by
  refine hr S σ τ _ e k rs (PostG.imp (fun ab S1 q => ?_) (PostG.bind p))
  obtain ⟨k1, s1, q⟩ := q
  split at q
  · rename_i l hl
    obtain ⟨ok, rfl⟩ := rgL_ok hl
    exact ⟨ok, new_fz k1 q fun p n f => rv_lst f rv_irange⟩
  · exact q.elim
theorem sim_lstRgO {tr : L2.St → Hp → (Int → Int → Hp → Prop) → Prop} {fr : LS → AH → Res (Int × Int)} (hr : SimRg G E tr fr) : SimE G E (tLstRg tr) (mLstRgO fr) := fun S σ τ Q e k rs p => by
  refine hr S σ τ _ e k rs (PostG.imp (fun ab S1 q => ?_) (PostG.bind p))
  obtain ⟨k1, s1, q⟩ := q
  split at q
  · rename_i l hl
    obtain ⟨ok, rfl⟩ := rgL_ok hl
    exact ⟨ok, new_obj k1 q fun S' st => ⟨_, rfl, rv_irange⟩⟩
  · exact q.elim
@[simp] def mTupRg (fr : LS → AH → Res (Int × Int)) : FE := fun τ h => (fr τ h).bind fun ab h1 => match rgL ab.1 ab.2 with | some l => .ok (.tup l) h1 | none => .bad
theorem sim_tupRg {tr : L2.St → Hp → (Int → Int → Hp → Prop) → Prop} {fr : LS → AH → Res (Int × Int)} (hr : SimRg G E tr fr) : SimE G E (tTupRg tr) (mTupRg fr) := fun S σ τ Q e k rs p => by
  refine hr S σ τ _ e k rs (PostG.imp (fun ab S1 q => ?_) (PostG.bind p))
  obtain ⟨k1, s1, q⟩ := q
  split at q
  · rename_i l hl
    obtain ⟨ok, rfl⟩ := rgL_ok hl
    exact ⟨ok, new_fz k1 q fun p n f => rv_tup f rv_irange⟩
  · exact q.elim
/-! reversed(range(..)) -/
@[simp] def iRevRM (fr : LS → AH → Res (Int × Int)) : FA := fun τ h => (fr τ h).bind fun ab h1 => match rgL ab.1 ab.2 with | some l => .ok l.reverse h1 | none => .bad
theorem sim_revR {tr : L2.St → Hp → (Int → Int → Hp → Prop) → Prop} {fr : LS → AH → Res (Int × Int)} (hr : SimRg G E tr fr) : SimI G E (iRevR tr) (iRevRM fr) := fun S σ τ R e k rs p => by
  refine hr S σ τ _ e k rs (PostG.imp (fun ab S1 q => ?_) (PostG.bind p))
  obtain ⟨k1, s1, q⟩ := q
  split at q
  · rename_i l hl
    obtain ⟨⟨h1, h2, h3, h4, _⟩, rfl⟩ := rgL_ok hl
    refine ⟨h1, h2, h3, h4, q S1 rfl k1 (Step.refl S1) _ fun S2 st k i => ?_⟩
    refine ⟨fun x hx => ?_, fun h => by rw [List.length_reverse, irange, List.length_map, List.length_range] at h; exact h⟩
    have hi := (List.getElem?_eq_some_iff.mp hx).1
    rw [List.length_reverse] at hi
    rw [List.getElem?_reverse hi] at hx
    have hn : (irange ab.1 (ab.2 - ab.1).toNat).length = (ab.2 - ab.1).toNat := by rw [irange, List.length_map, List.length_range]
    rw [hn] at hx hi
    unfold irange at hx
    rw [List.getElem?_map, List.getElem?_range (by omega)] at hx
    simp only [Option.map_some, Option.some.injEq] at hx
    refine ⟨hi, fun v H' hy => ?_⟩
    obtain ⟨rfl, rfl⟩ := hy
    refine ⟨S2, rfl, rfl, k, Step.refl S2, ?_⟩
    rw [← hx]
    simp only [Rv]
    congr 1
    omega
  · exact q.elim
/-! l[::-1] -/
@[simp] def mRevL (fo : FE) : FE := fun τ h => (fo τ h).bind fun x h1 => match lstOf x h1 with | some l => .ok (.lst l.reverse) h1 | none => .bad
@[simp] def mRevLO (fo : FE) : FE := fun τ h => (fo τ h).bind fun x h1 => match lstOf x h1 with | some l => .ok (.obj h1.length) (h1 ++ [some (.lst l.reverse)]) | none => .bad
theorem x_revL {X : Cx} {K : PySem.W.Frag} (h : X.K = K) {e : Expr} {te : TE} {k : Nat} {p1 p2 p3 pos : Pos} (he : PE X e te) : PE X (.Subscript e (.Slice none none (some (.UnaryOp .USub (.Constant (.int 1) k p1) p2)) p3) pos) (tRevL K te) := h ▸ pe_revL he
theorem sim_revL {to : TE} {fo : FE} (ho : SimE G E to fo) : SimE G E (tRevL G.K to) (mRevL fo) := fun S σ τ Q e k rs p => by
  refine ho S σ τ _ e k rs (PostG.imp (fun x S1 q u ru => ?_) (PostG.bind p))
  obtain ⟨k1, s1, q⟩ := q
  have e1 := s1.G.trans e
  split at q
  · rename_i l hl
    obtain ⟨a, vs, rfl, hs, rl⟩ := lstOf_ok k1 hl ru
    exact ⟨a, vs, rfl, by rw [← e1]; exact hs, new_fz k1 q fun p n f => rv_lst f ((RvL.rev rl).mono (step_at (by assumption) (Grow.upd n)))⟩
  · exact q.elim
theorem sim_revLO {to : TE} {fo : FE} (ho : SimE G E to fo) : SimE G E (tRevL G.K to) (mRevLO fo) := fun S σ τ Q e k rs p => by
  refine ho S σ τ _ e k rs (PostG.imp (fun x S1 q u ru => ?_) (PostG.bind p))
  obtain ⟨k1, s1, q⟩ := q
  have e1 := s1.G.trans e
  split at q
  · rename_i l hl
    obtain ⟨a, vs, rfl, hs, rl⟩ := lstOf_ok k1 hl ru
    exact ⟨a, vs, rfl, by rw [← e1]; exact hs, new_obj k1 q fun S' st => ⟨_, rfl, (RvL.rev rl).mono st⟩⟩
  · exact q.elim
/-! sorted -/
def insI (x : Int) : List Int → List Int
  | [] => [x]
  | y :: r => if x ≤ y then x :: y :: r else y :: insI x r
def sortI : List Int → List Int
  | [] => []
  | x :: r => insI x (sortI r)
theorem insI_perm {x : Int} : ∀ l : List Int, (insI x l).Perm (x :: l)
  | [] => .refl _
  | y :: r => by
    unfold insI
    split
    · exact .refl _
    · exact ((insI_perm r).cons y).trans (.swap x y r)
theorem sortI_perm : ∀ l : List Int, (sortI l).Perm l
  | [] => .refl _
  | x :: r => (insI_perm _).trans ((sortI_perm r).cons x)
theorem insI_sorted {x : Int} : ∀ {l : List Int}, l.Pairwise (· ≤ ·) → (insI x l).Pairwise (· ≤ ·)
  | [], _ => List.pairwise_singleton _ _
  | y :: r, h => by
    have h1 := List.pairwise_cons.mp h
    unfold insI
    split
    · rename_i z
      refine List.pairwise_cons.mpr ⟨fun a ha => ?_, h⟩
      rcases List.mem_cons.mp ha with rfl | ha
      · exact z
      · exact Int.le_trans z (h1.1 a ha)
    · rename_i z
      refine List.pairwise_cons.mpr ⟨fun a ha => ?_, insI_sorted h1.2⟩
      rcases List.mem_cons.mp ((insI_perm r).mem_iff.mp ha) with rfl | ha
      · omega
      · exact h1.1 a ha
theorem sortI_sorted : ∀ l : List Int, (sortI l).Pairwise (· ≤ ·)
  | [] => List.Pairwise.nil
  | _ :: r => insI_sorted (sortI_sorted r)
theorem sortI_uniq {l m : List Int} (hp : m.Perm l) (hs : m.Pairwise (· ≤ ·)) : m = sortI l :=
  List.Perm.eq_of_pairwise (fun a b _ _ h1 h2 => Int.le_antisymm h1 h2) hs (sortI_sorted l) (hp.trans (sortI_perm l).symm)
theorem rv_ints {ns : List Int} : RvL S (ns.map T.int) (ns.map V.int) := by
  induction ns with
  | nil => simp only [List.map_nil, RvL]
  | cons x r ih =>
    simp only [List.map_cons, RvL]
    exact ⟨_, _, rfl, by simp only [Rv], ih⟩
@[simp] abbrev bSorted : List T → AH → Res T := fun xs h => match xs with | [x] => (pur ((lstOf x h).bind intsOf) h).bind fun ns h1 => .ok (.lst ((sortI ns).map T.int)) h1 | _ => .bad
@[simp] abbrev bSortedO : List T → AH → Res T := fun xs h => match xs with | [x] => (pur ((lstOf x h).bind intsOf) h).bind fun ns h1 => .ok (.obj h1.length) (h1 ++ [some (.lst ((sortI ns).map T.int))]) | _ => .bad
theorem x_sorted {X : Cx} {K : PySem.W.Frag} (h : X.K = K) : CallR X (.builtin "sorted") (rSortedI K) := h ▸ cr_sortedI
theorem sb_sorted : SimRC G (rSortedI G.K) bSorted := fun S xs us X Q e k ru p => by
  rw [← e]
  unfold bSorted at p
  split at p
  · unfold pur at p
    split at p
    · rename_i ns hns
      obtain ⟨l, hl, hb⟩ := Option.bind_eq_some_iff.mp hns
      simp only [RvL] at ru
      obtain ⟨v, _, rfl, h1, rfl⟩ := ru
      obtain ⟨a, vs, rfl, hs, rl⟩ := lstOf_ok k hl h1
      rw [intsOf_ok rl hb] at hs
      refine ⟨a, ns, rfl, hs, fun ns' p' hp hs' n => ?_⟩
      rw [sortI_uniq hp hs']
      exact new_fz k p (fun p n f => rv_lst f rv_ints) p' n
    · exact p.elim
  · exact p.elim
theorem sb_sortedO : SimRC G (rSortedI G.K) bSortedO := fun S xs us X Q e k ru p => by
  rw [← e]
  unfold bSortedO at p
  split at p
  · unfold pur at p
    split at p
    · rename_i ns hns
      obtain ⟨l, hl, hb⟩ := Option.bind_eq_some_iff.mp hns
      simp only [RvL] at ru
      obtain ⟨v, _, rfl, h1, rfl⟩ := ru
      obtain ⟨a, vs, rfl, hs, rl⟩ := lstOf_ok k hl h1
      rw [intsOf_ok rl hb] at hs
      refine ⟨a, ns, rfl, hs, fun ns' p' hp hs' n => ?_⟩
      rw [sortI_uniq hp hs']
      exact new_obj k p (fun S' st => ⟨_, rfl, rv_ints⟩) p' n
    · exact p.elim
  · exact p.elim
end M
/-! f-texts -/
namespace M
open PySem PySem.Spec PyProof.Rows L2
variable {G : Env} {W : WX} {S : Sta} {E : L2.St → XK}
@[simp] def mFmt (fo : FE) : FE := fun τ h => (fo τ h).bind fun x h1 => match x with
  | .str y => if y.length ≤ sizeLine then .ok (.str y) h1 else .bad
  | .int i => if i.natAbs.log2 < 1920 then .ok (.str (toString i)) h1 else .bad
  | _ => .bad
theorem sim_fmt {to : TE} {fo : FE} (ho : SimE G E to fo) : SimE G E (tFmt to) (mFmt fo) := fun S σ τ Q e k rs p => by
  refine ho S σ τ _ e k rs (PostG.imp (fun x S1 q u ru => ?_) (PostG.bind p))
  obtain ⟨k1, s1, q⟩ := q
  split at q
  · split at q
    · rename_i hz
      simp only [Rv] at ru
      exact .inl ⟨_, ru, hz, q S1 rfl k1 (Step.refl S1) _ (by simp only [Rv])⟩
    · exact q.elim
  · split at q
    · rename_i hz
      simp only [Rv] at ru
      exact .inr ⟨_, ru, hz, q S1 rfl k1 (Step.refl S1) _ (by simp only [Rv])⟩
    · exact q.elim
  · exact q.elim
@[simp] def mJs : List FE → Str → FE
  | [], acc => fun _ h => .ok (.str acc) h
  | f :: fs, acc => fun τ h => (f τ h).bind fun x h1 => match x with
    | .str y => if (acc ++ y).length ≤ sizeLine then mJs fs (acc ++ y) τ h1 else .bad
    | _ => .bad
inductive SimJ (G : Env) (E : L2.St → XK) : List TE → List FE → Prop where
  | nil : SimJ G E [] []
  | cons {t : TE} {f : FE} {ts : List TE} {fs : List FE} (h : SimE G E t f) (r : SimJ G E ts fs) : SimJ G E (t :: ts) (f :: fs)
theorem js_run {ts : List TE} {fs : List FE} (h : SimJ G E ts fs) : ∀ (acc : Str) (S : Sta) (σ : L2.St) (τ : LS) (Q : VK), S.G = G → Ok S → RS S τ σ → PostG S (XP (E σ)) (fun t S' => ∀ v, Rv S' t v → Q v S'.H) (mJs fs acc τ S.h) → tJs ts acc σ S.H fun out H1 => Q (.str out) H1 := by
  induction h with
  | nil =>
    intro acc S σ τ Q e k rs p
    exact p S rfl k (Step.refl S) _ (by simp only [Rv])
  | @cons t f ts fs h1 r ih =>
    intro acc S σ τ Q e k rs p
    refine h1 S σ τ _ e k rs (PostG.imp (fun x S1 q u ru => ?_) (PostG.bind p))
    obtain ⟨k1, s1, q⟩ := q
    split at q
    · split at q
      · rename_i hz
        simp only [Rv] at ru
        exact ⟨_, ru, hz, ih _ S1 σ τ Q (s1.G.trans e) k1 (rs.mono s1) q⟩
      · exact q.elim
    · exact q.elim
def tJoin (ts : List TE) : TE := fun σ H Q => tJs ts Str.empty σ H fun out H1 => Q (.str out) H1
theorem x_joined {X : Cx} {v1 v2 : Expr} {rest : List Expr} {ts : List TE} {pos : Pos} (h : PJ X (v1 :: v2 :: rest) ts) : PE X (.JoinedStr (v1 :: v2 :: rest) pos) (tJoin ts) := pe_joined h
@[simp] abbrev mJoin (fs : List FE) : FE := mJs fs Str.empty
theorem sim_join {ts : List TE} {fs : List FE} (h : SimJ G E ts fs) : SimE G E (tJoin ts) (mJoin fs) := fun S σ τ Q e k rs p => js_run h _ S σ τ Q e k rs p
end M
/-! dict(d), d.pop(k), d.pop(k, x) -/
namespace M
open PySem PySem.Spec PyProof.Rows L2
variable {G : Env} {W : WX} {S : Sta} {E : L2.St → XK}
def rDCopy : List V → Hp → VK → Prop := fun xs H Q => ∃ (a : Addr) (kvs : List (Key × V)), xs = [.ref a] ∧ Rd H a (.dK kvs) ∧ ∀ p, H p = none → Q (.ref p) (upd H p (.dK kvs))
theorem call_dcopy {X : Cx} : CallR X (.type "dict") rDCopy := by
  intro pins s σ H xs us Q I r h
  obtain ⟨a, kvs, rfl, ha, q⟩ := h
  obtain ⟨u, rfl, r1⟩ := vals1 r
  cases r1
  exact d_copyOf I ha fun p s' n I' => ⟨.ref p, _, I', rfl, q p n⟩
@[simp] abbrev bDCopy : List T → AH → Res T := fun xs h => match xs with | [x] => (pur (dctK x h) h).bind fun m h1 => .ok (.obj h1.length) (h1 ++ [some (.dct m)]) | _ => .bad
theorem sb_dcopy : SimRC G rDCopy bDCopy := fun S xs us X Q e k ru p => by
  unfold bDCopy at p
  split at p
  · unfold pur at p
    split at p
    · rename_i m hm
      simp only [RvL] at ru
      obtain ⟨v, _, rfl, h1, rfl⟩ := ru
      obtain ⟨a, vs, rfl, ha, rk⟩ := dctK_ok k h1 hm
      exact ⟨a, vs, rfl, ha, new_obj k p fun S' st => ⟨_, rfl, rk.mono st⟩⟩
    · exact p.elim
  · exact p.elim
section
variable {td ty tx : TE} {fd fy fx : FE}
@[simp] def mDPop1 (fd fy : FE) : FE := fun τ h => (fd τ h).bind fun x h1 => if isD x h1 = true then (fy τ h1).bind fun y h2 => match x with
  | .obj i => match h2[i]? with
    | some (some (.dct m)) => match keyOf y with
      | some k => match getT m k with
        | some t => .ok t (h2.set i (some (.dct (dropT m k))))
        | none => .bad
      | none => .bad
    | _ => .bad
  | _ => .bad else .bad
theorem sim_dpop1 (ha : SimE G E td fd) (hb : SimE G E ty fy) : SimE G E (tDPop1 td ty) (mDPop1 fd fy) := fun S σ τ Q e k rs p => by
  refine ha S σ τ _ e k rs (PostG.imp (fun x S1 q u ru => ?_) (PostG.bind p))
  obtain ⟨k1, s1, q⟩ := q
  split at q
  · rename_i hd
    obtain ⟨a, rfl, hD⟩ := isD_ok k1 ru hd
    refine ⟨a, rfl, hD, ?_⟩
    refine hb S1 σ τ _ (s1.G.trans e) k1 (rs.mono s1) (PostG.imp (fun y S2 q v rv => ?_) (PostG.bind q))
    obtain ⟨k2, s2, q⟩ := q
    split at q
    · split at q
      · rename_i m hm
        split at q
        · rename_i ky hk
          split at q
          · rename_i t ht
            obtain ⟨b, ho, eb, hp, ha, vs, rfl, rk⟩ := obj_at k2 hm (ru.mono s2)
            cases eb
            have st := step_put (o' := .dct (dropT m ky)) (u := .dK (dropK vs ky)) k2 hm hp
            have g := rk.get ky
            rw [ht] at g
            cases hv : valV vs ky with
            | none => rw [hv] at g; exact g.elim
            | some w =>
              rw [hv] at g
              exact ⟨vs, ky, w, ha, keyOf_ok rv hk, hv, q (S2.put _ _ _) rfl (ok_put k2 hm hp ⟨_, rfl, rk.drop ky⟩) st w (Rv.mono st g)⟩
          · exact q.elim
        · exact q.elim
      · exact q.elim
    · exact q.elim
  · exact q.elim
@[simp] def mDPop2 (fd fy fx : FE) : FE := fun τ h => (fd τ h).bind fun x h1 => if isD x h1 = true then (fy τ h1).bind fun y h2 => (fx τ h2).bind fun z h3 => match x with
  | .obj i => match h3[i]? with
    | some (some (.dct m)) => match keyOf y with
      | some k => match getT m k with
        | some t => .ok t (h3.set i (some (.dct (dropT m k))))
        | none => .ok z h3
      | none => .bad
    | _ => .bad
  | _ => .bad else .bad
theorem sim_dpop2 (ha : SimE G E td fd) (hb : SimE G E ty fy) (hc : SimE G E tx fx) : SimE G E (tDPop2 td ty tx) (mDPop2 fd fy fx) := fun S σ τ Q e k rs p => by
  refine ha S σ τ _ e k rs (PostG.imp (fun x S1 q u ru => ?_) (PostG.bind p))
  obtain ⟨k1, s1, q⟩ := q
  split at q
  · rename_i hd
    obtain ⟨a, rfl, hD⟩ := isD_ok k1 ru hd
    refine ⟨a, rfl, hD, ?_⟩
    refine hb S1 σ τ _ (s1.G.trans e) k1 (rs.mono s1) (PostG.imp (fun y S2 q v rv => ?_) (PostG.bind q))
    obtain ⟨k2, s2, q⟩ := q
    refine hc S2 σ τ _ (s2.G.trans (s1.G.trans e)) k2 (rs.mono (s1.trans s2)) (PostG.imp (fun z S3 q w rw' => ?_) (PostG.bind q))
    obtain ⟨k3, s3, q⟩ := q
    split at q
    · split at q
      · rename_i m hm
        split at q
        · rename_i ky hk
          obtain ⟨b, ho, eb, hp, ha, vs, rfl, rk⟩ := obj_at k3 hm (ru.mono (s2.trans s3))
          cases eb
          have g := rk.get ky
          refine ⟨vs, ky, ha, keyOf_ok rv hk, fun v hv => ?_, fun hv => ?_⟩
          · rw [hv] at g
            split at q
            · rename_i t ht
              rw [ht] at g
              have st := step_put (o' := .dct (dropT m ky)) (u := .dK (dropK vs ky)) k3 hm hp
              exact q (S3.put _ _ _) rfl (ok_put k3 hm hp ⟨_, rfl, rk.drop ky⟩) st v (Rv.mono st g)
            · rename_i ht
              rw [ht] at g
              exact g.elim
          · rw [hv] at g
            split at q
            · rename_i t ht
              rw [ht] at g
              exact g.elim
            · exact q S3 rfl k3 (Step.refl S3) w rw'
        · exact q.elim
      · exact q.elim
    · exact q.elim
  · exact q.elim
end
end M
/-! isinstance of an own class -/
namespace M
open PySem PySem.Spec PyProof.Rows L2
variable {G : Env} {W : WX} {S : Sta} {E : L2.St → XK}
/-- an own class as isinstance asks its instances -/
structure InsC (K : PySem.W.Frag) (C : Addr) : Prop where
  cl : Cls K C
  ha : PySem.W.findIn K (.ref C) "__class__" = some (some (.builtin "object.__class__"))
  hn : PySem.W.specialIn K (.builtin "object.__class__") "__get__" = some (some (.builtin "getset_descriptor.__get__"))
  ht : PySem.W.takesIn K (.builtin "object.__class__") = some true
  hm : PySem.W.mroIn K C (.type "object") = some true
@[simp] def clsOf : T → AH → Option Str
  | .obj i, h => match h[i]? with | some (some (.ins c _)) => some c | _ => none
  | .inst c _ _, _ => some c
  | _, _ => none
theorem clsOf_ok {x : T} {u : V} {c : Str} {C : Addr} (k : Ok S) (r : Rv S x u) (h : clsOf x S.h = some c) (hc : S.G.ca c = C) (I : InsC S.G.K C) : TyX S.G.K S.H u (.ref C) := by
  subst hc
  unfold clsOf at h
  split at h
  · split at h
    · rename_i m hm
      cases h
      obtain ⟨p, ho, rfl, _, hp, dx, vs, rfl, _⟩ := obj_at k hm r
      exact .base (.ins hp I.cl I.ha I.hn I.ht I.hm)
    · cases h
  · cases h
    simp only [Rv] at r
    obtain ⟨p, dx, vs, rfl, f, _⟩ := r
    exact .base (.ins f.1 I.cl I.ha I.hn I.ht I.hm)
  · cases h
/-- isinstance(e, D), e an instance of the own class c -/
@[simp] def mIsO (c : Str) (b : Bool) (fa : FE) : FE := fun τ h => (fa τ h).bind fun x h1 => match clsOf x h1 with | some a => if a = c then .ok (.bl b) h1 else .bad | none => .bad
theorem sim_isO {c : Str} {C D : Addr} {b : Bool} {ta : TE} {fa : FE} (hc : G.ca c = C) (I : InsC G.K C) (hk : PySem.W.kitOne G.K (.ref C) (.ref D) = some b) (ha : SimE G E ta fa) : SimE G E (tCB (rIsi G.K) (tCons ta (tCons (tC (.ref D)) tNil))) (mIsO c b fa) := fun S σ τ Q e k rs p => by
  refine ha S σ τ _ e k rs (PostG.imp (fun x S1 q u ru => ?_) (PostG.bind p))
  obtain ⟨k1, s1, q⟩ := q
  have e1 := s1.G.trans e
  split at q
  · rename_i a hi
    split at q
    · rename_i h
      subst h
      have ty := clsOf_ok (C := C) k1 ru hi (by rw [e1]; exact hc) (by rw [e1]; exact I)
      rw [e1] at ty
      exact ⟨u, .ref D, _, _, b, rfl, .own D, ty, hk, q S1 rfl k1 (Step.refl S1) _ (by simp only [Rv])⟩
    · exact q.elim
  · exact q.elim
theorem kit_bown {K : PySem.W.Frag} {T : String} {B : Addr} {b : Bool} (i : PySem.W.isClsIn K B = true) (t : PySem.W.typeIn K (.ref B) = some (.type "type")) (s : PySem.W.subIn K (.type T) (.ref B) = some b) : PySem.W.kitOne K (.type T) (.ref B) = some b := by
  have i : (PySem.W.clsIn K B).isSome = true := i
  unfold PySem.W.kitOne PySem.W.kitCls
  dsimp only
  rw [i, t]
  simp [s]
/-- isinstance(e, D), e of the built-in type n -/
@[simp] def mIsB (n : String) (b : Bool) (fa : FE) : FE := fun τ h => (fa τ h).bind fun x h1 => match tyOf x h1 with | some a => if a = n then .ok (.bl b) h1 else .bad | none => .bad
theorem sim_isB {n : String} {D : Addr} {b : Bool} {ta : TE} {fa : FE} (hk : PySem.W.kitOne G.K (.type n) (.ref D) = some b) (ha : SimE G E ta fa) : SimE G E (tCB (rIsi G.K) (tCons ta (tCons (tC (.ref D)) tNil))) (mIsB n b fa) := fun S σ τ Q e k rs p => by
  refine ha S σ τ _ e k rs (PostG.imp (fun x S1 q u ru => ?_) (PostG.bind p))
  obtain ⟨k1, s1, q⟩ := q
  split at q
  · rename_i a hi
    split at q
    · rename_i h
      subst h
      have ty := tyOf_ok k1 ru hi
      rw [s1.G.trans e] at ty
      exact ⟨u, .ref D, _, _, b, rfl, .own D, ty, hk, q S1 rfl k1 (Step.refl S1) _ (by simp only [Rv])⟩
    · exact q.elim
  · exact q.elim
end M
/-! methods that raise -/
namespace M
open PySem PySem.Spec PyProof.Rows L2
variable {G : Env} {W : WX} {S : Sta} {E : L2.St → XK}
def tMethS (C : Addr) (m : Str) (sp : Sp) (E : L2.St → XK) (ta : TE) (t : TA) : TE := fun σ H Q => ta σ H fun x H1 => ∃ a dx fs, x = .ref a ∧ H1 a = some (.ins C dx fs) ∧ fs.lookup m = none ∧ t σ H1 fun vs H2 => sp (x :: vs) H2 Q (E σ)
section
variable {X : Cx} {CX : CXT} {k : Nat} {f C : Addr} {fd : FuncData} {ps : List Str} {sp : Sp} {E : L2.St → XK} {m : Str} {p pos apos : Pos} {o e : Expr} {es : List Expr} {ta : TE} {t : TA}
theorem pe_methS {pl : Sem Bool} (he : PE X o ta) (c : Cls X.K C) (hm : Meth X.K C m f) (F : FnOk X.prog X.w X.K X.mg X.base CX k f fd ps sp) (hr : Room k X.A) (hb : Binds X.K fd ps []) (hx : ∀ σ, PassesAt CX X σ (E σ)) (ha : PA X (e :: es) t)
    (hst : starEach (e :: es) X.env = (false, eval e X.env) :: starEach es X.env := by rfl) (hpl : (backTo pos (starEach es X.env)).any (·.1) = false := by rfl)
    (ht : eval (.Call (.Attribute o m apos) (e :: es) [] pos) X.env = (do
      let ov ← eval o X.env
      standAt apos.atName
      let (f, first) ← holding [ov] (getMethod ov m pl)
      callWith pos f first (backTo pos (starEach (e :: es) X.env)) (backToKw pos (keywordEach [] X.env))) := by rfl) :
    PE X (.Call (.Attribute o m apos) (e :: es) [] pos) (tMethS C m sp E ta t) := by
  refine ⟨fun pins s σ H Q I h => ?_⟩
  refine PySem.W.methodCall_KW (pl := pl) (thn (he.run pins s σ H _ I h) fun u s1 ⟨x, H1, I1, rx, a, dx, fs, ex, ea, l, q⟩ => ?_) ht
  subst ex
  obtain rfl : u = Value.ref a := rx
  refine getmeth_ok I1 ea c hm l ?_
  refine PySem.W.callWith_K (first := [.ref a]) (h₀ := X.base) I.ok.mod.kin hm.kp (thn (ha.run pos pins s1 σ H1 _ I1 q) fun us s2 ⟨vs, H2, I2, r, q2⟩ => ⟨I2.kIn, ?_⟩) hst hpl
  exact run_fnS (us := .ref a :: us) (vs := .ref a :: vs) F hr hb (hx σ) I2 (.cons rfl r) q2
theorem pe_methS0 {pl : Sem Bool} (he : PE X o ta) (c : Cls X.K C) (hm : Meth X.K C m f) (F : FnOk X.prog X.w X.K X.mg X.base CX k f fd ps sp) (hr : Room k X.A) (hb : Binds X.K fd ps []) (hx : ∀ σ, PassesAt CX X σ (E σ))
    (ht : eval (.Call (.Attribute o m apos) [] [] pos) X.env = (do
      let ov ← eval o X.env
      standAt apos.atName
      let (f, first) ← holding [ov] (getMethod ov m pl)
      callWith pos f first (backTo pos (starEach [] X.env)) (backToKw pos (keywordEach [] X.env))) := by rfl) :
    PE X (.Call (.Attribute o m apos) [] [] pos) (tMethS C m sp E ta tNil) := by
  refine ⟨fun pins s σ H Q I h => ?_⟩
  refine PySem.W.methodCall_KW (pl := pl) (thn (he.run pins s σ H _ I h) fun u s1 ⟨x, H1, I1, rx, a, dx, fs, ex, ea, l, q⟩ => ?_) ht
  subst ex
  obtain rfl : u = Value.ref a := rx
  refine getmeth_ok I1 ea c hm l ?_
  exact PySem.W.callWith_K0 (first := [.ref a]) I1.kIn hm.kp (run_fnS (us := [.ref a]) (vs := [.ref a]) F hr hb (hx σ) I1 (.cons rfl .nil) q)
end
theorem sim_methS {ta : TE} {fa : FE} {C : Addr} {m : Str} {n : Nat} {mir : List T → AH → Res T} {tr : TA} {fr : FA} (hc : G.ca c = C) (ha : SimE G E ta fa) (hr : SimA G E tr fr) : SimE G E (tMethS C m (spM G n mir) E ta tr) (mMeth c m n mir fa fr) := fun S σ τ Q e k rs p => by
  subst hc
  refine ha S σ τ _ e k rs (PostG.imp (fun x S1 q u ru => ?_) (PostG.bind p))
  obtain ⟨k1, s1, q⟩ := q
  split at q
  · rename_i ht
    obtain ⟨mm, hm, hl⟩ := Option.map_eq_some_iff.mp ht
    obtain ⟨a, dx, vs, rfl, hH, rk⟩ := insOf_ok k1 ru hm
    have := rk.look (f := m)
    rw [hl] at this
    have e1 := s1.G.trans e
    rw [e1] at hH
    refine ⟨a, dx, vs, rfl, hH, ?_, ?_⟩
    · cases hv : vs.lookup m with
      | none => rfl
      | some w => rw [hv] at this; exact this.elim
    · refine hr S1 σ τ _ e1 k1 (rs.mono s1) (PostG.imp (fun xs S2 q us rus => ?_) (PostG.bind q))
      obtain ⟨k2, s2, q⟩ := q
      split at q
      · rename_i hn
        exact ⟨S2, x :: xs, s2.G.trans e1, k2, rfl, RvL.cons (ru.mono s2) rus, by simpa using hn, q⟩
      · exact q.elim
  · exact q.elim
end M
/-! ### what a mirror comes to: a reading from the end, for simp and for hand -/
namespace M
open PySem PySem.Spec PyProof.Rows L2
section
variable {h : AH}
/-- what slot i holds -/
def slot (τ : LS) (i : Nat) : Option T := match τ[i]? with | some (some t) => some t | _ => none
/-- the first that is found, from k on -/
def firstR {R : Type} (res : Nat → Option R) : Nat → Nat → Option R
  | _, 0 => none
  | k, n + 1 => match res k with | some r => some r | none => firstR res (k + 1) n
/-- a comprehension that changes nothing -/
theorem lc_map {a : FG} {fe : FE} {f : T → T} : ∀ {l : List T} {n : Nat}, n + l.length ≤ sizeLine → (∀ x ∈ l, ∃ τ', a x τ = some τ' ∧ fe τ' h = .ok (f x) h) → mLcL a mYes fe τ n l h = .ok (l.map f) h
  | [], _, _, _ => rfl
  | x :: xs, n, hn, hf => by
    obtain ⟨τ', ha, hb⟩ := hf x List.mem_cons_self
    rw [List.length_cons] at hn
    unfold mLcL
    simp only [ha, mYes, bind_ok, if_true, hb]
    rw [if_pos (by omega), lc_map (by omega) (fun y hy => hf y (List.mem_cons_of_mem _ hy))]
    rfl
end
namespace W0
/-- o is there, and p of it -/
def Op {α : Type} (o : Option α) (p : α → Prop) : Prop := match o with | some a => p a | none => False
@[simp] theorem op_some {α : Type} {a : α} {p : α → Prop} : Op (some a) p = p a := rfl
@[simp] theorem op_none {α : Type} {p : α → Prop} : Op none p = False := rfl
/-- either way -/
def Cd (b : Bool) (p q : Prop) : Prop := if b = true then p else q
@[simp] theorem cd_true {p q : Prop} : Cd true p q = p := rfl
@[simp] theorem cd_false {p q : Prop} : Cd false p q = q := rfl
theorem Cd.of {b : Bool} {p q : Prop} (h1 : b = true → p) (h2 : b = false → q) : Cd b p q := by cases b; exact h2 rfl; exact h1 rfl
def Bo (t : T) (p : Bool → Prop) : Prop := match t with | .bl b => p b | _ => False
@[simp] theorem bo_bl {b : Bool} {p : Bool → Prop} : Bo (.bl b) p = p b := rfl
/-- p, as it stands (simp leaves it) -/
def Kp (p : Prop) (_ : Unit) : Prop := p
theorem Kp.mk {p : Prop} (h : p) : Kp p () := h
@[simp] theorem slot_zero {x : Option T} {τ : LS} : slot (x :: τ) 0 = x := by cases x <;> rfl
@[simp] theorem slot_succ {x : Option T} {τ : LS} {i : Nat} : slot (x :: τ) (i + 1) = slot τ i := by unfold slot; rw [List.getElem?_cons_succ]
def Fr (o : Option T) (p : Nat → Prop) (q : Prop) : Prop := match o with | some (.obj j) => p j | _ => q
section
variable {p : Nat → Prop} {q : Prop}
@[simp] theorem fr_obj {j : Nat} : Fr (some (.obj j)) p q = p j := rfl
@[simp] theorem fr_none : Fr none p q = q := rfl
@[simp] theorem fr_non : Fr (some .non) p q = q := rfl
@[simp] theorem fr_bl {b : Bool} : Fr (some (.bl b)) p q = q := rfl
@[simp] theorem fr_int {b : Int} : Fr (some (.int b)) p q = q := rfl
@[simp] theorem fr_str {b : Str} : Fr (some (.str b)) p q = q := rfl
@[simp] theorem fr_ref {b : Str} : Fr (some (.ref b)) p q = q := rfl
@[simp] theorem fr_tup {l : List T} : Fr (some (.tup l)) p q = q := rfl
@[simp] theorem fr_ktp {l : List T} : Fr (some (.ktp l)) p q = q := rfl
@[simp] theorem fr_lst {l : List T} : Fr (some (.lst l)) p q = q := rfl
@[simp] theorem fr_rdl {l : List T} : Fr (some (.rdl l)) p q = q := rfl
@[simp] theorem fr_inst {c : Str} {ns : List Str} {l : List T} : Fr (some (.inst c ns l)) p q = q := rfl
@[simp] theorem fr_dct {ns : List Key} {l : List T} : Fr (some (.dct ns l)) p q = q := rfl
@[simp] theorem fr_dctT {ns : List (List Key)} {l : List T} : Fr (some (.dctT ns l)) p q = q := rfl
theorem Fr.no {t : T} (h : isObj t = false) : Fr (some t) p q = q := by cases t <;> first | rfl | cases h
end
section
variable {α β : Type}
/-- r comes to a value of which P holds, or raises what X allows -/
def Wp (r : Res α) (P : α → AH → Prop) (X : Exc → AH → Prop) : Prop := match r with | .bad => False | .ok a h => P a h | .exc e h => X e h
variable {P : α → AH → Prop} {X : Exc → AH → Prop} {h : AH}
@[simp] theorem wp_ok {a : α} : Wp (.ok a h) P X = P a h := rfl
@[simp] theorem wp_bad : Wp (.bad : Res α) P X = False := rfl
@[simp] theorem wp_exc {e : Exc} : Wp (.exc e h : Res α) P X = X e h := rfl
@[simp ↓] theorem wp_bind {x : Res β} {f : β → AH → Res α} : Wp (x.bind f) P X = Wp x (fun a h => Wp (f a h) P X) X := by cases x <;> rfl
@[simp ↓] theorem wp_ite {c : Prop} [Decidable c] {x y : Res α} : Wp (if c then x else y) P X = if c then Wp x P X else Wp y P X := by split <;> rfl
@[simp] theorem wp_pur {o : Option α} : Wp (pur o h) P X = Op o (fun a => P a h) := by cases o <;> rfl
@[simp ↓] theorem wp_lift {P : Fl → AH → Prop} {x : Res β} {τ : LS} {k : β → AH → Res Fl} : Wp (liftE x τ k) P X = Wp x (fun a h => Wp (k a h) P X) (fun e h => P (.xc e τ) h) := by cases x <;> rfl
@[simp ↓] theorem wp_out {P : T → AH → Prop} {r : Res Fl} : Wp (outD r) P X = Wp r (fun fl h => match fl with | .nx _ => P .non h | .rt t => P t h | .xc e _ => X e h | .bk _ => False | .ct _ => False) (fun _ _ => False) := by
  cases r with
  | bad => rfl
  | exc e h => rfl
  | ok fl h => cases fl <;> rfl
theorem Wp.mono {r : Res α} {P Q : α → AH → Prop} {X Y : Exc → AH → Prop} (w : Wp r P X) (hp : ∀ a h, P a h → Q a h) (hx : ∀ e h, X e h → Y e h) : Wp r Q Y := by
  cases r with
  | bad => exact w
  | ok a h => exact hp a h w
  | exc e h => exact hx e h w
theorem Wp.imp {r : Res α} {P Q : α → AH → Prop} (w : Wp r P X) (hp : ∀ a h, P a h → Q a h) : Wp r Q X := w.mono hp (fun _ _ h => h)
theorem Wp.ok {r : Res α} (w : Wp r P (fun _ _ => False)) : ∃ a h, r = .ok a h ∧ P a h := by
  cases r with
  | bad => exact w.elim
  | ok a h => exact ⟨a, h, rfl, w⟩
  | exc e h => exact w.elim
theorem Wp.eq {r : Res α} {v : α} (w : Wp r (fun a h' => a = v ∧ h' = h) (fun _ _ => False)) : r = .ok v h := by
  obtain ⟨a, h', e, rfl, rfl⟩ := w.ok; exact e
theorem Wp.eq' {r : Res α} {v : α} {h1 : AH} (w : Wp r (fun a h' => a = v ∧ h' = h1) (fun _ _ => False)) : r = .ok v h1 := by
  obtain ⟨a, h', e, rfl, rfl⟩ := w.ok; exact e
theorem Wp.of_exc {r : Res α} {e : Exc} (q : r = .exc e h) (p : X e h) : Wp r P X := by rw [q]; exact p
theorem Wp.of {r : Res α} {a : α} (e : r = .ok a h) (p : P a h) : Wp r P X := by rw [e]; exact p
end
section
variable {P : T → AH → Prop} {PL : List T → AH → Prop} {PB : Bool → AH → Prop} {PF : Fl → AH → Prop} {X : Exc → AH → Prop} {h : AH} {τ : LS}
@[simp ↓] theorem w_var {i : Nat} : Wp (mVar i τ h) P X = Op (slot τ i) (fun t => P t h) := by
  unfold mVar slot; split <;> simp_all
@[simp ↓] theorem w_c {t : T} : Wp (mC t τ h) P X = P t h := rfl
@[simp ↓] theorem w_op {g : T → T → AH → Res T} {fa fb : FE} : Wp (mOp g fa fb τ h) P X = Wp (fa τ h) (fun x h1 => Wp (fb τ h1) (fun y h2 => Wp (g x y h2) P X) X) X := by simp only [mOp, wp_bind]
@[simp ↓] theorem w_un {g : T → AH → Res T} {fa : FE} : Wp (mUn g fa τ h) P X = Wp (fa τ h) (fun x h1 => Wp (g x h1) P X) X := by simp only [mUn, wp_bind]
@[simp ↓] theorem w_nil : Wp (mNil τ h) PL X = PL [] h := rfl
@[simp ↓] theorem w_cons {fa : FE} {fr : FA} : Wp (mCons fa fr τ h) PL X = Wp (fa τ h) (fun x h1 => Wp (fr τ h1) (fun xs h2 => PL (x :: xs) h2) X) X := by simp only [mCons, wp_bind, wp_ok]
@[simp ↓] theorem w_star {fe : FE} {fr : FA} : Wp (mStar fe fr τ h) PL X = Wp (fe τ h) (fun x h1 => Op (seqOf x h1) (fun l => Wp (fr τ h1) (fun ys h2 => PL (l ++ ys) h2) X)) X := by
  simp only [mStar, wp_bind, wp_ok]; congr; funext x h1; cases seqOf x h1 <;> rfl
@[simp ↓] theorem w_CB {g : List T → AH → Res T} {fr : FA} : Wp (mCB g fr τ h) P X = Wp (fr τ h) (fun xs h1 => Wp (g xs h1) P X) X := by simp only [mCB, wp_bind]
@[simp ↓] theorem w_B {fa : FE} : Wp (mB fa τ h) PB X = Wp (fa τ h) (fun x h1 => Bo x (fun b => PB b h1)) X := by simp only [mB, wp_bind]; congr; funext x h1; cases x <;> rfl
@[simp ↓] theorem w_and {f g : FT} : Wp (mAnd f g τ h) PB X = Wp (f τ h) (fun c h1 => Cd c (Wp (g τ h1) PB X) (PB false h1)) X := by simp only [mAnd, wp_bind, wp_ite, wp_ok] <;> rfl
@[simp ↓] theorem w_or {f g : FT} : Wp (mOr f g τ h) PB X = Wp (f τ h) (fun c h1 => Cd c (PB true h1) (Wp (g τ h1) PB X)) X := by simp only [mOr, wp_bind, wp_ite, wp_ok] <;> rfl
@[simp ↓] theorem w_not {f : FT} : Wp (mNot f τ h) PB X = Wp (f τ h) (fun c h1 => PB (!c) h1) X := by simp only [mNot, wp_bind, wp_ok]
@[simp ↓] theorem w_andV {fa fb : FE} : Wp (mAndV fa fb τ h) P X = Wp (fa τ h) (fun x h1 => Bo x (fun c => Cd c (Wp (fb τ h1) P X) (P (.bl false) h1))) X := by
  simp only [mAndV, wp_bind]; congr; funext x h1; cases x <;> simp only [wp_ite, wp_ok, wp_bad] <;> rfl
@[simp ↓] theorem w_orV {fa fb : FE} : Wp (mOrV fa fb τ h) P X = Wp (fa τ h) (fun x h1 => Bo x (fun c => Cd c (P (.bl true) h1) (Wp (fb τ h1) P X))) X := by
  simp only [mOrV, wp_bind]; congr; funext x h1; cases x <;> simp only [wp_ite, wp_ok, wp_bad] <;> rfl
@[simp ↓] theorem w_notV {fa : FE} : Wp (mNotV fa τ h) P X = Wp (fa τ h) (fun x h1 => Bo x (fun c => P (.bl (!c)) h1)) X := by
  simp only [mNotV, wp_bind]; congr; funext x h1; cases x <;> rfl
@[simp ↓] theorem w_ifE {f : FT} {fa fb : FE} : Wp (mIfE f fa fb τ h) P X = Wp (f τ h) (fun c h1 => Cd c (Wp (fa τ h1) P X) (Wp (fb τ h1) P X)) X := by simp only [mIfE, wp_bind, wp_ite] <;> rfl
@[simp ↓] theorem w_chain {g g' : T → T → AH → Res T} {fa fb fc : FE} : Wp (mChain g g' fa fb fc τ h) P X = Wp (fa τ h) (fun x h1 => Wp (fb τ h1) (fun y h2 => Wp (g x y h2) (fun z h3 => Bo z (fun c => Cd c (Wp (fc τ h3) (fun w h4 => Wp (g' y w h4) P X) X) (P (.bl false) h3))) X) X) X := by
  simp only [mChain, wp_bind]; congr; funext x h1; congr; funext y h2; congr; funext z h3; cases z with
  | bl c => cases c <;> simp [Bo, Cd]
  | _ => rfl
@[simp ↓] theorem w_tup {fr : FA} : Wp (mTup fr τ h) P X = Wp (fr τ h) (fun xs h1 => if xs.length ≤ sizeLine then P (.tup xs) h1 else False) X := by simp only [mTup, wp_bind, wp_ite, wp_ok, wp_bad]
@[simp ↓] theorem w_lst {fr : FA} : Wp (mLst fr τ h) P X = Wp (fr τ h) (fun xs h1 => if xs.length ≤ sizeLine then P (.lst xs) h1 else False) X := by simp only [mLst, wp_bind, wp_ite, wp_ok, wp_bad]
@[simp ↓] theorem w_lstO {fr : FA} : Wp (mLstO fr τ h) P X = Wp (fr τ h) (fun xs h1 => if xs.length ≤ sizeLine then P (.obj h1.length) (h1 ++ [some (.lst xs)]) else False) X := by simp only [mLstO, wp_bind, wp_ite, wp_ok, wp_bad]
@[simp ↓] theorem w_noPart {PO : Option Int → AH → Prop} : Wp (mNoPart τ h) PO X = PO none h := rfl
@[simp ↓] theorem w_part {PO : Option Int → AH → Prop} {fa : FE} : Wp (mPart fa τ h) PO X = Wp (fa τ h) (fun x h1 => Wp (match x with | .int i => (.ok (some i) h1 : Res (Option Int)) | _ => .bad) PO X) X := by
  simp only [mPart, wp_bind] <;> rfl
@[simp ↓] theorem w_sl {g : T → Option Int → Option Int → AH → Res T} {fa : FE} {fl fh : FO} : Wp (mSl g fa fl fh τ h) P X = Wp (fa τ h) (fun x h1 => Wp (fl τ h1) (fun lo h2 => Wp (fh τ h2) (fun hi h3 => Wp (g x lo hi h3) P X) X) X) X := by simp only [mSl, wp_bind]
@[simp ↓] theorem w_call {n : Nat} {m : List T → AH → Res T} {fr : FA} : Wp (mCall n m fr τ h) P X = Wp (fr τ h) (fun xs h1 => if xs.length = n then Wp (m xs h1) P X else False) X := by simp only [mCall, wp_bind, wp_ite, wp_bad]
@[simp ↓] theorem w_callL {i n : Nat} {nm : Str} {m : List T → AH → Res T} {fr : FA} {els : FE} : Wp (mCallL i nm n m fr els τ h) P X = Op (slot τ i) (fun t => Wp (match t with | .ref a => if a = nm then mCall n m fr τ h else els τ h | _ => .bad) P X) := by
  unfold mCallL slot
  rcases e : τ[i]? with _ | _ | t
  · rfl
  · rfl
  · cases t <;> rfl
@[simp ↓] theorem w_lenSet {fo : FE} : Wp (mLenSet fo τ h) P X = Wp (fo τ h) (fun x h1 => Wp (match x with
  | .tup l => match intsOf l with
    | some ns => if ns.length ≤ 4000 then .ok (.int (cntD ns : Nat)) h1 else .bad
    | none => .bad
  | _ => (.bad : Res T)) P X) X := by simp only [mLenSet, wp_bind] <;> rfl
@[simp ↓] theorem w_zip {fa : FA} : Wp (iZipM fa τ h) PL X = Wp (fa τ h) (fun xs h1 => Wp (match xs with
  | [.lst l, .lst m] => .ok (pairs l m) h1
  | [x, y] => match tupOf x, tupOf y with
    | some l, some m => .ok (pairs l m) h1
    | _, _ => .bad
  | _ => (.bad : Res (List T))) PL X) X := by simp only [iZipM, wp_bind] <;> rfl
@[simp ↓] theorem w_def {N : Nat} {b : FS} {ts : List T} : Wp (mDef N b ts h) P X = Wp (b (ts.map some ++ List.replicate (N - ts.length) none) h) (fun fl h => match fl with | .nx _ => P .non h | .rt t => P t h | .xc e _ => X e h | .bk _ => False | .ct _ => False) (fun _ _ => False) := wp_out
@[simp ↓] theorem w_LM {g : T → List T → AH → Res T} {fo : FE} {fr : FA} : Wp (mLM g fo fr τ h) P X = Wp (fo τ h) (fun x h1 => if isLst x h1 = true then Wp (fr τ h1) (fun xs h2 => Wp (g x xs h2) P X) X else False) X := by simp only [mLM, wp_bind, wp_ite, wp_bad]
@[simp ↓] theorem w_LM0 {g : T → List T → AH → Res T} {fo : FE} : Wp (mLM0 g fo τ h) P X = Wp (fo τ h) (fun x h1 => if isLst x h1 = true then Wp (g x [] h1) P X else False) X := by simp only [mLM0, wp_bind, wp_ite, wp_bad]
@[simp ↓] theorem w_tru {fa : FE} : Wp (mTru fa τ h) PB X = Wp (fa τ h) (fun x h1 => Op (truT x h1) (fun b => PB b h1)) X := by simp only [mTru, wp_bind]; congr; funext x h1; cases truT x h1 <;> rfl
@[simp ↓] theorem w_dget {fd fy : FE} : Wp (mDGet fd fy τ h) P X = Wp (fd τ h) (fun x h1 => Wp (fy τ h1) (fun y h2 => Op (lookD x y h2).join (fun t => P t h2)) X) X := by
  simp only [mDGet, wp_bind]; congr; funext x h1; congr; funext y h2; cases lookD x y h2 with
  | none => rfl
  | some o => cases o <;> rfl
@[simp ↓] theorem w_dget2 {fd fy fx : FE} : Wp (mDGet2 fd fy fx τ h) P X = Wp (fd τ h) (fun x h1 => if isD x h1 = true then Wp (fy τ h1) (fun y h2 => Wp (fx τ h2) (fun z h3 => Op (lookD x y h3) (fun o => P (o.getD z) h3)) X) X else False) X := by
  simp only [mDGet2, wp_bind, wp_ite, wp_bad]; congr; funext x h1; congr; funext y h2; congr; funext z h3; cases lookD x y h3 <;> rfl
@[simp ↓] theorem w_dget1 {fd fy : FE} : Wp (mDGet1 fd fy τ h) P X = Wp (fd τ h) (fun x h1 => if isD x h1 = true then Wp (fy τ h1) (fun y h3 => Op (lookD x y h3) (fun o => P (o.getD .non) h3)) X else False) X := by
  simp only [mDGet1, wp_bind, wp_ite, wp_bad]; congr; funext x h1; congr; funext y h2; cases lookD x y h2 <;> rfl
@[simp ↓] theorem w_din {neg : Bool} {fy fd : FE} : Wp (mDIn neg fy fd τ h) P X = Wp (fy τ h) (fun y h1 => Wp (fd τ h1) (fun x h2 => Op (lookD x y h2) (fun o => P (.bl (if neg then !o.isSome else o.isSome)) h2)) X) X := by
  simp only [mDIn, wp_bind]; congr; funext x h1; congr; funext y h2; cases lookD y x h2 <;> rfl
@[simp ↓] theorem w_dnew : Wp (mDNew τ h) P X = P (.obj h.length) (h ++ [some (.dct [])]) := rfl
@[simp ↓] theorem w_dnewT : Wp (mDNewT τ h) P X = P (.obj h.length) (h ++ [some (.dctT [])]) := rfl
@[simp ↓] theorem w_isi {n : String} {fa : FE} : Wp (mIsi n fa τ h) P X = Wp (fa τ h) (fun x h1 => Op ((tyOf x h1).bind fun a => kitB a n) (fun b => P (.bl b) h1)) X := by
  simp only [mIsi, wp_bind]; congr; funext x h1; cases ((tyOf x h1).bind fun a => kitB a n) <;> rfl
@[simp ↓] theorem w_fld {c f : Str} {fa : FE} : Wp (mFld c f fa τ h) P X = Wp (fa τ h) (fun x h1 => Op ((insOf c x h1).bind fun m => m.lookup f) (fun t => P t h1)) X := by
  simp only [mFld, wp_bind]; congr; funext x h1; cases ((insOf c x h1).bind fun m => m.lookup f) <;> rfl
@[simp ↓] theorem w_meth {c m : Str} {n : Nat} {mir : List T → AH → Res T} {fo : FE} {fr : FA} : Wp (mMeth c m n mir fo fr τ h) P X = Wp (fo τ h) (fun x h1 => Op ((insOf c x h1).map fun mm => mm.lookup m) (fun o => match o with | none => Wp (fr τ h1) (fun xs h2 => if xs.length + 1 = n then Wp (mir (x :: xs) h2) P X else False) X | some _ => False)) X := by
  simp only [mMeth, wp_bind]; congr; funext x h1; cases ((insOf c x h1).map fun mm => mm.lookup m) with
  | none => rfl
  | some o => cases o with
    | none => simp only [wp_bind, wp_ite, wp_bad, op_some]
    | some o => rfl
@[simp ↓] theorem w_make {c : Str} {n : Nat} {mir : List T → AH → Res T} {fz : Bool} {fr : FA} : Wp (mMake c n mir fz fr τ h) P X = Wp (fr τ h) (fun xs h1 => if xs.length + 1 = n then Wp (mir (.obj h1.length :: xs) (h1 ++ [some (.ins c [])])) (fun r h2 => match r with | .non => if fz = true then P (frz 8 h2 (.obj h1.length)).1 (frz 8 h2 (.obj h1.length)).2 else P (.obj h1.length) h2 | _ => False) X else False) X := by
  simp only [mMake, wp_bind, wp_ite, wp_bad]; congr; funext x h1; congr; funext r h2; cases r <;> simp only [wp_ite, wp_ok, wp_bad]
@[simp ↓] theorem w_lc {vs : List Nat} {fi : FA} {a : FG} {tt : FT} {fe : FE} : Wp (mLc vs fi a tt fe τ h) P X = Wp (fi τ h) (fun l h1 => Wp (mLcL a tt fe (wipeT τ vs) 0 l h1) (fun ys h2 => P (.lst ys) h2) X) X := by simp only [mLc, wp_bind, wp_ok]
@[simp ↓] theorem w_lcO {vs : List Nat} {fi : FA} {a : FG} {tt : FT} {fe : FE} : Wp (mLcO vs fi a tt fe τ h) P X = Wp (fi τ h) (fun l h1 => Wp (mLcL a tt fe (wipeT τ vs) 0 l h1) (fun ys h2 => P (.obj h2.length) (h2 ++ [some (.lst ys)])) X) X := by simp only [mLcO, wp_bind, wp_ok]
@[simp ↓] theorem w_yes : Wp (mYes τ h) PB X = PB true h := rfl
@[simp ↓] theorem w_pairs_nil {PP : List (Key × T) → AH → Prop} : Wp (mPairs [] τ h) PP X = PP [] h := rfl
@[simp ↓] theorem w_pairs_cons {PP : List (Key × T) → AH → Prop} {fk fv : FE} {r : List (FE × FE)} : Wp (mPairs ((fk, fv) :: r) τ h) PP X = Wp (fk τ h) (fun x h1 => Wp (fv τ h1) (fun y h2 => Op (keyOf x) (fun k => Wp (mPairs r τ h2) (fun ps h3 => PP ((k, y) :: ps) h3) X)) X) X := by
  simp only [mPairs, wp_bind]; congr; funext x h1; congr; funext y h2
  cases keyOf x with
  | none => rfl
  | some k => simp only [op_some, wp_bind, wp_ok]
@[simp ↓] theorem w_disp {fr : List (FE × FE)} : Wp (mDisp fr τ h) P X = Wp (mPairs fr τ h) (fun ps h1 => if ps.length ≤ 15 then P (.dct ((mergeT [] ps).map (·.1)) ((mergeT [] ps).map (·.2))) h1 else False) X := by simp only [mDisp, wp_bind, wp_ite, wp_ok, wp_bad]
@[simp ↓] theorem w_dispO {fr : List (FE × FE)} : Wp (mDispO fr τ h) P X = Wp (mPairs fr τ h) (fun ps h1 => if ps.length ≤ 15 then P (.obj h1.length) (h1 ++ [some (.dct (mergeT [] ps))]) else False) X := by simp only [mDispO, wp_bind, wp_ite, wp_ok, wp_bad]
/-! statements -/
@[simp ↓] theorem w_skip : Wp (sSkip τ h) PF X = PF (.nx τ) h := rfl
@[simp ↓] theorem w_brk : Wp (sBreak τ h) PF X = PF (.bk τ) h := rfl
@[simp ↓] theorem w_cnt : Wp (sCont τ h) PF X = PF (.ct τ) h := rfl
@[simp ↓] theorem w_seq {f g : FS} : Wp (sSeq f g τ h) PF X = Wp (f τ h) (fun fl h1 => match fl with | .nx τ' => Wp (g τ' h1) PF X | .rt t => PF (.rt t) h1 | .bk τ' => PF (.bk τ') h1 | .ct τ' => PF (.ct τ') h1 | .xc e τ' => PF (.xc e τ') h1) X := by
  simp only [sSeq, wp_bind]; congr; funext fl h1; cases fl <;> rfl
@[simp ↓] theorem w_drop {fe : FE} : Wp (sDrop fe τ h) PF X = Wp (fe τ h) (fun _ h1 => PF (.nx τ) h1) (fun e h => PF (.xc e τ) h) := by simp only [sDrop, wp_lift, wp_ok]
@[simp ↓] theorem w_ret {fe : FE} : Wp (sRet fe τ h) PF X = Wp (fe τ h) (fun t h1 => PF (.rt t) h1) (fun e h => PF (.xc e τ) h) := by simp only [sRet, wp_lift, wp_ok]
@[simp ↓] theorem w_retN : Wp (sRetN τ h) PF X = PF (.rt .non) h := rfl
@[simp ↓] theorem w_if {f : FT} {a b : FS} : Wp (sIf f a b τ h) PF X = Wp (f τ h) (fun c h1 => Cd c (Wp (a τ h1) PF X) (Wp (b τ h1) PF X)) (fun e h => PF (.xc e τ) h) := by simp only [sIf, wp_lift, wp_ite] <;> rfl
@[simp ↓] theorem w_set {i : Nat} {fe : FE} : Wp (sSet i fe τ h) PF X = Wp (fe τ h) (fun t h1 => PF (.nx (τ.set i (some t))) h1) (fun e h => PF (.xc e τ) h) := by simp only [sSet, wp_lift, wp_ok]
@[simp ↓] theorem w_asg {a : FG} {fe : FE} : Wp (sAsg fe a τ h) PF X = Wp (fe τ h) (fun t h1 => Op (a t τ) (fun τ' => PF (.nx τ') h1)) (fun e h => PF (.xc e τ) h) := by
  simp only [sAsg, wp_lift]; congr; funext t h1; cases a t τ <;> rfl
@[simp ↓] theorem w_par {i j : Nat} {fa : FA} : Wp (sPar i j fa τ h) PF X = Wp (fa τ h) (fun xs h1 => match xs with | [x, y] => PF (.nx ((τ.set i (some x)).set j (some y))) h1 | _ => False) (fun e h => PF (.xc e τ) h) := by
  simp only [sPar, wp_lift]; congr; funext xs h1; split <;> simp_all
@[simp ↓] theorem w_frz {i : Nat} {g : FS} : Wp (sFrz i g τ h) PF X = Fr (slot τ i) (fun j => Wp (g (τ.set i (some (frz 8 h (.obj j)).1)) (frz 8 h (.obj j)).2) PF X) (Wp (g τ h) PF X) := by
  unfold sFrz slot
  rcases e : τ[i]? with _ | _ | t
  · rfl
  · rfl
  · cases t <;> rfl
@[simp ↓] theorem w_setIx {fe fo fi : FE} : Wp (sSetIx fe fo fi τ h) PF X = Wp (fe τ h) (fun t h1 => Wp (fo τ h1) (fun x h2 => Wp (fi τ h2) (fun y h3 => Wp (match x, y with
  | .obj i, .int j => match h3[i]? with
    | some (some (.lst l)) => match ixN l.length j with
      | some n => .ok (.nx τ) (h3.set i (some (.lst (l.set n t))))
      | none => .bad
    | _ => .bad
  | _, _ => (.bad : Res Fl)) PF X) (fun e h => PF (.xc e τ) h)) (fun e h => PF (.xc e τ) h)) (fun e h => PF (.xc e τ) h) := by
  simp only [sSetIx, wp_lift] <;> rfl
@[simp ↓] theorem w_dput {fd fy fv : FE} : Wp (sDPutM fd fy fv τ h) PF X = Wp (fv τ h) (fun t h1 => Wp (fd τ h1) (fun x h2 => Wp (fy τ h2) (fun y h3 => Wp (match x with
  | .obj i => match h3[i]? with
    | some (some (.dct m)) => match keyOf y with
      | some k => if m.length < sizeLine then .ok (.nx τ) (h3.set i (some (.dct (putT m k t)))) else .bad
      | none => .bad
    | some (some (.dctT m)) => match keysOf y with
      | some k => if m.length < sizeLine then .ok (.nx τ) (h3.set i (some (.dctT (putT m k t)))) else .bad
      | none => .bad
    | _ => .bad
  | _ => (.bad : Res Fl)) PF X) (fun e h => PF (.xc e τ) h)) (fun e h => PF (.xc e τ) h)) (fun e h => PF (.xc e τ) h) := by
  simp only [sDPutM, wp_lift] <;> rfl
@[simp ↓] theorem w_sfld {c f : Str} {fo fv : FE} : Wp (sFldM c f fo fv τ h) PF X = Wp (fv τ h) (fun t h1 => Wp (fo τ h1) (fun x h2 => Wp (match x with
  | .obj i => match h2[i]? with
    | some (some (.ins c' m)) => if c' = c ∧ m.length < 1000 then .ok (.nx τ) (h2.set i (some (.ins c' (putFT f t m)))) else .bad
    | _ => .bad
  | _ => (.bad : Res Fl)) PF X) (fun e h => PF (.xc e τ) h)) (fun e h => PF (.xc e τ) h) := by
  simp only [sFldM, wp_lift] <;> rfl
@[simp ↓] theorem w_for {fi : FA} {a : FG} {b : FS} : Wp (sFor fi a b τ h) PF X = Wp (fi τ h) (fun l h1 => Wp (sForL a b l τ h1) PF X) (fun e h => PF (.xc e τ) h) := by simp only [sFor, wp_lift]
@[simp ↓] theorem w_raise {c : Str} {ns : List Str} {fa : FA} : Wp (sRaise c ns fa τ h) PF X = Wp (fa τ h) (fun xs h1 => if xs.length = ns.length then PF (.xc ⟨c, ns.reverse, xs.reverse⟩ τ) h1 else False) (fun e h => PF (.xc e τ) h) := by simp only [sRaise, wp_lift, wp_ite, wp_ok, wp_bad]
@[simp ↓] theorem w_try0 {xm : List (Str × Bool)} {i : Nat} {b : FS} {su : Exc → FS} : Wp (sTry0 xm i b su τ h) PF X = Wp (b τ h) (fun fl h1 => match fl with
  | .xc e τ1 => Op (xm.lookup e.c) (fun b => Cd b (if i < τ1.length then Wp (su e (τ1.set i none) h1) (fun fl2 h2 => if noXc fl2 = true then PF (unname i fl2) h2 else False) X else False) False)
  | .nx τ' => PF (.nx τ') h1 | .rt t => PF (.rt t) h1 | .bk τ' => PF (.bk τ') h1 | .ct τ' => PF (.ct τ') h1) X := by
  simp only [sTry0, wp_bind]; congr; funext fl h1
  cases fl with
  | xc e τ1 =>
    dsimp only
    cases xm.lookup e.c with
    | none => rfl
    | some o => cases o with
      | false => rfl
      | true => simp only [wp_ite, wp_bind, wp_ok, wp_bad, op_some, cd_true]
  | _ => rfl
/-- a statement by what it leaves -/
theorem wp_cut {f g : FS} (R : LS → AH → Prop) (h1 : Wp (f τ h) (fun fl h' => match fl with | .nx τ' => Kp (R τ' h') () | _ => False) X) (h2 : ∀ τ' h', R τ' h' → Wp (g τ' h') PF X) : Wp (sSeq f g τ h) PF X := by
  rw [w_seq]
  refine h1.imp (fun fl h' p => ?_)
  cases fl with
  | nx τ' => exact h2 τ' h' p
  | _ => exact p.elim
/-! iteration -/
@[simp ↓] theorem w_iLst {fe : FE} : Wp (iLst fe τ h) PL X = Wp (fe τ h) (fun x h1 => Wp (match x with | .lst l => (.ok l h1 : Res (List T)) | _ => .bad) PL X) X := by simp only [iLst, wp_bind] <;> rfl
@[simp ↓] theorem w_iTup {fe : FE} : Wp (iTupM fe τ h) PL X = Wp (fe τ h) (fun x h1 => Op (tupOf x) (fun l => PL l h1)) X := by
  simp only [iTupM, wp_bind]; congr; funext x h1; cases tupOf x <;> rfl
@[simp ↓] theorem w_iRngA {fa : FA} : Wp (iRngA fa τ h) PL X = Wp (fa τ h) (fun xs h1 => Wp (match xs with | [.int j] => rngI 0 j h1 | _ => .bad) PL X) X := by simp only [iRngA, wp_bind] <;> rfl
@[simp ↓] theorem w_iRngB {fa : FA} : Wp (iRngB fa τ h) PL X = Wp (fa τ h) (fun xs h1 => Wp (match xs with | [.int i, .int j] => rngI i j h1 | _ => .bad) PL X) X := by simp only [iRngB, wp_bind] <;> rfl
@[simp ↓] theorem w_iStr {fe : FE} : Wp (iStrM fe τ h) PL X = Wp (fe τ h) (fun x h1 => Wp (match x with | .str z => (.ok (chars z) h1 : Res (List T)) | _ => .bad) PL X) X := by simp only [iStrM, wp_bind] <;> rfl
@[simp ↓] theorem w_iEnumT {fa : FA} : Wp (iEnumTM fa τ h) PL X = Wp (fa τ h) (fun xs h1 => Wp (match xs with | [x] => (match tupOf x with | some l => (.ok (numbered l) h1 : Res (List T)) | none => .bad) | _ => .bad) PL X) X := by simp only [iEnumTM, wp_bind] <;> rfl
@[simp ↓] theorem w_iEnumL {fa : FA} : Wp (iEnumL fa τ h) PL X = Wp (fa τ h) (fun xs h1 => Wp (match xs with | [.lst l] => (.ok (numbered l) h1 : Res (List T)) | _ => .bad) PL X) X := by simp only [iEnumL, wp_bind] <;> rfl
/-! loops -/
theorem wp_for {a : FG} {b : FS} {l : List T} (I : List T → LS → AH → Prop) (h0 : I l τ h)
    (hs : ∀ x xs τ h, I (x :: xs) τ h → ∃ τ1, a x τ = some τ1 ∧ Wp (b τ1 h) (fun fl h' => match fl with | .nx τ' => Kp (I xs τ' h') () | .ct τ' => Kp (I xs τ' h') () | .bk τ' => PF (.nx τ') h' | .rt t => PF (.rt t) h' | .xc e τ' => PF (.xc e τ') h') X)
    (he : ∀ τ h, I [] τ h → PF (.nx τ) h) : Wp (sForL a b l τ h) PF X := by
  induction l generalizing τ h with
  | nil => exact he τ h h0
  | cons x xs ih =>
    obtain ⟨τ1, ha, hb⟩ := hs x xs τ h h0
    rw [for_cons ha, wp_bind]
    refine hb.imp (fun fl h' p => ?_)
    cases fl with
    | nx τ' => exact ih p
    | ct τ' => exact ih p
    | bk τ' => exact p
    | rt t => exact p
    | xc e τ' => exact p
theorem wp_lcl {a : FG} {tt : FT} {fe : FE} {l : List T} {n : Nat} {acc : List T} (I : List T → List T → AH → Prop) (h0 : I l acc h) (hn : n + l.length ≤ sizeLine)
    (hs : ∀ x xs acc h, I (x :: xs) acc h → ∃ τ', a x τ = some τ' ∧ Wp (tt τ' h) (fun b h1 => Cd b (Wp (fe τ' h1) (fun y h2 => Kp (I xs (acc ++ [y]) h2) ()) X) (Kp (I xs acc h1) ())) X)
    (he : ∀ ys h, I [] (acc ++ ys) h → PL ys h) : Wp (mLcL a tt fe τ n l h) PL X := by
  induction l generalizing acc n h PL with
  | nil => exact he [] h (by rw [List.append_nil]; exact h0)
  | cons x xs ih =>
    obtain ⟨τ', ha, hb⟩ := hs x xs acc h h0
    rw [List.length_cons] at hn
    unfold mLcL
    simp only [ha, wp_bind]
    refine hb.imp (fun b h1 p => ?_)
    cases b with
    | false =>
      exact ih p (by omega) he
    | true =>
      simp only [if_true, wp_bind, cd_true] at p ⊢
      refine p.imp (fun y h2 q => ?_)
      rw [if_pos (by omega), wp_bind]
      refine ih q (by omega) (fun ys h3 r => he _ _ ?_)
      rw [List.append_assoc] at r
      exact r
/-- a for that ends at the first find -/
theorem for_first {R : Type} {a : FG} {b : FS} (Inv : LS → Prop) (out : R → LS → Fl) (res : Nat → Option R) (hout : ∀ r τ, (∃ t, out r τ = .rt t) ∨ ∃ e τ', out r τ = .xc e τ') : ∀ (l : List T) (k0 : Nat), (∀ (i : Nat) x τ, l[i]? = some x → Inv τ → ∃ τ1 τ', a x τ = some τ1 ∧ Inv τ' ∧ b τ1 h = .ok (match res (k0 + i) with | none => .nx τ' | some r => out r τ') h) → ∀ τ, Inv τ →
    ∃ τ', Inv τ' ∧ sForL a b l τ h = .ok (match firstR res k0 l.length with | none => .nx τ' | some r => out r τ') h := by
  intro l
  induction l with
  | nil => intro k0 _ τ i; exact ⟨τ, i, rfl⟩
  | cons x l ih =>
    intro k0 hs τ hi
    obtain ⟨τ1, τ', ha, hi', hb⟩ := hs 0 x τ rfl hi
    rw [Nat.add_zero] at hb
    cases e : res k0 with
    | some r =>
      rw [e] at hb
      refine ⟨τ', hi', ?_⟩
      have fr : firstR res k0 (x :: l).length = some r := by show (match res k0 with | some r => some r | none => _) = _; rw [e]
      rw [fr]
      dsimp only at hb ⊢
      rcases hout r τ' with ⟨t, ht⟩ | ⟨ex, τ2, ht⟩
      · rw [ht] at hb ⊢; exact for_rt ha hb
      · rw [ht] at hb ⊢
        rw [for_cons ha, hb]; rfl
    | none =>
      rw [e] at hb
      obtain ⟨τ2, hi2, e2⟩ := ih (k0 + 1) (fun i y τ hy hτ => by
        have := hs (i + 1) y τ hy hτ
        rw [show k0 + (i + 1) = k0 + 1 + i by omega] at this
        exact this) τ' hi'
      refine ⟨τ2, hi2, ?_⟩
      have fr : firstR res k0 (x :: l).length = firstR res (k0 + 1) l.length := by show (match res k0 with | some r => some r | none => _) = _; rw [e]
      rw [fr, for_nx ha hb, e2]
theorem lc_mapw {a : FG} {fe : FE} {l : List T} {n : Nat} (f : T → T) (hn : n + l.length ≤ sizeLine) (hf : ∀ x ∈ l, ∃ τ', a x τ = some τ' ∧ Wp (fe τ' h) (fun y h' => y = f x ∧ h' = h) (fun _ _ => False)) : mLcL a mYes fe τ n l h = .ok (l.map f) h :=
  lc_map hn fun x hx => by
    obtain ⟨τ', e, w⟩ := hf x hx
    obtain ⟨y, h', e', rfl, rfl⟩ := w.ok
    exact ⟨τ', e, e'⟩
end
/-- an ite of props: its branches are left alone -/
theorem ite_f {c : Prop} [Decidable c] {p : Prop} (hc : c) (hp : p) : if c then p else False := by rw [if_pos hc]; exact hp

end W0
inductive Un0 (p q : Prop) : Type | mk
inductive Un1 {α : Type} (p : α → Prop) : Type | mk
inductive Un2 {α : Type} (P : α → AH → Prop) (X : Exc → AH → Prop) : Type | mk
def Op {α : Type} (o : Option α) (p : α → Prop) (_ : Un1 p := .mk) : Prop := W0.Op o p
@[simp] theorem op_some {α : Type} {a : α} {p : α → Prop} : Op (some a) p = p a := W0.op_some
@[simp] theorem op_none {α : Type} {p : α → Prop} : Op none p = False := W0.op_none
def Cd (b : Bool) (p q : Prop) (_ : Un0 p q := .mk) : Prop := W0.Cd b p q
@[simp] theorem cd_true {p q : Prop} : Cd true p q = p := W0.cd_true
@[simp] theorem cd_false {p q : Prop} : Cd false p q = q := W0.cd_false
theorem Cd.of {b : Bool} {p q : Prop} (h1 : b = true → p) (h2 : b = false → q) : Cd b p q := W0.Cd.of h1 h2
def Bo (t : T) (p : Bool → Prop) (_ : Un1 p := .mk) : Prop := W0.Bo t p
@[simp] theorem bo_bl {b : Bool} {p : Bool → Prop} : Bo (.bl b) p = p b := W0.bo_bl
def Kp (p : Prop) (u : Unit) (_ : Un0 p p := .mk) : Prop := W0.Kp p u
theorem Kp.mk {p : Prop} (h : p) : Kp p () := W0.Kp.mk h
@[simp] theorem slot_zero {x : Option T} {τ : LS} : slot (x :: τ) 0 = x := W0.slot_zero
@[simp] theorem slot_succ {x : Option T} {τ : LS} {i : Nat} : slot (x :: τ) (i + 1) = slot τ i := W0.slot_succ
def Fr (o : Option T) (p : Nat → Prop) (q : Prop) (_ : Un1 p := .mk) (_ : Un0 q q := .mk) : Prop := W0.Fr o p q
section
variable {p : Nat → Prop} {q : Prop}
@[simp] theorem fr_obj {j : Nat} : Fr (some (.obj j)) p q = p j := W0.fr_obj
@[simp] theorem fr_none : Fr none p q = q := W0.fr_none
@[simp] theorem fr_non : Fr (some .non) p q = q := W0.fr_non
@[simp] theorem fr_bl {b : Bool} : Fr (some (.bl b)) p q = q := W0.fr_bl
@[simp] theorem fr_int {b : Int} : Fr (some (.int b)) p q = q := W0.fr_int
@[simp] theorem fr_str {b : Str} : Fr (some (.str b)) p q = q := W0.fr_str
@[simp] theorem fr_ref {b : Str} : Fr (some (.ref b)) p q = q := W0.fr_ref
@[simp] theorem fr_tup {l : List T} : Fr (some (.tup l)) p q = q := W0.fr_tup
@[simp] theorem fr_ktp {l : List T} : Fr (some (.ktp l)) p q = q := W0.fr_ktp
@[simp] theorem fr_lst {l : List T} : Fr (some (.lst l)) p q = q := W0.fr_lst
@[simp] theorem fr_rdl {l : List T} : Fr (some (.rdl l)) p q = q := W0.fr_rdl
@[simp] theorem fr_inst {c : Str} {ns : List Str} {l : List T} : Fr (some (.inst c ns l)) p q = q := W0.fr_inst
@[simp] theorem fr_dct {ns : List Key} {l : List T} : Fr (some (.dct ns l)) p q = q := W0.fr_dct
@[simp] theorem fr_dctT {ns : List (List Key)} {l : List T} : Fr (some (.dctT ns l)) p q = q := W0.fr_dctT
theorem Fr.no {t : T} (h : isObj t = false) : Fr (some t) p q = q := W0.Fr.no h
end
section
variable {α β : Type}
def Wp {α : Type} (r : Res α) (P : α → AH → Prop) (X : Exc → AH → Prop) (_ : Un2 P X := .mk) : Prop := W0.Wp r P X
variable {P : α → AH → Prop} {X : Exc → AH → Prop} {h : AH}
@[simp] theorem wp_ok {a : α} : Wp (.ok a h) P X = P a h := W0.wp_ok
@[simp] theorem wp_bad : Wp (.bad : Res α) P X = False := W0.wp_bad
@[simp] theorem wp_exc {e : Exc} : Wp (.exc e h : Res α) P X = X e h := W0.wp_exc
@[simp ↓] theorem wp_bind {x : Res β} {f : β → AH → Res α} : Wp (x.bind f) P X = Wp x (fun a h => Wp (f a h) P X) X := W0.wp_bind
@[simp ↓] theorem wp_ite {c : Prop} [Decidable c] {x y : Res α} : Wp (if c then x else y) P X = if c then Wp x P X else Wp y P X := W0.wp_ite
@[simp] theorem wp_pur {o : Option α} : Wp (pur o h) P X = Op o (fun a => P a h) := W0.wp_pur
@[simp ↓] theorem wp_lift {P : Fl → AH → Prop} {x : Res β} {τ : LS} {k : β → AH → Res Fl} : Wp (liftE x τ k) P X = Wp x (fun a h => Wp (k a h) P X) (fun e h => P (.xc e τ) h) := W0.wp_lift
@[simp ↓] theorem wp_out {P : T → AH → Prop} {r : Res Fl} : Wp (outD r) P X = Wp r (fun fl h => match fl with | .nx _ => P .non h | .rt t => P t h | .xc e _ => X e h | .bk _ => False | .ct _ => False) (fun _ _ => False) := W0.wp_out
theorem Wp.mono {r : Res α} {P Q : α → AH → Prop} {X Y : Exc → AH → Prop} (w : Wp r P X) (hp : ∀ a h, P a h → Q a h) (hx : ∀ e h, X e h → Y e h) : Wp r Q Y := W0.Wp.mono w hp hx
theorem Wp.imp {r : Res α} {P Q : α → AH → Prop} (w : Wp r P X) (hp : ∀ a h, P a h → Q a h) : Wp r Q X := W0.Wp.imp w hp
theorem Wp.ok {r : Res α} (w : Wp r P (fun _ _ => False)) : ∃ a h, r = .ok a h ∧ P a h := W0.Wp.ok w
theorem Wp.eq {r : Res α} {v : α} (w : Wp r (fun a h' => a = v ∧ h' = h) (fun _ _ => False)) : r = .ok v h := W0.Wp.eq w
theorem Wp.eq' {r : Res α} {v : α} {h1 : AH} (w : Wp r (fun a h' => a = v ∧ h' = h1) (fun _ _ => False)) : r = .ok v h1 := W0.Wp.eq w
theorem Wp.of_exc {r : Res α} {e : Exc} (q : r = .exc e h) (p : X e h) : Wp r P X := W0.Wp.of_exc q p
theorem Wp.of {r : Res α} {a : α} (e : r = .ok a h) (p : P a h) : Wp r P X := W0.Wp.of e p
end
section
variable {P : T → AH → Prop} {PL : List T → AH → Prop} {PB : Bool → AH → Prop} {PF : Fl → AH → Prop} {X : Exc → AH → Prop} {h : AH} {τ : LS}
@[simp ↓] theorem w_var {i : Nat} : Wp (mVar i τ h) P X = Op (slot τ i) (fun t => P t h) := W0.w_var
@[simp ↓] theorem w_c {t : T} : Wp (mC t τ h) P X = P t h := W0.w_c
@[simp ↓] theorem w_op {g : T → T → AH → Res T} {fa fb : FE} : Wp (mOp g fa fb τ h) P X = Wp (fa τ h) (fun x h1 => Wp (fb τ h1) (fun y h2 => Wp (g x y h2) P X) X) X := W0.w_op
@[simp ↓] theorem w_un {g : T → AH → Res T} {fa : FE} : Wp (mUn g fa τ h) P X = Wp (fa τ h) (fun x h1 => Wp (g x h1) P X) X := W0.w_un
@[simp ↓] theorem w_nil : Wp (mNil τ h) PL X = PL [] h := W0.w_nil
@[simp ↓] theorem w_cons {fa : FE} {fr : FA} : Wp (mCons fa fr τ h) PL X = Wp (fa τ h) (fun x h1 => Wp (fr τ h1) (fun xs h2 => PL (x :: xs) h2) X) X := W0.w_cons
@[simp ↓] theorem w_star {fe : FE} {fr : FA} : Wp (mStar fe fr τ h) PL X = Wp (fe τ h) (fun x h1 => Op (seqOf x h1) (fun l => Wp (fr τ h1) (fun ys h2 => PL (l ++ ys) h2) X)) X := W0.w_star
@[simp ↓] theorem w_CB {g : List T → AH → Res T} {fr : FA} : Wp (mCB g fr τ h) P X = Wp (fr τ h) (fun xs h1 => Wp (g xs h1) P X) X := W0.w_CB
@[simp ↓] theorem w_B {fa : FE} : Wp (mB fa τ h) PB X = Wp (fa τ h) (fun x h1 => Bo x (fun b => PB b h1)) X := W0.w_B
@[simp ↓] theorem w_and {f g : FT} : Wp (mAnd f g τ h) PB X = Wp (f τ h) (fun c h1 => Cd c (Wp (g τ h1) PB X) (PB false h1)) X := W0.w_and
@[simp ↓] theorem w_or {f g : FT} : Wp (mOr f g τ h) PB X = Wp (f τ h) (fun c h1 => Cd c (PB true h1) (Wp (g τ h1) PB X)) X := W0.w_or
@[simp ↓] theorem w_not {f : FT} : Wp (mNot f τ h) PB X = Wp (f τ h) (fun c h1 => PB (!c) h1) X := W0.w_not
@[simp ↓] theorem w_andV {fa fb : FE} : Wp (mAndV fa fb τ h) P X = Wp (fa τ h) (fun x h1 => Bo x (fun c => Cd c (Wp (fb τ h1) P X) (P (.bl false) h1))) X := W0.w_andV
@[simp ↓] theorem w_orV {fa fb : FE} : Wp (mOrV fa fb τ h) P X = Wp (fa τ h) (fun x h1 => Bo x (fun c => Cd c (P (.bl true) h1) (Wp (fb τ h1) P X))) X := W0.w_orV
@[simp ↓] theorem w_notV {fa : FE} : Wp (mNotV fa τ h) P X = Wp (fa τ h) (fun x h1 => Bo x (fun c => P (.bl (!c)) h1)) X := W0.w_notV
@[simp ↓] theorem w_ifE {f : FT} {fa fb : FE} : Wp (mIfE f fa fb τ h) P X = Wp (f τ h) (fun c h1 => Cd c (Wp (fa τ h1) P X) (Wp (fb τ h1) P X)) X := W0.w_ifE
@[simp ↓] theorem w_chain {g g' : T → T → AH → Res T} {fa fb fc : FE} : Wp (mChain g g' fa fb fc τ h) P X = Wp (fa τ h) (fun x h1 => Wp (fb τ h1) (fun y h2 => Wp (g x y h2) (fun z h3 => Bo z (fun c => Cd c (Wp (fc τ h3) (fun w h4 => Wp (g' y w h4) P X) X) (P (.bl false) h3))) X) X) X := W0.w_chain
@[simp ↓] theorem w_tup {fr : FA} : Wp (mTup fr τ h) P X = Wp (fr τ h) (fun xs h1 => if xs.length ≤ sizeLine then P (.tup xs) h1 else False) X := W0.w_tup
@[simp ↓] theorem w_lst {fr : FA} : Wp (mLst fr τ h) P X = Wp (fr τ h) (fun xs h1 => if xs.length ≤ sizeLine then P (.lst xs) h1 else False) X := W0.w_lst
@[simp ↓] theorem w_lstO {fr : FA} : Wp (mLstO fr τ h) P X = Wp (fr τ h) (fun xs h1 => if xs.length ≤ sizeLine then P (.obj h1.length) (h1 ++ [some (.lst xs)]) else False) X := W0.w_lstO
@[simp ↓] theorem w_noPart {PO : Option Int → AH → Prop} : Wp (mNoPart τ h) PO X = PO none h := W0.w_noPart
@[simp ↓] theorem w_part {PO : Option Int → AH → Prop} {fa : FE} : Wp (mPart fa τ h) PO X = Wp (fa τ h) (fun x h1 => Wp (match x with | .int i => (.ok (some i) h1 : Res (Option Int)) | _ => .bad) PO X) X := W0.w_part
@[simp ↓] theorem w_sl {g : T → Option Int → Option Int → AH → Res T} {fa : FE} {fl fh : FO} : Wp (mSl g fa fl fh τ h) P X = Wp (fa τ h) (fun x h1 => Wp (fl τ h1) (fun lo h2 => Wp (fh τ h2) (fun hi h3 => Wp (g x lo hi h3) P X) X) X) X := W0.w_sl
@[simp ↓] theorem w_call {n : Nat} {m : List T → AH → Res T} {fr : FA} : Wp (mCall n m fr τ h) P X = Wp (fr τ h) (fun xs h1 => if xs.length = n then Wp (m xs h1) P X else False) X := W0.w_call
@[simp ↓] theorem w_callL {i n : Nat} {nm : Str} {m : List T → AH → Res T} {fr : FA} {els : FE} : Wp (mCallL i nm n m fr els τ h) P X = Op (slot τ i) (fun t => Wp (match t with | .ref a => if a = nm then mCall n m fr τ h else els τ h | _ => .bad) P X) := W0.w_callL
@[simp ↓] theorem w_lenSet {fo : FE} : Wp (mLenSet fo τ h) P X = Wp (fo τ h) (fun x h1 => Wp (match x with
  | .tup l => match intsOf l with
    | some ns => if ns.length ≤ 4000 then .ok (.int (cntD ns : Nat)) h1 else .bad
    | none => .bad
  | _ => (.bad : Res T)) P X) X := W0.w_lenSet
@[simp ↓] theorem w_zip {fa : FA} : Wp (iZipM fa τ h) PL X = Wp (fa τ h) (fun xs h1 => Wp (match xs with
  | [.lst l, .lst m] => .ok (pairs l m) h1
  | [x, y] => match tupOf x, tupOf y with
    | some l, some m => .ok (pairs l m) h1
    | _, _ => .bad
  | _ => (.bad : Res (List T))) PL X) X := W0.w_zip
@[simp ↓] theorem w_def {N : Nat} {b : FS} {ts : List T} : Wp (mDef N b ts h) P X = Wp (b (ts.map some ++ List.replicate (N - ts.length) none) h) (fun fl h => match fl with | .nx _ => P .non h | .rt t => P t h | .xc e _ => X e h | .bk _ => False | .ct _ => False) (fun _ _ => False) := W0.w_def
@[simp ↓] theorem w_LM {g : T → List T → AH → Res T} {fo : FE} {fr : FA} : Wp (mLM g fo fr τ h) P X = Wp (fo τ h) (fun x h1 => if isLst x h1 = true then Wp (fr τ h1) (fun xs h2 => Wp (g x xs h2) P X) X else False) X := W0.w_LM
@[simp ↓] theorem w_LM0 {g : T → List T → AH → Res T} {fo : FE} : Wp (mLM0 g fo τ h) P X = Wp (fo τ h) (fun x h1 => if isLst x h1 = true then Wp (g x [] h1) P X else False) X := W0.w_LM0
@[simp ↓] theorem w_tru {fa : FE} : Wp (mTru fa τ h) PB X = Wp (fa τ h) (fun x h1 => Op (truT x h1) (fun b => PB b h1)) X := W0.w_tru
@[simp ↓] theorem w_dget {fd fy : FE} : Wp (mDGet fd fy τ h) P X = Wp (fd τ h) (fun x h1 => Wp (fy τ h1) (fun y h2 => Op (lookD x y h2).join (fun t => P t h2)) X) X := W0.w_dget
@[simp ↓] theorem w_dget2 {fd fy fx : FE} : Wp (mDGet2 fd fy fx τ h) P X = Wp (fd τ h) (fun x h1 => if isD x h1 = true then Wp (fy τ h1) (fun y h2 => Wp (fx τ h2) (fun z h3 => Op (lookD x y h3) (fun o => P (o.getD z) h3)) X) X else False) X := W0.w_dget2
@[simp ↓] theorem w_dget1 {fd fy : FE} : Wp (mDGet1 fd fy τ h) P X = Wp (fd τ h) (fun x h1 => if isD x h1 = true then Wp (fy τ h1) (fun y h3 => Op (lookD x y h3) (fun o => P (o.getD .non) h3)) X else False) X := W0.w_dget1
@[simp ↓] theorem w_din {neg : Bool} {fy fd : FE} : Wp (mDIn neg fy fd τ h) P X = Wp (fy τ h) (fun y h1 => Wp (fd τ h1) (fun x h2 => Op (lookD x y h2) (fun o => P (.bl (if neg then !o.isSome else o.isSome)) h2)) X) X := W0.w_din
@[simp ↓] theorem w_dnew : Wp (mDNew τ h) P X = P (.obj h.length) (h ++ [some (.dct [])]) := W0.w_dnew
@[simp ↓] theorem w_dnewT : Wp (mDNewT τ h) P X = P (.obj h.length) (h ++ [some (.dctT [])]) := W0.w_dnewT
@[simp ↓] theorem w_isi {n : String} {fa : FE} : Wp (mIsi n fa τ h) P X = Wp (fa τ h) (fun x h1 => Op ((tyOf x h1).bind fun a => kitB a n) (fun b => P (.bl b) h1)) X := W0.w_isi
@[simp ↓] theorem w_fld {c f : Str} {fa : FE} : Wp (mFld c f fa τ h) P X = Wp (fa τ h) (fun x h1 => Op ((insOf c x h1).bind fun m => m.lookup f) (fun t => P t h1)) X := W0.w_fld
@[simp ↓] theorem w_meth {c m : Str} {n : Nat} {mir : List T → AH → Res T} {fo : FE} {fr : FA} : Wp (mMeth c m n mir fo fr τ h) P X = Wp (fo τ h) (fun x h1 => Op ((insOf c x h1).map fun mm => mm.lookup m) (fun o => match o with | none => Wp (fr τ h1) (fun xs h2 => if xs.length + 1 = n then Wp (mir (x :: xs) h2) P X else False) X | some _ => False)) X := W0.w_meth
@[simp ↓] theorem w_make {c : Str} {n : Nat} {mir : List T → AH → Res T} {fz : Bool} {fr : FA} : Wp (mMake c n mir fz fr τ h) P X = Wp (fr τ h) (fun xs h1 => if xs.length + 1 = n then Wp (mir (.obj h1.length :: xs) (h1 ++ [some (.ins c [])])) (fun r h2 => match r with | .non => if fz = true then P (frz 8 h2 (.obj h1.length)).1 (frz 8 h2 (.obj h1.length)).2 else P (.obj h1.length) h2 | _ => False) X else False) X := W0.w_make
@[simp ↓] theorem w_lc {vs : List Nat} {fi : FA} {a : FG} {tt : FT} {fe : FE} : Wp (mLc vs fi a tt fe τ h) P X = Wp (fi τ h) (fun l h1 => Wp (mLcL a tt fe (wipeT τ vs) 0 l h1) (fun ys h2 => P (.lst ys) h2) X) X := W0.w_lc
@[simp ↓] theorem w_lcO {vs : List Nat} {fi : FA} {a : FG} {tt : FT} {fe : FE} : Wp (mLcO vs fi a tt fe τ h) P X = Wp (fi τ h) (fun l h1 => Wp (mLcL a tt fe (wipeT τ vs) 0 l h1) (fun ys h2 => P (.obj h2.length) (h2 ++ [some (.lst ys)])) X) X := W0.w_lcO
@[simp ↓] theorem w_yes : Wp (mYes τ h) PB X = PB true h := W0.w_yes
@[simp ↓] theorem w_pairs_nil {PP : List (Key × T) → AH → Prop} : Wp (mPairs [] τ h) PP X = PP [] h := W0.w_pairs_nil
@[simp ↓] theorem w_pairs_cons {PP : List (Key × T) → AH → Prop} {fk fv : FE} {r : List (FE × FE)} : Wp (mPairs ((fk, fv) :: r) τ h) PP X = Wp (fk τ h) (fun x h1 => Wp (fv τ h1) (fun y h2 => Op (keyOf x) (fun k => Wp (mPairs r τ h2) (fun ps h3 => PP ((k, y) :: ps) h3) X)) X) X := W0.w_pairs_cons
@[simp ↓] theorem w_disp {fr : List (FE × FE)} : Wp (mDisp fr τ h) P X = Wp (mPairs fr τ h) (fun ps h1 => if ps.length ≤ 15 then P (.dct ((mergeT [] ps).map (·.1)) ((mergeT [] ps).map (·.2))) h1 else False) X := W0.w_disp
@[simp ↓] theorem w_dispO {fr : List (FE × FE)} : Wp (mDispO fr τ h) P X = Wp (mPairs fr τ h) (fun ps h1 => if ps.length ≤ 15 then P (.obj h1.length) (h1 ++ [some (.dct (mergeT [] ps))]) else False) X := W0.w_dispO
/-! statements -/
@[simp ↓] theorem w_skip : Wp (sSkip τ h) PF X = PF (.nx τ) h := W0.w_skip
@[simp ↓] theorem w_brk : Wp (sBreak τ h) PF X = PF (.bk τ) h := W0.w_brk
@[simp ↓] theorem w_cnt : Wp (sCont τ h) PF X = PF (.ct τ) h := W0.w_cnt
@[simp ↓] theorem w_seq {f g : FS} : Wp (sSeq f g τ h) PF X = Wp (f τ h) (fun fl h1 => match fl with | .nx τ' => Wp (g τ' h1) PF X | .rt t => PF (.rt t) h1 | .bk τ' => PF (.bk τ') h1 | .ct τ' => PF (.ct τ') h1 | .xc e τ' => PF (.xc e τ') h1) X := W0.w_seq
@[simp ↓] theorem w_drop {fe : FE} : Wp (sDrop fe τ h) PF X = Wp (fe τ h) (fun _ h1 => PF (.nx τ) h1) (fun e h => PF (.xc e τ) h) := W0.w_drop
@[simp ↓] theorem w_ret {fe : FE} : Wp (sRet fe τ h) PF X = Wp (fe τ h) (fun t h1 => PF (.rt t) h1) (fun e h => PF (.xc e τ) h) := W0.w_ret
@[simp ↓] theorem w_retN : Wp (sRetN τ h) PF X = PF (.rt .non) h := W0.w_retN
@[simp ↓] theorem w_if {f : FT} {a b : FS} : Wp (sIf f a b τ h) PF X = Wp (f τ h) (fun c h1 => Cd c (Wp (a τ h1) PF X) (Wp (b τ h1) PF X)) (fun e h => PF (.xc e τ) h) := W0.w_if
@[simp ↓] theorem w_set {i : Nat} {fe : FE} : Wp (sSet i fe τ h) PF X = Wp (fe τ h) (fun t h1 => PF (.nx (τ.set i (some t))) h1) (fun e h => PF (.xc e τ) h) := W0.w_set
@[simp ↓] theorem w_asg {a : FG} {fe : FE} : Wp (sAsg fe a τ h) PF X = Wp (fe τ h) (fun t h1 => Op (a t τ) (fun τ' => PF (.nx τ') h1)) (fun e h => PF (.xc e τ) h) := W0.w_asg
@[simp ↓] theorem w_par {i j : Nat} {fa : FA} : Wp (sPar i j fa τ h) PF X = Wp (fa τ h) (fun xs h1 => match xs with | [x, y] => PF (.nx ((τ.set i (some x)).set j (some y))) h1 | _ => False) (fun e h => PF (.xc e τ) h) := W0.w_par
@[simp ↓] theorem w_frz {i : Nat} {g : FS} : Wp (sFrz i g τ h) PF X = Fr (slot τ i) (fun j => Wp (g (τ.set i (some (frz 8 h (.obj j)).1)) (frz 8 h (.obj j)).2) PF X) (Wp (g τ h) PF X) := W0.w_frz
@[simp ↓] theorem w_setIx {fe fo fi : FE} : Wp (sSetIx fe fo fi τ h) PF X = Wp (fe τ h) (fun t h1 => Wp (fo τ h1) (fun x h2 => Wp (fi τ h2) (fun y h3 => Wp (match x, y with
  | .obj i, .int j => match h3[i]? with
    | some (some (.lst l)) => match ixN l.length j with
      | some n => .ok (.nx τ) (h3.set i (some (.lst (l.set n t))))
      | none => .bad
    | _ => .bad
  | _, _ => (.bad : Res Fl)) PF X) (fun e h => PF (.xc e τ) h)) (fun e h => PF (.xc e τ) h)) (fun e h => PF (.xc e τ) h) := W0.w_setIx
@[simp ↓] theorem w_dput {fd fy fv : FE} : Wp (sDPutM fd fy fv τ h) PF X = Wp (fv τ h) (fun t h1 => Wp (fd τ h1) (fun x h2 => Wp (fy τ h2) (fun y h3 => Wp (match x with
  | .obj i => match h3[i]? with
    | some (some (.dct m)) => match keyOf y with
      | some k => if m.length < sizeLine then .ok (.nx τ) (h3.set i (some (.dct (putT m k t)))) else .bad
      | none => .bad
    | some (some (.dctT m)) => match keysOf y with
      | some k => if m.length < sizeLine then .ok (.nx τ) (h3.set i (some (.dctT (putT m k t)))) else .bad
      | none => .bad
    | _ => .bad
  | _ => (.bad : Res Fl)) PF X) (fun e h => PF (.xc e τ) h)) (fun e h => PF (.xc e τ) h)) (fun e h => PF (.xc e τ) h) := W0.w_dput
@[simp ↓] theorem w_sfld {c f : Str} {fo fv : FE} : Wp (sFldM c f fo fv τ h) PF X = Wp (fv τ h) (fun t h1 => Wp (fo τ h1) (fun x h2 => Wp (match x with
  | .obj i => match h2[i]? with
    | some (some (.ins c' m)) => if c' = c ∧ m.length < 1000 then .ok (.nx τ) (h2.set i (some (.ins c' (putFT f t m)))) else .bad
    | _ => .bad
  | _ => (.bad : Res Fl)) PF X) (fun e h => PF (.xc e τ) h)) (fun e h => PF (.xc e τ) h) := W0.w_sfld
@[simp ↓] theorem w_for {fi : FA} {a : FG} {b : FS} : Wp (sFor fi a b τ h) PF X = Wp (fi τ h) (fun l h1 => Wp (sForL a b l τ h1) PF X) (fun e h => PF (.xc e τ) h) := W0.w_for
@[simp ↓] theorem w_raise {c : Str} {ns : List Str} {fa : FA} : Wp (sRaise c ns fa τ h) PF X = Wp (fa τ h) (fun xs h1 => if xs.length = ns.length then PF (.xc ⟨c, ns.reverse, xs.reverse⟩ τ) h1 else False) (fun e h => PF (.xc e τ) h) := W0.w_raise
@[simp ↓] theorem w_try0 {xm : List (Str × Bool)} {i : Nat} {b : FS} {su : Exc → FS} : Wp (sTry0 xm i b su τ h) PF X = Wp (b τ h) (fun fl h1 => match fl with
  | .xc e τ1 => Op (xm.lookup e.c) (fun b => Cd b (if i < τ1.length then Wp (su e (τ1.set i none) h1) (fun fl2 h2 => if noXc fl2 = true then PF (unname i fl2) h2 else False) X else False) False)
  | .nx τ' => PF (.nx τ') h1 | .rt t => PF (.rt t) h1 | .bk τ' => PF (.bk τ') h1 | .ct τ' => PF (.ct τ') h1) X := W0.w_try0
/-- a statement by what it leaves -/
theorem wp_cut {f g : FS} (R : LS → AH → Prop) (h1 : Wp (f τ h) (fun fl h' => match fl with | .nx τ' => Kp (R τ' h') () | _ => False) X) (h2 : ∀ τ' h', R τ' h' → Wp (g τ' h') PF X) : Wp (sSeq f g τ h) PF X := W0.wp_cut R h1 h2
/-! iteration -/
@[simp ↓] theorem w_iLst {fe : FE} : Wp (iLst fe τ h) PL X = Wp (fe τ h) (fun x h1 => Wp (match x with | .lst l => (.ok l h1 : Res (List T)) | _ => .bad) PL X) X := W0.w_iLst
@[simp ↓] theorem w_iTup {fe : FE} : Wp (iTupM fe τ h) PL X = Wp (fe τ h) (fun x h1 => Op (tupOf x) (fun l => PL l h1)) X := W0.w_iTup
@[simp ↓] theorem w_iRngA {fa : FA} : Wp (iRngA fa τ h) PL X = Wp (fa τ h) (fun xs h1 => Wp (match xs with | [.int j] => rngI 0 j h1 | _ => .bad) PL X) X := W0.w_iRngA
@[simp ↓] theorem w_iRngB {fa : FA} : Wp (iRngB fa τ h) PL X = Wp (fa τ h) (fun xs h1 => Wp (match xs with | [.int i, .int j] => rngI i j h1 | _ => .bad) PL X) X := W0.w_iRngB
@[simp ↓] theorem w_iStr {fe : FE} : Wp (iStrM fe τ h) PL X = Wp (fe τ h) (fun x h1 => Wp (match x with | .str z => (.ok (chars z) h1 : Res (List T)) | _ => .bad) PL X) X := W0.w_iStr
@[simp ↓] theorem w_iEnumT {fa : FA} : Wp (iEnumTM fa τ h) PL X = Wp (fa τ h) (fun xs h1 => Wp (match xs with | [x] => (match tupOf x with | some l => (.ok (numbered l) h1 : Res (List T)) | none => .bad) | _ => .bad) PL X) X := W0.w_iEnumT
@[simp ↓] theorem w_iEnumL {fa : FA} : Wp (iEnumL fa τ h) PL X = Wp (fa τ h) (fun xs h1 => Wp (match xs with | [.lst l] => (.ok (numbered l) h1 : Res (List T)) | _ => .bad) PL X) X := W0.w_iEnumL
/-! loops -/
theorem wp_for {a : FG} {b : FS} {l : List T} (I : List T → LS → AH → Prop) (h0 : I l τ h)
    (hs : ∀ x xs τ h, I (x :: xs) τ h → ∃ τ1, a x τ = some τ1 ∧ Wp (b τ1 h) (fun fl h' => match fl with | .nx τ' => Kp (I xs τ' h') () | .ct τ' => Kp (I xs τ' h') () | .bk τ' => PF (.nx τ') h' | .rt t => PF (.rt t) h' | .xc e τ' => PF (.xc e τ') h') X)
    (he : ∀ τ h, I [] τ h → PF (.nx τ) h) : Wp (sForL a b l τ h) PF X := W0.wp_for I h0 hs he
theorem wp_lcl {a : FG} {tt : FT} {fe : FE} {l : List T} {n : Nat} {acc : List T} (I : List T → List T → AH → Prop) (h0 : I l acc h) (hn : n + l.length ≤ sizeLine)
    (hs : ∀ x xs acc h, I (x :: xs) acc h → ∃ τ', a x τ = some τ' ∧ Wp (tt τ' h) (fun b h1 => Cd b (Wp (fe τ' h1) (fun y h2 => Kp (I xs (acc ++ [y]) h2) ()) X) (Kp (I xs acc h1) ())) X)
    (he : ∀ ys h, I [] (acc ++ ys) h → PL ys h) : Wp (mLcL a tt fe τ n l h) PL X := W0.wp_lcl I h0 hn hs he
/-- a for that ends at the first find -/
theorem for_first {R : Type} {a : FG} {b : FS} (Inv : LS → Prop) (out : R → LS → Fl) (res : Nat → Option R) (hout : ∀ r τ, (∃ t, out r τ = .rt t) ∨ ∃ e τ', out r τ = .xc e τ') : ∀ (l : List T) (k0 : Nat), (∀ (i : Nat) x τ, l[i]? = some x → Inv τ → ∃ τ1 τ', a x τ = some τ1 ∧ Inv τ' ∧ b τ1 h = .ok (match res (k0 + i) with | none => .nx τ' | some r => out r τ') h) → ∀ τ, Inv τ →
    ∃ τ', Inv τ' ∧ sForL a b l τ h = .ok (match firstR res k0 l.length with | none => .nx τ' | some r => out r τ') h := W0.for_first Inv out res hout
theorem lc_mapw {a : FG} {fe : FE} {l : List T} {n : Nat} (f : T → T) (hn : n + l.length ≤ sizeLine) (hf : ∀ x ∈ l, ∃ τ', a x τ = some τ' ∧ Wp (fe τ' h) (fun y h' => y = f x ∧ h' = h) (fun _ _ => False)) : mLcL a mYes fe τ n l h = .ok (l.map f) h := W0.lc_mapw f hn hf
end
/-- an ite of props: its branches are left alone -/
theorem ite_f {c : Prop} [Decidable c] {p : Prop} (hc : c) (hp : p) : if c then p else False := by rw [if_pos hc]; exact hp

end M
/-! ### tuple * int -/
namespace M
open PySem PySem.Spec PyProof.Rows L2
variable {G : Env} {W : WX} {S : Sta}
@[simp] def gRepT (x y : T) : Option T := match y with
  | .int k => (tupOf x).bind fun l => if l ≠ [] ∧ 2 ≤ k ∧ k ≤ 1000 ∧ l.length ≤ 1000 then some (.tup (List.replicate k.toNat l).flatten) else none
  | _ => none
@[simp] abbrev oRepT : T → T → AH → Res T := P2 gRepT
theorem x_repT {X : Cx} {K : PySem.W.Frag} (h : X.K = K) : OpR X (binaryOp .Mult) (rRepT K) := h ▸ op_repT
theorem so_repT : SimR2 G (rRepT G.K) oRepT := fun S x y u v X Q e k ru rv p => by
  unfold oRepT P2 pur at p
  split at p
  · rename_i t ht
    unfold gRepT at ht
    split at ht
    · rename_i i
      obtain ⟨l, hl, ht⟩ := Option.bind_eq_some_iff.mp ht
      split at ht
      · rename_i hc
        cases ht
        obtain ⟨a, vs, rfl, hs, r⟩ := tup_stay e hl ru
        simp only [Rv] at rv
        have hne : vs ≠ [] := fun z => hc.1 (by subst z; exact List.length_eq_zero_iff.mp (by rw [← r.len]; rfl))
        refine ⟨a, i, vs, rfl, rv, hs S (Tr.refl S), hne, hc.2.1, hc.2.2.1, by rw [r.len]; exact hc.2.2.2, ?_⟩
        exact new_fz k p fun b hb f => rv_tup f ((r.rep _).mono (step_at k (Grow.upd hb)))
      · cases ht
    · cases ht
  · exact p.elim
end M
/-! ### a dict walked: it is locked meanwhile (nothing that Python does) -/
namespace M
open PySem PySem.Spec PyProof.Rows L2
variable {G : Env} {W : WX} {S : Sta} {E : L2.St → XK}
/-- from S to S' dicts may be locked or let go, nothing else -/
structure Lx (S S' : Sta) : Prop where
  G : S'.G = S.G
  al : S.al <+: S'.al
  fz : ∀ p o, (∀ kvs, o ≠ .dK kvs) → (∀ od kvs, o ≠ .frz od (.dK kvs)) → Fz S p o → Fz S' p o
  fd : ∀ p kvs, FzD S p kvs → FzD S' p kvs
mutual
theorem Rv.lx {S S' : Sta} (s : Lx S S') : ∀ {t : T} {v : V}, Rv S t v → Rv S' t v
  | .non, v, h => by simp only [Rv] at h ⊢; exact h
  | .bl b, v, h => by simp only [Rv] at h ⊢; exact h
  | .int i, v, h => by simp only [Rv] at h ⊢; exact h
  | .str x, v, h => by simp only [Rv] at h ⊢; exact h
  | .ref a, v, h => by simp only [Rv] at h ⊢; rw [s.G]; exact h
  | .tup l, v, h => by
    simp only [Rv] at h ⊢
    obtain ⟨p, vs, e, f, r⟩ := h
    exact ⟨p, vs, e, s.fz _ _ (fun _ z => nomatch z) (fun _ _ z => nomatch z) f, RvL.lx s r⟩
  | .ktp l, v, h => by
    simp only [Rv] at h ⊢
    obtain ⟨p, vs, e, f, r⟩ := h
    exact ⟨p, vs, e, by rw [s.G]; exact f, RvL.lx s r⟩
  | .lst l, v, h => by
    simp only [Rv] at h ⊢
    obtain ⟨p, vs, e, f, r⟩ := h
    exact ⟨p, vs, e, s.fz _ _ (fun _ z => nomatch z) (fun _ _ z => nomatch z) f, RvL.lx s r⟩
  | .rdl l, v, h => by
    simp only [Rv] at h ⊢
    obtain ⟨p, vs, e, f, r⟩ := h
    refine ⟨p, vs, e, ?_, RvL.lx s r⟩
    rcases f with ⟨ob, f⟩ | f | f
    · exact .inl ⟨ob, s.fz _ _ (fun _ z => nomatch z) (fun _ _ z => nomatch z) f⟩
    · exact .inr (.inl (s.fz _ _ (fun _ z => nomatch z) (fun _ _ z => nomatch z) f))
    · exact .inr (.inr (by rw [s.G]; exact f))
  | .inst c ns l, v, h => by
    simp only [Rv] at h ⊢
    obtain ⟨p, dx, vs, e, f, n, r⟩ := h
    exact ⟨p, dx, vs, e, by rw [s.G]; exact s.fz _ _ (fun _ z => nomatch z) (fun _ _ z => nomatch z) f, n, RvL.lx s r⟩
  | .dct ks l, v, h => by
    simp only [Rv] at h ⊢
    obtain ⟨p, vs, e, f, n, r⟩ := h
    exact ⟨p, vs, e, s.fd _ _ f, n, RvL.lx s r⟩
  | .dctT ks l, v, h => by
    simp only [Rv] at h ⊢
    obtain ⟨p, vs, e, f, n, r⟩ := h
    exact ⟨p, vs, e, s.fz _ _ (fun _ z => nomatch z) (fun _ _ z => nomatch z) f, n, RvL.lx s r⟩
  | .obj i, v, h => by
    simp only [Rv] at h ⊢
    obtain ⟨p, e, q⟩ := h
    refine ⟨p, ?_, q⟩
    obtain ⟨r, hr⟩ := s.al
    rw [← hr, List.getElem?_append_left (List.getElem?_eq_some_iff.mp e).1]
    exact e
theorem RvL.lx {S S' : Sta} (s : Lx S S') : ∀ {l : List T} {vs : List V}, RvL S l vs → RvL S' l vs
  | [], _, h => by simp only [RvL] at h ⊢; exact h
  | t :: ts, vs, h => by
    simp only [RvL] at h ⊢
    obtain ⟨v, r, e, h1, h2⟩ := h
    exact ⟨v, r, e, Rv.lx s h1, RvL.lx s h2⟩
end
theorem RvK.lx {κ : Type} {S S' : Sta} (s : Lx S S') : ∀ {m : List (κ × T)} {vs : List (κ × V)}, RvK S m vs → RvK S' m vs
  | [], _, h => h
  | (k, t) :: r, _, ⟨v, m', e, h1, h2⟩ => ⟨v, m', e, h1.lx s, RvK.lx s h2⟩
theorem RO.lx {S S' : Sta} (s : Lx S S') : ∀ {o : O} {u : HO}, RO S o u → RO S' o u
  | .lst _, _, ⟨vs, e, r⟩ => ⟨vs, e, r.lx s⟩
  | .dct _, _, ⟨vs, e, r⟩ => ⟨vs, e, r.lx s⟩
  | .dctT _, _, ⟨vs, e, r⟩ => ⟨vs, e, r.lx s⟩
  | .ins _ _, _, ⟨dx, vs, e, r⟩ => ⟨dx, vs, by rw [s.G]; exact e, r.lx s⟩
theorem RS0.lx {S S' : Sta} (s : Lx S S') : ∀ {τ : LS} {σ : L2.St}, RS0 S τ σ → RS0 S' τ σ
  | [], _, h => h
  | _ :: _, _, ⟨v, r, e, h, q⟩ => ⟨v, r, e, fun t ht => let ⟨w, h1, h2⟩ := h t ht; ⟨w, h1, h2.lx s⟩, RS0.lx s q⟩
theorem RX.lx {S S' : Sta} (s : Lx S S') {e : Exc} {cls : Value} {d : Option Addr} (h : RX S e cls d) : RX S' e cls d := by
  obtain ⟨h1, h2⟩ := h
  refine ⟨by rw [s.G]; exact h1, h2.imp id ?_⟩
  rintro ⟨a, vs, e1, f, n, r⟩
  exact ⟨a, vs, e1, s.fz _ _ (fun _ z => nomatch z) (fun _ _ z => nomatch z) f, n, r.lx s⟩
theorem RS.lx {S S' : Sta} (s : Lx S S') {τ : LS} {σ : L2.St} (h : RS S τ σ) : RS S' τ σ := ⟨RS0.lx s h.r, fun x hx => by
  rw [s.G] at hx
  exact ⟨(h.x x hx).1, (h.x x hx).2.lx s⟩⟩
section
variable {p : Addr} {od : Obj} {kvs : List (Key × V)}
theorem lx_lock (f : Fz S p (.dK kvs)) : Lx S (S.fill (upd S.H p (.frz od (.dK kvs)))) := ⟨rfl, List.prefix_rfl, fun q o n1 _ g => by
    have ne : q ≠ p := fun z => by rw [z] at g; exact n1 kvs (Option.some.inj (g.1.symm.trans f.1))
    exact ⟨by show upd S.H p _ q = _; rw [upd_ne ne]; exact g.1, g.2⟩, fun q ks g => by
    by_cases z : q = p
    · subst z
      rcases g with g | ⟨od', g⟩
      · have := Option.some.inj (g.1.symm.trans f.1)
        cases this
        exact .inr ⟨od, upd_same, g.2⟩
      · exact nomatch (Option.some.inj (g.1.symm.trans f.1))
    · have h : upd S.H p (.frz od (.dK kvs)) q = S.H q := upd_ne z
      rcases g with g | ⟨od', g⟩
      · exact .inl ⟨h.trans g.1, g.2⟩
      · exact .inr ⟨od', h.trans g.1, g.2⟩⟩
theorem lx_free (f : Fz S p (.frz od (.dK kvs))) : Lx S (S.fill (upd S.H p (.dK kvs))) := ⟨rfl, List.prefix_rfl, fun q o _ n2 g => by
    have ne : q ≠ p := fun z => by rw [z] at g; exact n2 od kvs (Option.some.inj (g.1.symm.trans f.1))
    exact ⟨by show upd S.H p _ q = _; rw [upd_ne ne]; exact g.1, g.2⟩, fun q ks g => by
    by_cases z : q = p
    · subst z
      rcases g with g | ⟨od', g⟩
      · exact nomatch (Option.some.inj (g.1.symm.trans f.1))
      · have := Option.some.inj (g.1.symm.trans f.1)
        cases this
        exact .inl ⟨upd_same, g.2⟩
    · have h : upd S.H p (.dK kvs) q = S.H q := upd_ne z
      rcases g with g | ⟨od', g⟩
      · exact .inl ⟨h.trans g.1, g.2⟩
      · exact .inr ⟨od', h.trans g.1, g.2⟩⟩
theorem ok_fill' {u : HO} (k : Ok S) (n : ¬ Own S p) (s : Lx S (S.fill (upd S.H p u))) : Ok (S.fill (upd S.H p u)) := ⟨k.len, fun i o q h1 h2 => by
    obtain ⟨w, hw, r⟩ := k.rel i o q h1 h2
    have ne : q ≠ p := fun z => n (.inl ⟨i, o, by rw [← z]; exact h2, h1⟩)
    exact ⟨w, by show upd S.H p u q = _; rw [upd_ne ne]; exact hw, r.lx s⟩, k.inj, fun q hq => by
    have ne : q ≠ p := fun z => n (.inr (by rw [← z]; exact hq))
    refine ⟨?_, (k.priv q hq).2⟩
    show ∃ w, upd S.H p u q = _
    rw [upd_ne ne]; exact (k.priv q hq).1⟩
theorem step_free {S' : Sta} (f : Fz S p (.dK kvs)) (st : Step (S.fill (upd S.H p (.frz od (.dK kvs)))) S') : Step S (S'.fill (upd S'.H p (.dK kvs))) := ⟨st.G, st.al, fun b o h n => by
    show upd S'.H p _ b = _
    by_cases z : b = p
    · rw [z, upd_same, ← f.1, ← z]; exact h
    · rw [upd_ne z]
      exact st.keep b o (by show upd S.H p _ b = _; rw [upd_ne z]; exact h) n, fun b z => by
    rcases st.own b z with z | z
    · exact .inl z
    · have z : upd S.H p _ b = none := z
      by_cases y : b = p
      · rw [y, upd_same] at z; cases z
      · rw [upd_ne y] at z; exact .inr z, st.pv, fun b hb => by
    have ne : b ≠ p := fun z => f.2 (.inr (by rw [← z]; exact hb))
    show upd S'.H p _ b = _
    rw [upd_ne ne]
    refine (st.pk b hb).trans ?_
    show upd S.H p _ b = _
    rw [upd_ne ne]⟩
end
/-- slot i holds a dict that is locked now -/
def LkS (S : Sta) (τ : LS) (σ : L2.St) (i : Nat) : Prop := ∃ ks l p od vs, τ[i]? = some (some (.dct ks l)) ∧ σ[i]? = some (some (.ref p)) ∧ Fz S p (.frz od (.dK (ks.zip vs))) ∧ ks.length = l.length ∧ RvL S l vs
def SimL (i : Nat) (G : Env) (W : WX) (ts : TS) (g : FS) : Prop := ∀ (S : Sta) (σ : L2.St) (τ : LS) (D : Ends), S.G = G → Ok S → RS S τ σ → LkS S τ σ i → PG S W D (g τ S.h) → ts D σ S.H
def tLk (t : TS) : TS := fun D σ H => tLock t D σ H ∨ t D σ H
theorem ps_lk {X : Cx} {st : Stmt} {t : TS} (h : PS X st t) : PS X st (tLk t) :=
  ⟨fun pins s σ H D I hw => hw.elim (fun z => (ps_lock h).run pins s σ H D I z) (fun z => h.run pins s σ H D I z)⟩
/-- the statement g walks the dict that slot i holds -/
def sLk (i : Nat) (g : FS) : FS := fun τ h => match τ[i]? with
  | some (some (.dct _ _)) => (match g τ h with | .ok (.xc _ _) _ => .bad | r => r)
  | _ => .bad
theorem sim_lk {i : Nat} {t : TS} {g : FS} (hg : SimL i G W t g) : SimS G W (tLk t) (sLk i g) := fun S σ τ D e k rs p => by
  unfold sLk at p
  split at p
  · rename_i ks l ht
    have p1 : PG S W D (g τ S.h) := by
      split at p
      · exact p.elim
      · exact p
    obtain ⟨w, hσ, rv⟩ := rs.get ht
    simp only [Rv] at rv
    obtain ⟨a, vs, rfl, f, hn, rl⟩ := rv
    rcases f with f | ⟨od, f⟩
    · left
      refine ⟨a, .dK (ks.zip vs), f.1, trivial, fun od => ?_⟩
      have lx := lx_lock (od := od) f
      have k2 := ok_fill' k f.2 lx
      refine hg (S.fill (upd S.H a (.frz od (.dK (ks.zip vs))))) σ τ _ e k2 (rs.lx lx) ⟨ks, l, a, od, vs, ht, hσ, ⟨upd_same, f.2⟩, hn, rl.lx lx⟩ ?_
      have fin : ∀ S', Ok S' → Step (S.fill (upd S.H a (.frz od (.dK (ks.zip vs))))) S' → S'.H a = some (.frz od (.dK (ks.zip vs))) ∧ Ok (S'.fill (upd S'.H a (.dK (ks.zip vs)))) ∧ Step S (S'.fill (upd S'.H a (.dK (ks.zip vs)))) ∧ Lx S' (S'.fill (upd S'.H a (.dK (ks.zip vs)))) := fun S' k' st => by
        have fz' : Fz (S.fill (upd S.H a (.frz od (.dK (ks.zip vs))))) a (.frz od (.dK (ks.zip vs))) := ⟨upd_same, f.2⟩
        have f' := fz'.mono st
        have lx' := lx_free f'
        exact ⟨f'.1, ok_fill' k' f'.2 lx', step_free f st, lx'⟩
      show PG _ W _ (g τ S.h)
      revert p p1
      cases hgr : g τ S.h with
      | bad => intro p _; exact p.elim
      | exc e h' => intro _ p1; exact fun S' e' k' st => p1 (S'.fill (upd S'.H a (.dK (ks.zip vs)))) e' (fin S' k' st).2.1 (fin S' k' st).2.2.1
      | ok fl h' =>
        cases fl with
        | nx τ' => intro _ p1; exact fun S' e' k' st σ' r' => ⟨(fin S' k' st).1, p1 (S'.fill (upd S'.H a (.dK (ks.zip vs)))) e' (fin S' k' st).2.1 (fin S' k' st).2.2.1 σ' (r'.lx (fin S' k' st).2.2.2)⟩
        | rt t => intro _ p1; exact fun S' e' k' st v r' => ⟨(fin S' k' st).1, p1 (S'.fill (upd S'.H a (.dK (ks.zip vs)))) e' (fin S' k' st).2.1 (fin S' k' st).2.2.1 v (r'.lx (fin S' k' st).2.2.2)⟩
        | bk τ' => intro _ p1; exact fun S' e' k' st σ' r' => ⟨(fin S' k' st).1, p1 (S'.fill (upd S'.H a (.dK (ks.zip vs)))) e' (fin S' k' st).2.1 (fin S' k' st).2.2.1 σ' (r'.lx (fin S' k' st).2.2.2)⟩
        | ct τ' => intro _ p1; exact fun S' e' k' st σ' r' => ⟨(fin S' k' st).1, p1 (S'.fill (upd S'.H a (.dK (ks.zip vs)))) e' (fin S' k' st).2.1 (fin S' k' st).2.2.1 σ' (r'.lx (fin S' k' st).2.2.2)⟩
        | xc e τ' => intro p _; exact p.elim
    · right
      exact hg S σ τ D e k rs ⟨ks, l, a, od, vs, ht, hσ, f, hn, rl⟩ p1
  · exact p.elim
/-! what is walked -/
def keyT : Key → T | .inl i => .int i | .inr z => .str z
theorem rv_key {k : Key} : Rv S (keyT k) (kV k) := by cases k <;> simp [keyT, Rv, kV]
@[simp] def iKeyM (i : Nat) : FA := fun τ h => match τ[i]? with | some (some (.dct ks _)) => .ok (ks.map keyT) h | _ => .bad
@[simp] def iValM (i : Nat) : FA := fun τ h => match τ[i]? with | some (some (.dct _ l)) => .ok l h | _ => .bad
theorem zip_len {ks : List Key} {l : List T} {vs : List V} (hn : ks.length = l.length) (r : RvL S l vs) : (ks.zip vs).length = ks.length := by
  rw [List.length_zip, r.len, hn]; simp
theorem keys_at {S : Sta} {σ : L2.St} {τ : LS} {i : Nat} {X : Exc → Sta → Prop} (k : Ok S) (L : LkS S τ σ i) : ∀ R, PostG S X (fun l S' => ∀ J, ItOk S' J l → R J S'.H) (iKeyM i τ S.h) → iKeys (tVar i) σ S.H R := by
  intro R p
  obtain ⟨ks, l, a, od, vs, ht, hσ, f, hn, rl⟩ := L
  unfold iKeyM at p
  rw [ht] at p
  refine ⟨_, hσ, a, od, rfl, .inl ⟨_, f.1, p S rfl k (Step.refl S) _ fun S1 tr k1 j => ?_⟩⟩
  have f1 := tr.fz _ _ f
  have zl := zip_len hn rl
  refine ⟨fun x hx => ?_, fun h => ⟨f1.1, by rw [List.length_map] at h; rw [zl]; exact h⟩⟩
  rw [List.getElem?_map] at hx
  obtain ⟨ky, hk, rfl⟩ := Option.map_eq_some_iff.mp hx
  refine ⟨⟨f1.1, by rw [zl]; exact (List.getElem?_eq_some_iff.mp hk).1⟩, fun v H' hy => ?_⟩
  obtain ⟨rfl, k', v', hz, rfl⟩ := hy
  rw [List.getElem?_zip_eq_some] at hz
  rw [hk] at hz
  cases hz.1
  exact ⟨S1, rfl, rfl, k1, Step.refl S1, rv_key⟩
theorem vals_at {S : Sta} {σ : L2.St} {τ : LS} {i : Nat} {X : Exc → Sta → Prop} (k : Ok S) (L : LkS S τ σ i) : ∀ R, PostG S X (fun l S' => ∀ J, ItOk S' J l → R J S'.H) (iValM i τ S.h) → iVals (tVar i) σ S.H R := by
  intro R p
  obtain ⟨ks, l, a, od, vs, ht, hσ, f, hn, rl⟩ := L
  unfold iValM at p
  rw [ht] at p
  refine ⟨_, hσ, a, od, _, rfl, f.1, p S rfl k (Step.refl S) _ fun S1 tr k1 j => ?_⟩
  have f1 := tr.fz _ _ f
  have zl := zip_len hn rl
  refine ⟨fun x hx => ?_, fun h => ⟨f1.1, by rw [zl, hn]; exact h⟩⟩
  obtain ⟨v, hv, rv⟩ := (rl.tr tr).get hx
  refine ⟨⟨f1.1, by rw [zl, hn]; exact (List.getElem?_eq_some_iff.mp hx).1⟩, fun w H' hy => ?_⟩
  obtain ⟨rfl, k', hz⟩ := hy
  rw [List.getElem?_zip_eq_some] at hz
  rw [hv] at hz
  cases hz.2
  exact ⟨S1, rfl, rfl, k1, Step.refl S1, rv⟩
theorem sim_forV {i : Nat} {g : TG} {a : FG} {t : TS} {b : FS} (hg : SimG G g a) (hb : SimS G W t b) : SimL i G W (tFor (iVals (tVar i)) g t) (sFor (iValM i) a b) := fun S σ τ D e k rs L p => for_at (vals_at k L) hg hb e k rs p
theorem sim_forK {i : Nat} {g : TG} {a : FG} {t : TS} {b : FS} (hg : SimG G g a) (hb : SimS G W t b) : SimL i G W (tFor (iKeys (tVar i)) g t) (sFor (iKeyM i) a b) := fun S σ τ D e k rs L p => for_at (keys_at k L) hg hb e k rs p
theorem sim_lcK {i j : Nat} {g : TG} {a : FG} {tt : TT} {ft : FT} {te : TE} {fe : FE} {vs : List Nat} (hg : SimGw G vs g a) (ht : SimT G ET tt ft) (he : SimE G ET te fe) (hv : ∀ v ∈ vs, NoSl G v := by first | exact fun _ _ => noSl_none rfl | exact fun v hv => noSl_ne (by revert v; decide) | assumption) (hj : NoSl G j := by first | exact noSl_none rfl | exact noSl_ne (by decide) | assumption) : SimL i G W (tAsg (tLc (iKeys (tVar i)) g tt te vs) (gName j)) (sSet j (mLc vs (iKeyM i) a ft fe)) := fun S σ τ D e k rs L p => by
  refine lc_all (E := WE W) hg ht he hv S σ τ _ e k rs (keys_at k L) _ (PostG.imp (fun t S1 q w rt => ?_) (PG.lift rs p)) fun S0 S ys ws D _ k0 k x hD r q => ?_
  · obtain ⟨k1, s1, q⟩ := q
    exact q S1 rfl k1 (Step.refl S1) _ (RS.set rt j (by rw [s1.G, e]; exact hj) (rs.mono s1))
  · have e := x.pv
    exact q (S.show S0.pv) rfl (ok_show k e) x.st _ (rv_lst ⟨hD, x.nown k0 k⟩ (r.tr (tr_show e)))
theorem sim_lcKO {i j : Nat} {g : TG} {a : FG} {tt : TT} {ft : FT} {te : TE} {fe : FE} {vs : List Nat} (hg : SimGw G vs g a) (ht : SimT G ET tt ft) (he : SimE G ET te fe) (hv : ∀ v ∈ vs, NoSl G v := by first | exact fun _ _ => noSl_none rfl | exact fun v hv => noSl_ne (by revert v; decide) | assumption) (hj : NoSl G j := by first | exact noSl_none rfl | exact noSl_ne (by decide) | assumption) : SimL i G W (tAsg (tLc (iKeys (tVar i)) g tt te vs) (gName j)) (sSet j (mLcO vs (iKeyM i) a ft fe)) := fun S σ τ D e k rs L p => by
  refine lc_all (E := WE W) hg ht he hv S σ τ _ e k rs (keys_at k L) _ (PostG.imp (fun t S1 q w rt => ?_) (PG.lift rs p)) fun S0 S ys ws D _ k0 k x hD r q => ?_
  · obtain ⟨k1, s1, q⟩ := q
    exact q S1 rfl k1 (Step.refl S1) _ (RS.set rt j (by rw [s1.G, e]; exact hj) (rs.mono s1))
  · obtain ⟨k', st⟩ := x.adopt k0 k hD (RO.mk_lst r)
    exact q (S.adopt S0.pv D _) rfl k' st _ (by simp only [Rv]; exact ⟨D, by simp [Sta.adopt, k.len], rfl⟩)
end M
/-! ### list.extend of a tuple; x is True where x may be None -/
namespace M
open PySem PySem.Spec PyProof.Rows L2
variable {G : Env} {W : WX} {S : Sta} {E : L2.St → XK}
theorem extend_tup (l b : Addr) (xs ys : Array Value) (n m : Nat) (dd : Option Addr) (sl : Array (Option Value)) (h0 : ¬(!xs.isEmpty && Builtin.List.listTooLong (xs.size + ys.size)) = true) (h1 : xs.size ≤ sizeLine) (h2 : xs.size + ys.size ≤ sizeLine + 1) :
    Meets (Builtin.«list.extend» ⟨[.ref l, .ref b], []⟩) (fun _ R s => s.heap.get? l = some { cls := .type "list", data := .seq xs n } ∧ s.heap.get? b = some { cls := .type "tuple", dict := dd, data := .seq ys m, slots := sl } ∧
      R (.ok (.ret Value.none)) { s with heap := s.heap.update l (Obj.mapSeq fun z => z ++ ys), toks := s.toks }) :=
  .of_wp fun prog w A R s z => by
    have i1 := AutoSeq1.idx_int
    have i2 := AutoSeq1.sub_tuple_tuple
    have i3 := AutoSeq1.sub_list_list
    have i4 := AutoSeq1.sub_tuple_list
    have i5 := AutoSeq1.sub_list_tuple
    obtain ⟨hp, g, d, tk, os⟩ := s
    obtain ⟨el, eb, z⟩ := z
    have z2 : (xs ++ ys).size ≤ sizeLine + 1 := by simpa using h2
    wp_walk using (wpAny_updateSeq el rfl (hz := h1) (_hz' := z2)), wpAny_loadPart' el, wpAny_loadPart' eb
    exact ⟨_, rfl, z⟩
def rExtT (K : PySem.W.Frag) : V → List V → Hp → VK → Prop := fun x vs H Q => ∃ l b xs zs, x = .ref l ∧ vs = [.ref b] ∧ H l = some (.lst xs) ∧ SqT K H b zs ∧ xs.length + zs.length ≤ sizeLine ∧ Q .non (upd H l (.lst (xs ++ zs)))
theorem mt_extT {X : Cx} {K : PySem.W.Frag} (hK : X.K = K) : MtM X "list.extend" (rExtT K) := by
  subst hK
  intro pins s σ H x vs v us Q I rx rv h
  obtain ⟨l, b, xs, zs, rfl, rfl, hH, hB, hz, q⟩ := h
  cases rx
  obtain ⟨u, rfl, ru⟩ := rv.one
  cases ru
  obtain ⟨z, its, n, r, hl, e⟩ := I.lstM hH
  obtain ⟨its2, r2, ⟨⟨cls, dd, data, sl⟩, e2, hc, m, hd⟩, hz2⟩ := I.tuple hB
  simp only at hc hd
  subst hc hd
  have hl2 := r2.length
  have hs : its.toArray.size + its2.toArray.size ≤ sizeLine := by rw [List.size_toArray, List.size_toArray]; omega
  have hlong : ¬ (!its.toArray.isEmpty && Builtin.List.listTooLong (its.toArray.size + its2.toArray.size)) = true := by rw [notLongL hs, Bool.and_false]; exact Bool.false_ne_true
  refine call_meets F.slot_list_extend ⟨_, e, rfl⟩ F.entry_list_extend (F.args_list_extend_2 _ _) (extend_tup l b its.toArray its2.toArray n m dd sl hlong (by rw [List.size_toArray]; omega) (by omega)) ⟨e, e2, ?_⟩
  refine ⟨.non, _, I.lset (its' := its ++ its2) hH e (by simp) (r.append r2) ?_, rfl, q⟩
  rw [List.length_append]; omega
@[simp] def gExtT : T → List T → AH → Res T
  | .obj i, [y], h => match h[i]?, tupOf y with
    | some (some (.lst l)), some m => if l.length + m.length ≤ sizeLine then .ok .non (h.set i (some (.lst (l ++ m)))) else .bad
    | _, _ => .bad
  | _, _, _ => .bad
theorem sm_extT : SimM G "list" (rExtT G.K) gExtT := fun S x xs u us X Q e k ru rus p => by
  unfold gExtT at p
  split at p
  · split at p
    · rename_i l m hl hm
      split at p
      · rename_i hz
        obtain ⟨a, vs, rfl, hp, ha, rl⟩ := obj_lst k hl ru
        simp only [RvL] at rus
        obtain ⟨w, _, rfl, r1, rfl⟩ := rus
        obtain ⟨b, ws, rfl, hb, rm⟩ := tup_stay e hm r1
        exact ⟨a, b, vs, ws, rfl, rfl, ha, hb S (Tr.refl S), by rw [rl.len, rm.len]; exact hz, put_done k hl hp (RO.mk_lst (rl.app rm)) (by simp only [Rv]) p⟩
      · exact p.elim
    · exact p.elim
  · exact p.elim
/-! x is True -/
def rIsC : R2 := fun x y H Q => ∃ b : Bool, y = .bl b ∧ ((x = .non ∧ Q (.bl false) H) ∨ ∃ a : Bool, x = .bl a ∧ Q (.bl (decide (a = b))) H)
theorem op_isC {X : Cx} : OpR X (compareOp .Is) rIsC := by
  intro pins s σ H x y v u Q I rx ry h
  obtain ⟨b, rfl, h⟩ := h
  rcases h with ⟨rfl, q⟩ | ⟨a, rfl, q⟩
  · cases (show v = Value.none from rx)
    cases (show u = Value.bool b from ry)
    exact wpAny_is_other rfl (fun z => nomatch z) ⟨.bl false, H, I, rfl, q⟩
  · exact op_isBl pins s σ H _ _ v u Q I rx ry ⟨a, b, rfl, rfl, q⟩
@[simp] abbrev oIsC : T → T → AH → Res T := P2 (fun x y => match x, y with | .non, .bl _ => some (.bl false) | .bl a, .bl b => some (.bl (decide (a = b))) | _, _ => none)
theorem so_isC : SimR2 G rIsC oIsC := simP2 fun S x y t u v Q e k ru rv hg q => by
  split at hg
  · cases hg; simp only [Rv] at ru rv; subst ru; subst rv; exact ⟨_, rfl, .inl ⟨rfl, q _ (by simp only [Rv])⟩⟩
  · cases hg; simp only [Rv] at ru rv; subst ru; subst rv; exact ⟨_, rfl, .inr ⟨_, rfl, q _ (by simp only [Rv])⟩⟩
  · cases hg
end M
/-! ### l[i] op= e -/
namespace M
open PySem PySem.Spec PyProof.Rows L2
variable {G : Env} {W : WX} {S : Sta} {E : L2.St → XK}
def rGetLi : V → V → Hp → VK → Prop := fun o i H Q => ∃ p xs k v, o = .ref p ∧ i = .int k ∧ H p = some (.lst xs) ∧ atI xs k = some v ∧ Q v H
theorem get_listP {X : Cx} : PGet X rGetLi := by
  intro pins s σ H x y ov iv Q I rx ry h
  obtain ⟨p, xs, i, z, rfl, rfl, hp, he, q⟩ := h
  cases rx
  obtain ⟨t, rfl⟩ := ry
  obtain ⟨its, r, pl, hz⟩ := I.list (SqL.of hp)
  obtain ⟨j, h1, h2, h3, h4, h5⟩ := atI_get he
  obtain ⟨w, ew, rw'⟩ := r.get h2
  have hl := r.length
  have hn := line63
  have fin : EP X pins σ Q w s := ⟨z, H, I, rw', q⟩
  by_cases h0 : 0 ≤ i
  · have hj : i.toNat = j := by
      rw [seqIndex_of h0 h5] at h1
      exact Option.some.inj h1
    exact wpAny_getItem_list pl.isList h0 (by omega) (by rw [hj]; simpa using ew) fin
  · have hj : (i + (its.toArray.size : Int)).toNat = j := by
      rw [seqIndex_neg (by omega) h4] at h1
      rw [List.size_toArray, ← hl]
      exact Option.some.inj h1
    exact wpAny_getItem_list_neg pl.isList (by omega) (by rw [List.size_toArray] <;> omega) (by omega) (by rw [hj]; simpa using ew) fin
@[simp] def sLAugM (g : T → T → AH → Res T) (fo fi fv : FE) : FS := fun τ h => liftE (fo τ h) τ fun x h1 => liftE (fi τ h1) τ fun y h2 => match x, y with
  | .obj i, .int j => match h2[i]? with
    | some (some (.lst l)) => (match atI l j with
      | some a => liftE (fv τ h2) τ fun y2 h3 => liftE (g a y2 h3) τ fun z h4 => match h4[i]? with
        | some (some (.lst l2)) => (match ixN l2.length j with
          | some n => .ok (.nx τ) (h4.set i (some (.lst (l2.set n z))))
          | none => .bad)
        | _ => .bad
      | none => .bad)
    | _ => .bad
  | _, _ => .bad
theorem sim_laug {td ty tv : TE} {fd fy fv : FE} {rd : TIp} {g : T → T → AH → Res T} (hr : SimR2 G rd g) (hd : SimE G (WE W) td fd) (hy : SimE G (WE W) ty fy) (hv : SimE G (WE W) tv fv) : SimS G W (tAugS td ty tv rGetLi rd rSetL) (sLAugM g fd fy fv) := fun S σ τ D e k rs p => by
  refine hd S σ τ _ e k rs (PostG.imp (fun x S1 q u ru => ?_) (PG.lift rs p))
  obtain ⟨k1, s1, q⟩ := q
  have e1 := s1.G.trans e
  refine hy S1 σ τ _ e1 k1 (rs.mono s1) (PostG.imp (fun y S2 q v rv => ?_) (PG.lift (rs.mono s1) q))
  obtain ⟨k2, s2, q⟩ := q
  have e2 := s2.G.trans e1
  have s12 := s1.trans s2
  split at q
  · rename_i i j q
    split at q
    · rename_i l hm
      split at q
      · rename_i t ht
        obtain ⟨a, vs, rfl, hp, hH, rl⟩ := obj_lst k2 hm (ru.mono s2)
        simp only [Rv] at rv
        subst rv
        obtain ⟨w, hw, this⟩ := rl.at ht
        refine ⟨a, vs, j, w, rfl, rfl, hH, hw, ?_⟩
        refine hv S2 σ τ _ e2 k2 (rs.mono s12) (PostG.imp (fun y2 S3 q2 v2 rv2 => ?_) (PG.lift (rs.mono s12) q))
        obtain ⟨k3, s3, q2⟩ := q2
        have e3 := s3.G.trans e2
        refine hr S3 t y2 w v2 _ _ e3 k3 (this.mono s3) rv2 (PostG.imp (fun z S4 q3 v3 rv3 => ?_) (PG.lift (rs.mono (s12.trans s3)) q2))
        obtain ⟨k4, s4, q3⟩ := q3
        split at q3
        · rename_i l2 hm2
          split at q3
          · rename_i n hn
            obtain ⟨a', vs', ea, hp', hH', rl'⟩ := obj_lst k4 hm2 (show Rv S4 (.obj i) (.ref a) by simp only [Rv]; exact ⟨a, s4.al_lt (s3.al_lt hp), rfl⟩)
            cases ea
            have st := step_put (o' := .lst (l2.set n z)) (u := .lst (vs'.set n v3)) k4 hm2 hp'
            have q4 := q3 (S4.put _ _ _) rfl (ok_put k4 hm2 hp' ⟨_, rfl, rl'.set rv3 n⟩) st σ (rs.mono (((s12.trans s3).trans s4).trans st))
            exact ⟨a, vs', _, n, rfl, rfl, hH', by rw [rl'.len]; exact hn, q4⟩
          · exact q3.elim
        · exact q3.elim
      · exact q.elim
    · exact q.elim
  · exact q.elim
@[simp ↓] theorem w_laug {τ : LS} {h : AH} {P : Fl → AH → Prop} {X : Exc → AH → Prop} {g : T → T → AH → Res T} {fo fi fv : FE} : Wp (sLAugM g fo fi fv τ h) P X = Wp (fo τ h) (fun x h1 => Wp (fi τ h1) (fun y h2 => Wp (match x, y with
  | .obj i, .int j => match h2[i]? with
    | some (some (.lst l)) => (match atI l j with
      | some a => liftE (fv τ h2) τ fun y2 h3 => liftE (g a y2 h3) τ fun z h4 => match h4[i]? with
        | some (some (.lst l2)) => (match ixN l2.length j with
          | some n => .ok (.nx τ) (h4.set i (some (.lst (l2.set n z))))
          | none => .bad)
        | _ => .bad
      | none => .bad)
    | _ => .bad
  | _, _ => (.bad : Res Fl)) P X) (fun e h => P (.xc e τ) h)) (fun e h => P (.xc e τ) h) := by
  unfold sLAugM
  rw [wp_lift]
  refine propext ⟨fun w => w.mono (fun x h1 w => ?_) (fun _ _ h => h), fun w => w.mono (fun x h1 w => ?_) (fun _ _ h => h)⟩
  · rw [wp_lift] at w; exact w
  · rw [wp_lift]; exact w
/-! sorted(d), the keys of d numbers -/
def intKs : List (Key × T) → Option (List Int)
  | [] => some []
  | (k, _) :: r => match k with
    | .inl i => (intKs r).map (i :: ·)
    | .inr _ => none
theorem intKs_ok : ∀ {m : List (Key × T)} {vs : List (Key × V)} {ks : List Int}, RvK S m vs → intKs m = some ks → vs.map (·.1) = ks.map Sum.inl
  | [], vs, ks, r, e => by
    unfold RvK at r; unfold intKs at e; cases e; subst r; rfl
  | (k, t) :: m, vs, ks, r, e => by
    unfold RvK at r
    obtain ⟨v, m', rfl, _, r2⟩ := r
    unfold intKs at e
    cases k with
    | inr z => cases e
    | inl i =>
      obtain ⟨ks', e', rfl⟩ := Option.map_eq_some_iff.mp e
      rw [List.map_cons, List.map_cons, intKs_ok r2 e']
def rSortedDI : List V → Hp → VK → Prop := fun xs H Q => ∃ (a : Addr) (kvs : List (Key × V)) (ks : List Int), xs = [.ref a] ∧ Rd H a (.dK kvs) ∧ kvs.map (·.1) = ks.map Sum.inl ∧ ks.length < 64 ∧
    ∀ (ys : List Int) (p : Addr), ys.Perm ks → ys.Pairwise (· ≤ ·) → H p = none → Q (.ref p) (upd H p (.lst (ys.map V.int)))
theorem x_sortedD {X : Cx} (hc : X.calm = true) : CallR X (.builtin "sorted") rSortedDI := call_sortedDI hc
@[simp] abbrev bSortedD : List T → AH → Res T := fun xs h => match xs with | [x] => (pur ((dctK x h).bind intKs) h).bind fun ns h1 => if ns.length < 64 then .ok (.lst ((sortI ns).map T.int)) h1 else .bad | _ => .bad
@[simp] abbrev bSortedDO : List T → AH → Res T := fun xs h => match xs with | [x] => (pur ((dctK x h).bind intKs) h).bind fun ns h1 => if ns.length < 64 then .ok (.obj h1.length) (h1 ++ [some (.lst ((sortI ns).map T.int))]) else .bad | _ => .bad
theorem sb_sortedD : SimRC G rSortedDI bSortedD := fun S xs us X Q e k ru p => by
  unfold bSortedD at p
  split at p
  · unfold pur at p
    split at p
    · rename_i ns hns
      obtain ⟨m, hm, hb⟩ := Option.bind_eq_some_iff.mp hns
      simp only [bind_ok] at p
      split at p
      · rename_i hl
        simp only [RvL] at ru
        obtain ⟨v, _, rfl, h1, rfl⟩ := ru
        obtain ⟨a, vs, rfl, ha, rk⟩ := dctK_ok k h1 hm
        refine ⟨a, vs, ns, rfl, ha, intKs_ok rk hb, hl, fun ns' p' hp hs' n => ?_⟩
        rw [sortI_uniq hp hs']
        exact new_fz k p (fun p n f => rv_lst f rv_ints) p' n
      · exact p.elim
    · exact p.elim
  · exact p.elim
theorem sb_sortedDO : SimRC G rSortedDI bSortedDO := fun S xs us X Q e k ru p => by
  unfold bSortedDO at p
  split at p
  · unfold pur at p
    split at p
    · rename_i ns hns
      obtain ⟨m, hm, hb⟩ := Option.bind_eq_some_iff.mp hns
      simp only [bind_ok] at p
      split at p
      · rename_i hl
        simp only [RvL] at ru
        obtain ⟨v, _, rfl, h1, rfl⟩ := ru
        obtain ⟨a, vs, rfl, ha, rk⟩ := dctK_ok k h1 hm
        refine ⟨a, vs, ns, rfl, ha, intKs_ok rk hb, hl, fun ns' p' hp hs' n => ?_⟩
        rw [sortI_uniq hp hs']
        exact new_obj k p (fun S' st => ⟨_, rfl, rv_ints⟩) p' n
      · exact p.elim
    · exact p.elim
  · exact p.elim
end M
/-! zip(t, l): a tuple, then a list -/
namespace ZTL
open PySem PySem.Spec PyProof.Rows L2
abbrev oT (a : Addr) : Obj := { cls := .type "tuple_iterator", data := .fields #[.ref a, .int 0 0] }
abbrev oL (a : Addr) : Obj := { cls := .type "list_iterator", data := .fields #[.ref a, .int 0 0] }
abbrev g1 (g : Heap) (a : Addr) : Heap := g.push (oT a)
abbrev g2 (g : Heap) (a b : Addr) : Heap := (g1 g a).push (oL b)
abbrev g3 (g : Heap) (a b : Addr) : Heap := (g2 g a b).push { cls := .type "tuple", data := .seq #[.ref g.objs.size, .ref (g1 g a).objs.size] }
abbrev g4 (g : Heap) (a b : Addr) : Heap := (g3 g a b).push { cls := .type "tuple", data := .seq #[.none, .none] }
abbrev g5 (g : Heap) (a b : Addr) : Heap := (g4 g a b).push { cls := .type "zip", data := .fields #[.none, .bool false, .bool false, .ref (g2 g a b).objs.size, .ref (g3 g a b).objs.size] }
theorem meets_mix (a b : Addr) (us vs : Array Value) :
    Meets (Builtin.«zip.__new__» ⟨[.type "zip", .ref a, .ref b], []⟩) (fun _ R s => s.heap.IsTuple a us ∧ s.heap.IsList b vs ∧ R (.ok (.ret (.ref (g4 s.heap a b).objs.size))) { s with heap := g5 s.heap a b }) :=
  .of_wp fun prog w A R s q => by
    obtain ⟨hp, g, d, tk, os⟩ := s; obtain ⟨ha, hb, q⟩ := q
    have hsub := sub_zip
    have hA : Heap.IsTuple (Shared.heap ⟨hp, g, d, tk, os⟩) a us := ha
    have hB : Heap.IsList (Shared.heap ⟨hp.push (oT a), g, d, tk, os⟩) b vs := Heap.IsList.push hb _
    wp_walk using wpAny_pyIter_tuple hA, wpAny_pyIter_list hB
    exact ⟨_, rfl, q⟩
theorem call_mix {prog : Program} {w : World} {A : Around} {E : Value → Shared → Prop} {s : Shared} {a b : Addr} {us vs : Array Value} {Q : Value → Shared → Prop} (ha : s.heap.IsTuple a us) (hb : s.heap.IsList b vs)
    (q : ∀ g', IsZip g' (s.heap.objs.size + 4) (s.heap.objs.size + 2) (s.heap.objs.size + 3) .none ∧ IsPair g' (s.heap.objs.size + 2) (.ref s.heap.objs.size) (.ref (s.heap.objs.size + 1)) ∧ IsPair g' (s.heap.objs.size + 3) .none .none ∧
      g'.IsTupleIter s.heap.objs.size a 0 ∧ g'.IsListIter (s.heap.objs.size + 1) b 0 → (∀ c o, s.heap.get? c = some o → g'.get? c = some o) → Q (.ref (s.heap.objs.size + 4)) { s with heap := g' }) :
    wpAny (model prog w) A (call (.type "zip") [.ref a, .ref b]) Q E s := by
  refine callType_new F.called_zip (by decide) (F.typeCall_zip_2 _ _) (F.newCall_zip_2 _ _) (fun obj => F.args_object_init_3 obj _ _) F.entry_zip_new (meets_mix a b us vs) ⟨ha, hb, ?_⟩
  have n1 : (g1 s.heap a).objs.size = s.heap.objs.size + 1 := Heap.size_push ..
  have n2 : (g2 s.heap a b).objs.size = s.heap.objs.size + 2 := by rw [Heap.size_push, n1]
  have n3 : (g3 s.heap a b).objs.size = s.heap.objs.size + 3 := by rw [Heap.size_push, n2]
  have n4 : (g4 s.heap a b).objs.size = s.heap.objs.size + 4 := by rw [Heap.size_push, n3]
  have up : ∀ {g : Heap} {o : Obj} {c : Addr} {x : Obj}, g.get? c = some x → (g.push o).get? c = some x := fun e => Heap.get?_push_of_some _ e
  have e1 : (g5 s.heap a b).get? s.heap.objs.size = some (oT a) := up (up (up (up (Heap.get?_push_size _ rfl))))
  have e2 : (g5 s.heap a b).get? (g1 s.heap a).objs.size = some (oL b) := up (up (up (Heap.get?_push_size _ rfl)))
  have e3 : (g5 s.heap a b).get? (g2 s.heap a b).objs.size = some _ := up (up (Heap.get?_push_size _ rfl))
  have e4 : (g5 s.heap a b).get? (g3 s.heap a b).objs.size = some _ := up (Heap.get?_push_size _ rfl)
  have e5 : (g5 s.heap a b).get? (g4 s.heap a b).objs.size = some _ := Heap.get?_push_size _ rfl
  show _ ∧ _
  rw [n2, n3, n4] at e5
  rw [n1] at e2
  rw [n1, n2] at e3
  rw [n3] at e4
  rw [n4]
  exact ⟨⟨_, e5, rfl⟩, q _ ⟨e5, e3, e4, ⟨_, e1, rfl, rfl⟩, ⟨_, e2, rfl, rfl⟩⟩ fun c o x => up (up (up (up (up x))))⟩
/-- the tuple at a and the list at b as they stand -/
def ItzM (K : PySem.W.Frag) (a b : Addr) : It :=
  ⟨fun i H => ∃ (xs ys : List V) (x y : V), SqT K H a xs ∧ SqL K H b ys ∧ xs[i]? = some x ∧ ys[i]? = some y,
    fun i H v H' => ∃ T x y, v = .ref T ∧ H T = none ∧ H' = upd H T (.tup [x, y]) ∧ (∀ xs, SqT K H a xs → xs[i]? = some x) ∧ ∀ ys, SqL K H b ys → ys[i]? = some y,
    fun i H => ∃ xs ys : List V, SqT K H a xs ∧ SqL K H b ys ∧ (xs.length ≤ i ∨ ys.length ≤ i)⟩
theorem sep_of {z TI TO i1 i2 a b : Addr} (D : ZipApart z TI TO i1 i2 a b) : ZipSep2 z TI TO i1 i2 [i1, a] [i2, b] where
  TIz := D.TIz
  TOz := D.TOz
  TITO := D.TITO
  TIi1 := D.TIi1
  mem1 := by simp
  zf1 := by simp [Ne.symm D.i1z, Ne.symm D.l1z]
  Tf1 := by simp [D.TOi1, Ne.symm D.l1TO]
  TIi2 := D.TIi2
  mem2 := by simp
  zf2 := by simp [Ne.symm D.i2z, Ne.symm D.l2z]
  Tf2 := by simp [D.TOi2, Ne.symm D.l2TO]
  sep1_2 := by simp [D.i12, Ne.symm D.l2i1]
  sep2_1 := by simp [Ne.symm D.i12, Ne.symm D.l1i2]
theorem end_t {prog : Program} {w : World} {A : Around} (hh : A.handled = none) {it a : Addr} (ne : a ≠ it) {us : Array Value} {i : Nat} {g : Heap} (hi : g.IsTupleIter it a i) (ha : g.IsTuple a us) : ∃ n P St, Draws prog w A it [it, a] n P St ∧ St i g ∧ i ≤ n ∧ (us.size ≤ i → i = n) := by
  by_cases z : us.size ≤ i
  · refine ⟨i, fun _ _ => True, fun j g => j = i ∧ g.IsTupleIter it a i ∧ g.IsTuple a us, ⟨fun _ _ st => ?_, fun _ _ _ st k => ?_, fun j _ _ _ lt st => ?_, fun s Q E st q => ?_⟩, ⟨rfl, hi, ha⟩, Nat.le_refl _, fun _ => rfl⟩
    · obtain ⟨o, ho, _⟩ := st.2.1; exact ⟨o, ho⟩
    · exact ⟨st.1, st.2.1.at fun o e => k it (by simp) o e, st.2.2.at fun o e => k a (by simp) o e⟩
    · exact absurd st.1 (Nat.ne_of_lt lt)
    · exact wpAny_nextOf_tuple_end hh st.2.1 st.2.2 (by simp; omega) q
  · exact ⟨_, _, _, Draws.tuple hh it a ne us, ⟨hi, ha⟩, by omega, fun q => absurd q z⟩
theorem end_l {prog : Program} {w : World} {A : Around} (hh : A.handled = none) {it a : Addr} (ne : a ≠ it) {us : Array Value} {i : Nat} {g : Heap} (hi : g.IsListIter it a i) (ha : g.IsList a us) : ∃ n P St, Draws prog w A it [it, a] n P St ∧ St i g ∧ i ≤ n ∧ (us.size ≤ i → i = n) := by
  by_cases z : us.size ≤ i
  · refine ⟨i, fun _ _ => True, fun j g => j = i ∧ g.IsListIter it a i ∧ g.IsList a us, ⟨fun _ _ st => ?_, fun _ _ _ st k => ?_, fun j _ _ _ lt st => ?_, fun s Q E st q => ?_⟩, ⟨rfl, hi, ha⟩, Nat.le_refl _, fun _ => rfl⟩
    · obtain ⟨o, ho, _⟩ := st.2.1; exact ⟨o, ho⟩
    · exact ⟨st.1, st.2.1.at fun o e => k it (by simp) o e, st.2.2.at fun o e => k a (by simp) o e⟩
    · exact absurd st.1 (Nat.ne_of_lt lt)
    · exact wpAny_nextOf_list_end hh st.2.1 st.2.2 (by simp; omega) q
  · exact ⟨_, _, _, Draws.list hh it a ne us, ⟨hi, ha⟩, by omega, fun q => absurd q z⟩
theorem turn_mix {P : Program} {w : World} {K : PySem.W.Frag} {elts : List Expr} {kk : Nat} {tpos : Pos} {a b z TI TO i1 i2 : Addr} (D : ZipApart z TI TO i1 i2 a b) :
    Turn P w K (.Tuple elts kk tpos) (ItzM K a b) [z, TI, TO, i1, i2] z (fun i g => IsZip g z TI TO .none ∧ IsPair g TI (.ref i1) (.ref i2) ∧ (∃ x y, IsPair g TO x y) ∧ g.IsTupleIter i1 a i ∧ g.IsListIter i2 b i) where
  mem := by simp
  obj := fun i g st c hc => by
    obtain ⟨q1, q2, ⟨_, _, q3⟩, ⟨o1, e1, _, d1⟩, ⟨o2, e2, _, d2⟩⟩ := st
    simp only [List.mem_cons, List.not_mem_nil, or_false] at hc
    rcases hc with rfl | rfl | rfl | rfl | rfl
    · exact ⟨_, q1, fun v q => nomatch q⟩
    · exact ⟨_, q2, fun v q => nomatch q⟩
    · exact ⟨_, q3, fun v q => nomatch q⟩
    · exact ⟨o1, e1, fun v q => by rw [d1] at q; cases q⟩
    · exact ⟨o2, e2, fun v q => by rw [d2] at q; cases q⟩
  keep := fun i g g' st k => by
    obtain ⟨q1, q2, ⟨x, y, q3⟩, q4, q5⟩ := st
    exact ⟨k z (by simp) _ q1, k TI (by simp) _ q2, ⟨x, y, k TO (by simp) _ q3⟩, q4.at fun o e => k i1 (by simp) o e, q5.at fun o e => k i2 (by simp) o e⟩
  item := by
    intro X hP hw hK hc i pins s σ H E I hf st hg
    subst hP hw hK
    obtain ⟨q1, q2, ⟨x0, y0, q3⟩, q4, q5⟩ := st
    obtain ⟨xs, ys, x, y, qx, qy, hx, hy⟩ := hg
    obtain ⟨its, rv, p, _⟩ := I.tuple qx
    obtain ⟨its2, rv2, p2, _⟩ := I.list qy
    obtain ⟨u, hu, ru⟩ := rv.get hx
    obtain ⟨u2, hu2, ru2⟩ := rv2.get hy
    have zl : z < s.heap.objs.size := Heap.lt_size q1
    have l1 : i < its.toArray.size := by simpa using (List.getElem?_eq_some_iff.mp hu).1
    have l2 : i < its2.toArray.size := by simpa using (List.getElem?_eq_some_iff.mp hu2).1
    have pt : s.heap.IsTuple a its.toArray := p
    have hh : X.A.in1.handled = none := I.ok.hd hc
    refine wpAny_pyNext_zipD2_item (sep_of D) (Draws.tuple hh i1 a D.l1i1 its.toArray) (Draws.list hh i2 b D.l2i2 its2.toArray) q1 q2 q3 ⟨q4, pt⟩ ⟨q5, p2.isList⟩ l1 l2 fun y1 y2 g' tk hy1 hy2 z' TO' s1' s2' hT hsz hk => ?_
    have ey1 : y1 = u := by
      have : its.toArray[i]? = some y1 := hy1
      rw [List.getElem?_toArray, hu] at this; exact (Option.some.inj this).symm
    have ey2 : y2 = u2 := by
      have : its2.toArray[i]? = some y2 := hy2
      rw [List.getElem?_toArray, hu2] at this; exact (Option.some.inj this).symm
    subst ey1 ey2
    refine ⟨_, rfl, wpAny_letOwnedTupleGo_zip (s := { s with heap := g', toks := tk }) z' fun g'' z'' sb => ?_⟩
    have hT2 : g''.get? s.heap.objs.size = some { cls := .type "tuple", data := .seq #[y1, y2] } := (sb.2 _ (Nat.ne_of_gt zl)).trans hT
    have new : ObjOk X.prog X.w (upd H s.heap.objs.size (.tup [x, y])) g'' s.heap.objs.size (.tup [x, y]) := ⟨by show 2 ≤ sizeLine; decide, [y1, y2], .cons ru (.cons ru2 .nil), ⟨_, hT2, rfl, _, rfl⟩⟩
    have kk : ∀ c o, c ∉ [z, TI, TO, i1, i2] → s.heap.get? c = some o → g''.get? c = some o := fun c o hb q => by
      simp only [List.mem_cons, List.not_mem_nil, or_false, not_or] at hb
      exact (sb.2 c hb.1).trans (hk c o hb.1 hb.2.2.1 hb.2.2.2.1 hb.2.2.2.2 q)
    have I1 : Inv X pins σ (upd H s.heap.objs.size (.tup [x, y])) { s with heap := g'', toks := tk } := I.turnedNew kk hf (Nat.le_refl _) new
    refine ⟨.ref s.heap.objs.size, _, I1, rfl, ⟨_, x, y, rfl, I.hok.fresh (Nat.le_refl _), rfl, fun l hl => by rw [I.tuple_inj hl qx]; exact hx, fun l hl => by rw [I.list_inj hl qy]; exact hy⟩, ⟨z'', ?_, ⟨y1, y2, ?_⟩, ?_, ?_⟩, fun c hcm => ?_⟩
    · exact (sb.2 _ D.TIz).trans (hk _ _ D.TIz D.TITO D.TIi1 D.TIi2 q2)
    · exact (sb.2 _ D.TOz).trans TO'
    · exact s1'.1.at fun o q => (sb.2 _ D.i1z).trans q
    · exact s2'.1.at fun o q => (sb.2 _ D.i2z).trans q
    · have lt : c < s.heap.objs.size := by
        simp only [List.mem_cons, List.not_mem_nil, or_false] at hcm
        rcases hcm with rfl | rfl | rfl | rfl | rfl
        · exact zl
        · exact Heap.lt_size q2
        · exact Heap.lt_size q3
        · obtain ⟨_, e, _⟩ := q4; exact Heap.lt_size e
        · obtain ⟨_, e, _⟩ := q5; exact Heap.lt_size e
      rw [upd_ne (Nat.ne_of_lt lt)]
      exact (hf c hcm).1
  done := by
    intro X hP hw hK hc i pins s σ H E I hf st hg
    subst hP hw hK
    obtain ⟨q1, q2, ⟨x0, y0, q3⟩, q4, q5⟩ := st
    obtain ⟨xs, ys, qx, qy, hend⟩ := hg
    obtain ⟨its, rv, p, _⟩ := I.tuple qx
    obtain ⟨its2, rv2, p2, _⟩ := I.list qy
    have hh : X.A.in1.handled = none := I.ok.hd hc
    have pt : s.heap.IsTuple a its.toArray := p
    have l1 := rv.length
    have l2 := rv2.length
    obtain ⟨n1, P1, S1, D1, t1, b1, c1⟩ := end_t (prog := X.prog) (w := X.w) hh D.l1i1 q4 pt
    obtain ⟨n2, P2, S2, D2, t2, b2, c2⟩ := end_l (prog := X.prog) (w := X.w) hh D.l2i2 q5 p2.isList
    refine wpAny_pyNext_zipD2_end (sep_of D) D1 D2 q1 q2 q3 t1 t2 b1 b2 ?_ fun g' tk k => ⟨rfl, I.turnedL (ch := [z, TI, TO, i1, i2]) (fun c o hb q => ?_) hf⟩
    · rcases hend with e | e
      · exact .inl (c1 (by simp; omega))
      · exact .inr (c2 (by simp; omega))
    · simp only [List.mem_cons, List.not_mem_nil, or_false, not_or] at hb
      exact k c o hb.1 hb.2.2.1 hb.2.2.2.1 hb.2.2.2.2 q
  self := fun A i s Q E st h => wpAny_pyIter_zip st.1 h
def iZipM (K : PySem.W.Frag) (ta : TA) : TI := fun σ H R => ta σ H fun vs H1 => ∃ a b xs ys, vs = [.ref a, .ref b] ∧ SqT K H1 a xs ∧ SqL K H1 b ys ∧ R (ItzM K a b) H1
theorem pi_mix {X : Cx} {e e2 : Expr} {ta : TA} {p pos tpos : Pos} {elts : List Expr} {kk : Nat} (hg : Gl X "zip") (hm : X.mg "zip" = none) (ha : PA X [e, e2] ta)
    (hs : starEach [e, e2] X.env = (false, eval e X.env) :: starEach [e2] X.env := by rfl) (hpl : (backTo pos (starEach [e2] X.env)).any (·.1) = false := by rfl) : PI X (.Tuple elts kk tpos) (.Call (.Name "zip" p) [e, e2] [] pos) (iZipM X.K ta) := by
  refine ⟨fun pins s σ H R I q => ?_⟩
  refine Call_ (ld_blt I hg hm PyProof.Rows.boot_zip (PyProof.Rows.callWith_type1 (thn (ha.run pos pins s σ H _ I q) fun us s1 ⟨vs, H1, I1, r1, q1⟩ => ?_) hs hpl))
  obtain ⟨a, b, xs, ys, rfl, hqx, hqy, q⟩ := q1
  obtain ⟨u, r2, rfl, ru, rr⟩ : ∃ u r2, us = u :: r2 ∧ RelV (.ref a) u ∧ Vals [V.ref b] r2 := by cases r1 with | cons r rr => exact ⟨_, _, rfl, r, rr⟩
  obtain ⟨u2, rfl, ru2⟩ := vals1 rr
  cases ru
  cases ru2
  obtain ⟨its, rv, p1, _⟩ := I1.tuple hqx
  obtain ⟨its2, rv2, p2, _⟩ := I1.list hqy
  have pt : s1.heap.IsTuple a its.toArray := p1
  obtain ⟨o1, ho1, _⟩ := id pt
  refine call_mix pt p2.isList fun g' st k => wpAny_pyIter_zip st.1 ?_
  refine ⟨s1.heap.objs.size + 4, [s1.heap.objs.size + 4, s1.heap.objs.size + 2, s1.heap.objs.size + 3, s1.heap.objs.size, s1.heap.objs.size + 1], _, _, H1, rfl, I1.kept (t' := s1.toks) k, turn_mix (PySem.W.ktu_apart s1.heap.objs.size a b (Heap.lt_size ho1) p2.lt), ⟨st.1, st.2.1, ⟨_, _, st.2.2.1⟩, st.2.2.2.1, st.2.2.2.2⟩, fun c hc => ?_, q⟩
  have le : s1.heap.objs.size ≤ c := by
    simp only [List.mem_cons, List.not_mem_nil, or_false] at hc
    rcases hc with rfl | rfl | rfl | rfl | rfl <;> omega
  exact I1.fpOk le (I1.hok.fresh le)
end ZTL
namespace M
open PySem PySem.Spec PyProof.Rows L2
variable {G : Env} {S : Sta} {E : L2.St → XK}
theorem it_zipM {p q : Addr} {l m : List T} {vs ws : List V} (e : S.G = G) (hs : ∀ S1, Tr S S1 → SqT G.K S1.H p vs) (f : Fz S q (.lst ws)) (r : RvL S l vs) (r2 : RvL S m ws) : ItOk S (ZTL.ItzM G.K p q) (pairs l m) := fun S1 st k i => by
  have h1 := hs S1 st
  have h2 : SqL G.K S1.H q ws := by rw [← e, ← st.G]; exact sql_of (st.fz _ _ f)
  refine ⟨fun t ht => ?_, fun z => ⟨vs, ws, h1, h2, ?_⟩⟩
  · obtain ⟨x, y, hx, hy, rfl⟩ := pairs_get ht
    obtain ⟨v, hv, rv⟩ := (r.tr st).get hx
    obtain ⟨w, hw, rw'⟩ := (r2.tr st).get hy
    refine ⟨⟨vs, ws, v, w, h1, h2, hv, hw⟩, fun z H' y => ?_⟩
    obtain ⟨T0, x', y', rfl, hn, rfl, a1, a2⟩ := y
    obtain rfl : v = x' := Option.some.inj (hv.symm.trans (a1 vs h1))
    obtain rfl : w = y' := Option.some.inj (hw.symm.trans (a2 ws h2))
    exact new_pair k hn rv rw'
  · unfold pairs at z
    rw [List.length_zipWith] at z
    rw [r.len, r2.len]
    omega
@[simp] def iZipTL (fa : FA) : FA := fun τ h => (fa τ h).bind fun xs h1 => match xs with
  | [x, .lst m] => match tupOf x with
    | some l => .ok (pairs l m) h1
    | none => .bad
  | _ => .bad
theorem sim_zipTL {ta : TA} {fa : FA} (ha : SimA G E ta fa) : SimI G E (ZTL.iZipM G.K ta) (iZipTL fa) := fun S σ τ R e k rs p => by
  refine ha S σ τ _ e k rs (PostG.imp (fun x S1 q u ru => ?_) (PostG.bind p))
  obtain ⟨k1, s1, q⟩ := q
  have e1 := s1.G.trans e
  split at q
  · split at q
    · rename_i l hl
      simp only [RvL] at ru
      obtain ⟨_, _, rfl, h1, _, _, rfl, h2, rfl⟩ := ru
      simp only [Rv] at h2
      obtain ⟨b, ws, rfl, f2, r2⟩ := h2
      obtain ⟨a, vs, rfl, hs1, r1⟩ := tup_stay e1 hl h1
      exact ⟨a, b, vs, ws, rfl, hs1 S1 (Tr.refl S1), by rw [← e1]; exact sql_of f2, q S1 rfl k1 (Step.refl S1) _ (it_zipM e1 hs1 f2 r1 r2)⟩
    · exact q.elim
  · exact q.elim
@[simp ↓] theorem w_zipTL {τ : LS} {h : AH} {PL : List T → AH → Prop} {X : Exc → AH → Prop} {fa : FA} : Wp (iZipTL fa τ h) PL X = Wp (fa τ h) (fun xs h1 => Wp (match xs with
  | [x, .lst m] => match tupOf x with
    | some l => .ok (pairs l m) h1
    | none => .bad
  | _ => (.bad : Res (List T))) PL X) X := by
  unfold iZipTL
  rw [wp_bind]
/-! x in l, where items are tuples -/
theorem hu65 {A : Around} {k : Nat} (hr : Room k A) : A.units + 65 < cLine := by have := hr.un; omega
def gInD (neg : Bool) (x y : T) : Option T := match toD x, toD y with
  | some d, some (.list ds) => if SeqAt.shaped d = true ∧ SeqAt.shaped (.list ds) = true then some (.bl (if neg then !ds.any fun z => PyData.eqv z d else ds.any fun z => PyData.eqv z d)) else none
  | _, _ => none
@[simp] abbrev oInD := P2 (gInD false)
@[simp] abbrev oNinD := P2 (gInD true)
theorem x_inD {X : Cx} {K : PySem.W.Frag} (h : X.K = K) (hu : X.A.units + 65 < cLine) : OpR X (compareOp .In) (rInD K) := h ▸ op_inD hu
theorem x_ninD {X : Cx} {K : PySem.W.Frag} (h : X.K = K) (hu : X.A.units + 65 < cLine) : OpR X (compareOp .NotIn) (rNotInD K) := h ▸ op_notInD hu
theorem so_inD : SimR2 G (rInD G.K) oInD := simP2 fun S x y t u v Q e k ru rv hg q => by
  unfold gInD at hg
  split at hg
  · rename_i d ds hd he
    split at hg
    · rename_i hs
      cases hg
      have a := toD_ok ru hd
      have c := toD_ok rv he
      rw [e] at a c
      exact ⟨d, ds, a, c, hs.1, hs.2, q _ (by simp)⟩
    · cases hg
  · cases hg
theorem so_ninD : SimR2 G (rNotInD G.K) oNinD := simP2 fun S x y t u v Q e k ru rv hg q => by
  unfold gInD at hg
  split at hg
  · rename_i d ds hd he
    split at hg
    · rename_i hs
      cases hg
      have a := toD_ok ru hd
      have c := toD_ok rv he
      rw [e] at a c
      exact ⟨d, ds, a, c, hs.1, hs.2, q _ (by simp)⟩
    · cases hg
  · cases hg
end M
/-! any of numbers, sum of truth values -/
namespace M
open PySem PySem.Spec PyProof.Rows L2
variable {G : Env}
def rAnyI (K : PySem.W.Frag) : List V → Hp → VK → Prop := fun vs H Q => ∃ (a : Addr) (ns : List Int), vs = [V.ref a] ∧ SqL K H a (ns.map V.int) ∧ Q (.bl (ns.any fun n => decide (n ≠ 0))) H
def rSumB (K : PySem.W.Frag) : List V → Hp → VK → Prop := fun vs H Q => ∃ (a : Addr) (bs : List Bool), vs = [V.ref a] ∧ SqL K H a (bs.map V.bl) ∧ Q (.int (bs.map fun b => if b = true then (1 : Int) else 0).sum) H
theorem ints_get : ∀ {ns : List Int} {us : List Value}, Vals (ns.map V.int) us → ∀ {i : Nat} {u : Value}, us[i]? = some u → ∃ n t, ns[i]? = some n ∧ u = .int n t
  | [], us, r, i, u, e => by cases r; cases e
  | n :: ns, us, r, i, u, e => by
    rw [List.map_cons] at r
    cases r with
    | cons h t =>
      cases i with
      | zero =>
        obtain ⟨k, rfl⟩ := h
        cases e
        exact ⟨n, k, rfl, rfl⟩
      | succ i => exact ints_get t e
theorem any_getD : ∀ ns : List Int, ((List.range ns.length).any fun i => decide (ns.getD i 0 ≠ 0)) = ns.any fun n => decide (n ≠ 0)
  | [] => rfl
  | n :: ns => by
    rw [List.length_cons, List.range_succ_eq_map, List.any_cons, List.any_map, List.any_cons, ← any_getD ns]
    rfl
theorem cr_anyI {X : Cx} (hc : X.calm = true) : CallR X (.builtin "any") (rAnyI X.K) := by
  intro pins s σ H vs us Q I r q
  obtain ⟨a, ns, rfl, hs, q⟩ := q
  obtain ⟨its, rv, hl, _⟩ := I.list hs
  rw [Vals.ref1 r]
  have len := rv.length
  rw [List.length_map] at len
  refine call_any_walk (iter_any hl.isList fun s₂ e2 st hne => ?_)
  subst e2
  refine ⟨_, _, _, _, _, _, fun i => decide (ns.getD i 0 ≠ 0), rfl, Walks.list (A := X.A.in1) (I.ok.hd hc) _ a hne its.toArray, st, fun i v s Q E hv hq => ?_, fun h' tk hk => ?_⟩
  · have hv : its.toArray[i]? = some v := hv
    rw [List.getElem?_toArray] at hv
    obtain ⟨n, t, hn, rfl⟩ := ints_get rv hv
    have e : ns.getD i 0 = n := by rw [List.getD_eq_getElem?_getD, hn]; rfl
    dsimp only at hq
    rw [e] at hq
    refine truthy_int ?_
    rw [show (n != 0) = decide (n ≠ 0) by by_cases z : n = 0 <;> simp [z]]
    exact hq
  · refine ⟨.bl _, H, I.kept fun b o eo => hk b o (fun hmem => ?_) (Heap.get?_push_of_some _ eo), ?_, q⟩
    · rw [List.mem_singleton] at hmem
      exact absurd (hmem ▸ Heap.lt_size eo) (Nat.lt_irrefl _)
    · show Value.bool _ = Value.bool _
      rw [← any_getD, List.size_toArray, ← len]
theorem cr_sumB {X : Cx} (hc : X.calm = true) : CallR X (.builtin "sum") (rSumB X.K) := by
  intro pins s σ H vs us Q I r q
  obtain ⟨a, bs, rfl, hs, q⟩ := q
  obtain ⟨its, rv, hl, _⟩ := I.list hs
  rw [Vals.ref1 r]
  have hb := rv.bls
  refine call_sum_walkAnyB (iter_any hl.isList fun s₂ e2 st hne => ?_)
  subst e2
  refine ⟨s.heap.objs.size, _, _, _, _, _, _, fun i => (bs.map fun b => if b = true then (1 : Int) else 0).getD i 0, rfl, (Walks.list (A := X.A.in1) (I.ok.hd hc) _ a hne its.toArray).toS, st, fun b m => ?_, fun i v hv => ?_, fun s' t' mv => ?_⟩
  · obtain ⟨⟨o1, e1, _⟩, ⟨o2, e2, _⟩⟩ := st
    simp only [List.mem_cons, List.not_mem_nil, or_false] at m
    rcases m with rfl | rfl
    · exact Heap.lt_size e1
    · exact Heap.lt_size e2
  · have hv : its.toArray[i]? = some v := hv
    rw [List.getElem?_toArray, hb, List.getElem?_map] at hv
    obtain ⟨b, h1, rfl⟩ := Option.map_eq_some_iff.mp hv
    exact .inr ⟨b, rfl, by show List.getD _ _ _ = _; rw [List.getD_eq_getElem?_getD, List.getElem?_map, h1]; rfl⟩
  · obtain ⟨h', g', d', tk', os'⟩ := s'
    obtain rfl : g' = s.gens := mv.gens
    obtain rfl : d' = s.drawn := mv.drawn
    obtain rfl : os' = s.os := mv.os
    refine ⟨.int _, H, I.kept (t' := tk') (h' := h') fun b o eo => mv.heap b o (fun m => ?_) (Heap.get?_push_of_some _ eo), ⟨t', ?_⟩, q⟩
    · rw [List.mem_singleton] at m
      exact absurd (m ▸ Heap.lt_size eo) (Nat.lt_irrefl _)
    · have e := preSum_getD (bs.map fun b => if b = true then (1 : Int) else 0) its.toArray.size
      rw [List.take_of_length_le (by rw [hb]; simp)] at e
      rw [e]
theorem x_anyI {X : Cx} {K : PySem.W.Frag} (h : X.K = K) (hc : X.calm = true) : CallR X (.builtin "any") (rAnyI K) := h ▸ cr_anyI hc
theorem x_sumB {X : Cx} {K : PySem.W.Frag} (h : X.K = K) (hc : X.calm = true) : CallR X (.builtin "sum") (rSumB K) := h ▸ cr_sumB hc
@[simp] abbrev bAnyI := one fun x h => ((lstOf x h).bind intsOf).map fun ns => .bl (ns.any fun n => decide (n ≠ 0))
@[simp] abbrev bSumB := one fun x h => ((lstOf x h).bind bools).map fun bs => .int (bs.map fun b => if b = true then (1 : Int) else 0).sum
theorem sb_anyI : SimRC G (rAnyI G.K) bAnyI := simC1 fun S x t u Q e k ru hg q => by
  obtain ⟨bs, hb, rfl⟩ := Option.map_eq_some_iff.mp hg
  obtain ⟨l, hl, hb⟩ := Option.bind_eq_some_iff.mp hb
  obtain ⟨a, vs, rfl, hs, rl⟩ := lstOf_ok k hl ru
  rw [e, intsOf_ok rl hb] at hs
  exact ⟨a, bs, rfl, hs, q _ (by simp)⟩
theorem sb_sumB : SimRC G (rSumB G.K) bSumB := simC1 fun S x t u Q e k ru hg q => by
  obtain ⟨bs, hb, rfl⟩ := Option.map_eq_some_iff.mp hg
  obtain ⟨l, hl, hb⟩ := Option.bind_eq_some_iff.mp hb
  obtain ⟨a, vs, rfl, hs, rl⟩ := lstOf_ok k hl ru
  rw [e, bools_ok rl hb] at hs
  exact ⟨a, bs, rfl, hs, q _ (by simp)⟩
end M
/-! {k: v for ..}, d.update(d2) -/
namespace M
open PySem PySem.Spec PyProof.Rows L2
variable {G : Env} {W : WX} {S : Sta} {E : L2.St → XK}
/-! d.update(d2), keys numbers or texts -/
def rUpd : V → List V → Hp → VK → Prop := fun x vs H Q => ∃ (a b : Addr) (ks ls : List (Key × V)), x = .ref a ∧ vs = [.ref b] ∧ a ≠ b ∧ H a = some (.dK ks) ∧ Rd H b (.dK ls) ∧ ks.length + ls.length ≤ sizeLine ∧ Q .non (upd H a (.dK (mergeK ks ls)))
theorem putK_len {κ : Type} [DecidableEq κ] (m : List (κ × V)) (k : κ) (v : V) : (putK m k v).length ≤ m.length + 1 := length_putK m k v
theorem mergeK_len : ∀ (ls ks : List (Key × V)), (mergeK ks ls).length ≤ ks.length + ls.length
  | [], ks => Nat.le_refl _
  | (k, v) :: ls, ks => by
    have a := mergeK_len ls (putK ks k v)
    have b := putK_len ks k v
    show (mergeK (putK ks k v) ls).length ≤ _
    rw [List.length_cons]; omega
theorem mt_upd {X : Cx} : MtR X "dict.update" rUpd := by
  intro pins s σ H x vs v us Q I rx rv h
  obtain ⟨a, b, ks, ls, rfl, rfl, ne, ha, hb, hz, q⟩ := h
  cases rx
  obtain ⟨u, rfl, ru⟩ := vals1 rv
  cases ru
  obtain ⟨za, da, va, ra, ta⟩ := dk_of I.hok ha
  obtain ⟨zb, db, vb, rb, tb⟩ := dk_rd I.hok hb
  refine call_meetsIn PySem.F.slot_dict_update ta.typeIs PySem.F.entry_dict_update (PySem.F.args_dict_update_2 _ _) (meets_dict_update (mixKind X.prog X.w) a b ne db) ⟨va, vb, ta, tb, by rw [← Paired.length ra, ← Paired.length rb]; exact hz, fun h' t1 _ hs => ?_⟩
  have there : ∃ o, h'.get? a = some o := let ⟨o, _, _, ho, _⟩ := t1; ⟨o, ho⟩
  have lm := mergeK_len ls ks
  exact ⟨.non, _, d_write (t' := s.toks) I (by rw [ha]; exact True.intro) hs there (dk_new (by omega) da (KV.merge rb ra) t1), rfl, q⟩
@[simp] def gUpd : T → List T → AH → Res T
  | .obj i, [.dct ks l], h => match h[i]? with
    | some (some (.dct m)) => if m.length + ks.length ≤ sizeLine then .ok .non (h.set i (some (.dct (mergeT m (ks.zip l))))) else .bad
    | _ => .bad
  | _, _, _ => .bad
@[simp] def isDct : T → AH → Bool
  | .obj i, h => match h[i]? with | some (some (.dct _)) => true | _ => false
  | _, _ => false
@[simp] def mDM (g : T → List T → AH → Res T) (fo : FE) (fr : FA) : FE := fun τ h => (fo τ h).bind fun x h1 => if isDct x h1 = true then (fr τ h1).bind fun xs h2 => g x xs h2 else .bad
theorem ty_dict {x : T} {u : V} (k : Ok S) (r : Rv S x u) (h : isDct x S.h = true) : tyV S.G.K "dict" u S.H := by
  unfold isDct at h
  split at h
  · split at h
    · rename_i hm
      obtain ⟨a, ho, rfl, hp, ha, vs, rfl, rk⟩ := obj_at k hm r
      exact .inr (.inr (.inl ⟨rfl, .inl ⟨_, ha⟩⟩))
    · cases h
  · cases h
theorem sim_DM {r : V → List V → Hp → VK → Prop} {g : T → List T → AH → Res T} {to : TE} {fo : FE} {tr : TA} {fr : FA} (hm : SimM G "dict" r g) (ho : SimE G E to fo) (ha : SimA G E tr fr) : SimE G E (tBM G.K "dict" r to tr) (mDM g fo fr) := fun S σ τ Q e k rs p => by
  refine ho S σ τ _ e k rs (PostG.imp (fun x S1 q u ru => ?_) (PostG.bind p))
  obtain ⟨k1, s1, q⟩ := q
  split at q
  · rename_i hl
    have e1 := s1.G.trans e
    have ty := ty_dict k1 ru hl
    rw [e1] at ty
    refine ⟨ty, ?_⟩
    refine ha S1 σ τ _ e1 k1 (rs.mono s1) (PostG.imp (fun xs S2 q us rus => ?_) (PostG.bind q))
    obtain ⟨k2, s2, q⟩ := q
    exact hm S2 x xs u us _ Q (s2.G.trans e1) k2 (ru.mono s2) rus q
  · exact q.elim
theorem sm_upd : SimM G "dict" rUpd gUpd := fun S x xs u us X Q e k ru rus p => by
  unfold gUpd at p
  split at p
  · rename_i i ks l
    split at p
    · rename_i m hm
      split at p
      · rename_i hz
        obtain ⟨a, ho, rfl, hp, ha, vs, rfl, rk⟩ := obj_at k hm ru
        simp only [RvL] at rus
        obtain ⟨w, _, rfl, r1, rfl⟩ := rus
        have ne : w ≠ .ref a := by
          intro z
          subst z
          simp only [Rv] at r1
          obtain ⟨b, ws, eb, f, n, rl⟩ := r1
          cases eb
          rcases f with f | f
          · exact f.2 (.inl ⟨i, _, hp, hm⟩)
          · obtain ⟨od, f⟩ := f
            exact f.2 (.inl ⟨i, _, hp, hm⟩)
        obtain ⟨b, ws, rfl, hb, rk2⟩ := dctK_ok k r1 rfl
        have st := step_put (o' := .dct (mergeT m (ks.zip l))) (u := .dK (mergeK vs ws)) k hm hp
        have zl : (ks.zip l).length ≤ ks.length := by rw [List.length_zip]; omega
        exact ⟨a, b, vs, ws, rfl, rfl, fun z => ne (by rw [z]), ha, hb, by rw [rk.len, rk2.len]; omega, p (S.put _ _ _) rfl (ok_put k hm hp ⟨_, rfl, RvK.merge rk2 rk⟩) st _ (by simp only [Rv])⟩
      · exact p.elim
    · exact p.elim
  · exact p.elim
@[simp ↓] theorem w_DM {τ : LS} {h : AH} {P : T → AH → Prop} {X : Exc → AH → Prop} {g : T → List T → AH → Res T} {fo : FE} {fr : FA} : Wp (mDM g fo fr τ h) P X = Wp (fo τ h) (fun x h1 => if isDct x h1 = true then Wp (fr τ h1) (fun xs h2 => Wp (g x xs h2) P X) X else False) X := by
  unfold mDM
  rw [wp_bind]
  refine propext ⟨fun w => w.mono (fun x h1 w => ?_) (fun _ _ h => h), fun w => w.mono (fun x h1 w => ?_) (fun _ _ h => h)⟩
  · split at w
    · rename_i z; rw [if_pos z]; rw [wp_bind] at w; exact w
    · exact w.elim
  · split at w
    · rename_i z; rw [if_pos z]; rw [wp_bind]; exact w
    · exact w.elim
/-! {k: v for x in ..} -/
def mDcL (a : FG) (tt : FT) (fk fv : FE) (τ : LS) : List (Key × T) → List T → AH → Res (List (Key × T))
  | m, [], h => .ok m h
  | m, x :: xs, h => match a x τ with
    | some τ' => (tt τ' h).bind fun b h1 => if b = true then
        (fk τ' h1).bind fun y h2 => (fv τ' h2).bind fun z h3 => match keyOf y with
          | some k => if m.length < sizeLine then mDcL a tt fk fv τ (putT m k z) xs h3 else .bad
          | none => .bad
      else mDcL a tt fk fv τ m xs h1
    | none => .bad
@[simp] def mDc (vs : List Nat) (fi : FA) (a : FG) (tt : FT) (fk fv : FE) : FE := fun τ h => (fi τ h).bind fun l h1 => (mDcL a tt fk fv (wipeT τ vs) [] l h1).bind fun m h2 => .ok (.dct (m.map (·.1)) (m.map (·.2))) h2
@[simp] def mDcO (vs : List Nat) (fi : FA) (a : FG) (tt : FT) (fk fv : FE) : FE := fun τ h => (fi τ h).bind fun l h1 => (mDcL a tt fk fv (wipeT τ vs) [] l h1).bind fun m h2 => .ok (.obj h2.length) (h2 ++ [some (.dct m)])
theorem dc_all {wi : TI} {fi : FA} {g : TG} {a : FG} {tt : TT} {ft : FT} {tk tv : TE} {fk fv : FE} {vs : List Nat} (hg : SimGw G vs g a) (ht : SimT G ET tt ft) (hk : SimE G ET tk fk) (hw : SimE G ET tv fv) (hv : ∀ v ∈ vs, NoSl G v)
    (S : Sta) (σ : L2.St) (τ : LS) (Q : VK) (e : S.G = G) (k : Ok S) (rs : RS S τ σ) (hi : ∀ R, PostG S (XP (E σ)) (fun l S' => ∀ J, ItOk S' J l → R J S'.H) (fi τ S.h) → wi σ S.H R) (fin : List (Key × T) → AH → Res T) (p : PostG S (XP (E σ)) (fun t S' => ∀ v, Rv S' t v → Q v S'.H) ((fi τ S.h).bind fun l h1 => (mDcL a ft fk fv (wipeT τ vs) [] l h1).bind fin))
    (hfin : ∀ (S0 S : Sta) (m : List (Key × T)) (ws : List (Key × V)) (D : Addr), S0.G = G → Ok S0 → Ok S → Priv S0 S D → S.H D = some (.dK ws) → RvK S m ws → PostG S0 (fun _ _ => True) (fun t S' => ∀ v, Rv S' t v → Q v S'.H) (fin m S.h) → Q (.ref D) S.H) : tDc wi g tt tk tv vs σ S.H Q := by
  refine hi _ (PostG.imp (fun l S1 q J hJ D hD => ?_) (PostG.bind p))
  obtain ⟨k1, s1, q⟩ := q
  have e1 := s1.G.trans e
  have rw1 := (rs.mono s1).wipe vs (by rw [s1.G, e]; exact hv)
  have q := PostG.pnd q
  refine ⟨fun i n H => ∃ S acc ws, S.H = H ∧ Ok S ∧ Priv S1 S D ∧ S.H D = some (.dK ws) ∧ RvK S acc ws ∧ n = l.length - i ∧ i ≤ l.length ∧
    Pnd (fun m h => PostG S1 (fun _ _ => True) (fun t S' => ∀ v, Rv S' t v → Q v S'.H) (fin m h)) (mDcL a ft fk fv (wipeT τ vs) acc (l.drop i) S.h), ⟨l.length, S1.hide D (upd S1.H D (.dK [])), [], [], rfl, ok_hide k1 hD, Priv.start k1 hD, upd_same, rfl, by simp, Nat.zero_le _, q⟩, ?_⟩
  rintro i n H ⟨S, acc, ws, rfl, k, x, hDS, rl, rfl, hi, p⟩
  have trS := x.tr
  obtain ⟨go, stop⟩ := hJ S trS k i
  have eS := trS.G.trans e1
  by_cases hl : i < l.length
  · right
    have hx : l[i]? = some l[i] := List.getElem?_eq_getElem hl
    obtain ⟨g1, g2⟩ := go _ hx
    refine ⟨g1, fun H' => ∃ S acc ws, S.H = H' ∧ Ok S ∧ Priv S1 S D ∧ S.H D = some (.dK ws) ∧ RvK S acc ws ∧
      Pnd (fun m h => PostG S1 (fun _ _ => True) (fun t S' => ∀ v, Rv S' t v → Q v S'.H) (fin m h)) (mDcL a ft fk fv (wipeT τ vs) acc (l.drop (i + 1)) S.h), ?_, ?_⟩
    · rintro H' ⟨S2, acc2, ws2, e2, k2, x2, h2, r2, p2⟩
      exact ⟨l.length - (i + 1), by omega, S2, acc2, ws2, e2, k2, x2, h2, r2, rfl, hl, p2⟩
    · intro v H' hy
      obtain ⟨S2, rfl, hh, k2, st2, rv⟩ := g2 v H' hy
      have x2 := x.step k1 k k2 st2
      have hD2 : S2.H D = some (.dK ws) := (st2.pk D (by rw [x.pv]; exact List.mem_cons_self)).trans hDS
      rw [List.drop_eq_getElem_cons hl] at p
      unfold mDcL at p
      split at p
      · rename_i τ' hτ
        refine hg S2 _ v _ τ' (wipe σ vs) _ (st2.G.trans eS) k2 rv (RS.tr (x2.tr) rw1) hτ fun σ2 rs2 ew => ⟨by rw [ew, wipe_wipe], ?_⟩
        rw [← hh] at p
        refine ht S2 σ2 τ' _ (st2.G.trans eS) k2 rs2 (PostG.exc (fun _ _ _ _ _ _ => trivial) (PostG.imp (fun b S3 q => ?_) (Pnd.post (Pnd.bind p))))
        obtain ⟨k3, s3, q⟩ := q
        have x3 := x2.step k1 k2 k3 s3
        have hD3 : S3.H D = some (.dK ws) := (s3.pk D (by rw [x2.pv]; exact List.mem_cons_self)).trans hD2
        cases b with
        | false =>
          rw [if_neg Bool.false_ne_true] at q
          rw [if_neg Bool.false_ne_true]
          exact ⟨S3, acc, ws, rfl, k3, x3, hD3, rl.mono (st2.trans s3), q⟩
        | true =>
          rw [if_pos rfl] at q
          rw [if_pos rfl]
          have e3 := s3.G.trans (st2.G.trans eS)
          refine hk S3 σ2 τ' _ e3 k3 (rs2.mono s3) (PostG.exc (fun _ _ _ _ _ _ => trivial) (PostG.imp (fun y S4 q u ru => ?_) (Pnd.post (Pnd.bind q))))
          obtain ⟨k4, s4, q⟩ := q
          have x4 := x3.step k1 k3 k4 s4
          have e4 := s4.G.trans e3
          have hD4 : S4.H D = some (.dK ws) := (s4.pk D (by rw [x3.pv]; exact List.mem_cons_self)).trans hD3
          refine hw S4 σ2 τ' _ e4 k4 ((rs2.mono s3).mono s4) (PostG.exc (fun _ _ _ _ _ _ => trivial) (PostG.imp (fun z S5 q w rz => ?_) (Pnd.post (Pnd.bind q))))
          obtain ⟨k5, s5, q⟩ := q
          have x5 := x4.step k1 k4 k5 s5
          have hp5 : D ∈ S5.pv := by rw [x5.pv]; exact List.mem_cons_self
          have hD5 : S5.H D = some (.dK ws) := (s5.pk D (by rw [x4.pv]; exact List.mem_cons_self)).trans hD4
          have rl5 := rl.mono (((st2.trans s3).trans s4).trans s5)
          split at q
          · rename_i ky hky
            split at q
            · rename_i hz
              exact ⟨ws, ky, keyOf_ok ru hky, hD5, by rw [rl.len]; exact hz, S5.fill (upd S5.H D (.dK (putK ws ky w))), putT acc ky z, putK ws ky w, rfl, ok_fill k5 hp5, x5.fill k1, upd_same, (rl5.put ky rz).tr (tr_fill hp5), q⟩
            · exact q.elim
          · exact q.elim
      · exact p.elim
  · left
    refine ⟨stop (by omega), ?_⟩
    rw [List.drop_eq_nil_of_le (by omega)] at p
    exact hfin S1 S acc ws D e1 k1 k x hDS rl p
theorem sim_dc {wi : TI} {fi : FA} {g : TG} {a : FG} {tt : TT} {ft : FT} {tk tv : TE} {fk fv : FE} {vs : List Nat} (hi : SimI G E wi fi) (hg : SimGw G vs g a) (ht : SimT G ET tt ft) (hk : SimE G ET tk fk) (hw : SimE G ET tv fv) (hv : ∀ v ∈ vs, NoSl G v := by first | exact fun _ _ => noSl_none rfl | exact fun v hv => noSl_ne (by revert v; decide) | assumption) : SimE G E (tDc wi g tt tk tv vs) (mDc vs fi a ft fk fv) := fun S σ τ Q e k rs p => by
  refine dc_all hg ht hk hw hv S σ τ Q e k rs (fun R => hi S σ τ R e k rs) _ p fun S0 S m ws D _ k0 k x hD r q => ?_
  have e := x.pv
  exact q (S.show S0.pv) rfl (ok_show k e) x.st _ (rv_dct ⟨hD, x.nown k0 k⟩ (r.tr (tr_show e)))
theorem sim_dcO {wi : TI} {fi : FA} {g : TG} {a : FG} {tt : TT} {ft : FT} {tk tv : TE} {fk fv : FE} {vs : List Nat} (hi : SimI G E wi fi) (hg : SimGw G vs g a) (ht : SimT G ET tt ft) (hk : SimE G ET tk fk) (hw : SimE G ET tv fv) (hv : ∀ v ∈ vs, NoSl G v := by first | exact fun _ _ => noSl_none rfl | exact fun v hv => noSl_ne (by revert v; decide) | assumption) : SimE G E (tDc wi g tt tk tv vs) (mDcO vs fi a ft fk fv) := fun S σ τ Q e k rs p => by
  refine dc_all hg ht hk hw hv S σ τ Q e k rs (fun R => hi S σ τ R e k rs) _ p fun S0 S m ws D _ k0 k x hD r q => ?_
  obtain ⟨k', st⟩ := x.adopt (o := .dct m) k0 k hD ⟨_, rfl, r⟩
  exact q (S.adopt S0.pv D _) rfl k' st _ (by simp only [Rv]; exact ⟨D, by simp [Sta.adopt, k.len], rfl⟩)
end M
/-! name = {k: v for ..}; what a comprehension of a dict comes to -/
namespace DCS
open PySem PySem.Spec PyProof.Rows L2
theorem ps_setDc {X : Cx} {i : Nat} {y : Str} {yp : Pos} {kx vx tg iter : Expr} {ifs : List Expr} {scope : Scope} {own : List (Str × Nat)} {pos sp : Pos} {wi : TI} {g : TG} {tt : TT} {tk tv : TE} (hc : X.calm = true) (hN : X.N.Nodup) (hy : X.N[i]? = some y) (hl : X.env.scope.names.lookup y = some .local)
    (hsw : swapsWith (.DictComp kx vx [⟨tg, iter, ifs, 0⟩] scope pos) (some (.Name y yp)) sp.line X.env = pure true) (hi : PI X tg iter wi) (ok : BlkOk X.N X.env.scope scope own)
    (hg : ∀ (s : Shared) (H : Hp) (C : Addr) (cl : List (Str × Addr)) (fp : List Addr), PG (X.blk s H scope (compEnvC scope cl C X.env) fp) tg g)
    (ht : ∀ (s : Shared) (H : Hp) (C : Addr) (cl : List (Str × Addr)) (fp : List Addr), PTs (X.blk s H scope (compEnvC scope cl C X.env) fp) ifs tt)
    (hk : ∀ (s : Shared) (H : Hp) (C : Addr) (cl : List (Str × Addr)) (fp : List Addr), PE (X.blk s H scope (compEnvC scope cl C X.env) fp) kx tk) (hv : ∀ (s : Shared) (H : Hp) (C : Addr) (cl : List (Str × Addr)) (fp : List Addr), PE (X.blk s H scope (compEnvC scope cl C X.env) fp) vx tv)
    (hs : ∀ x, foldedSetIterable iter X.env x = pure x := by intro _; rfl) : PS X (.Assign [.Name y yp] (.DictComp kx vx [⟨tg, iter, ifs, 0⟩] scope pos) sp) (tAsg (tDc wi g tt tk tv (own.map (·.2))) (gName i)) := by
  refine ⟨fun pins s σ H D I z => ?_⟩
  rw [exec_Assign_Name_used _ _ _ _ hsw]
  refine wpAny_bind (wpAny_standAt (wpAny_bind ?_))
  show wpAny _ X.A (do let _ ← comprehension (.DictComp kx vx [⟨tg, iter, ifs, 0⟩] scope pos) scope X.env (firstIterPos [⟨tg, iter, ifs, 0⟩] pos) newDict false (eval iter X.env) (some (assign (.Name y yp) X.env))) _ _ s
  have z : tDc wi g tt tk tv (own.map (·.2)) σ H (fun x H1 => gName i x σ H1 D.nx) := z
  refine wpAny_bind (thn (dc_core (Qf := fun _ s' => SP X pins D .next s') hc hN I hi ok hg ht hk hv hs z fun L C s' m H' J q ns fp => ?_) fun _ s' q => wpAny_pure (wpAny_pure q))
  show wpAny _ _ (assign (.Name y yp) X.env (.ref L)) _ _ _
  refine wpAny_assign_Name (store_ok2 (v := V.ref L) J hN hy (.inl hl) rfl (fun s2 J2 ⟨a, sb, al⟩ => ?_) (.inr hl))
  have nCa : C ≠ a := by
    rcases al with w | w
    · rw [w]; exact fp.2.1
    · exact fun q => fp.2.2.2.2.1 y a w q.symm
  exact ⟨m, ns.sameBut sb nCa, fun h3 sb3 => ⟨_, H', J2.turned (t' := s2.toks) (fun b o hb w => (sb3.2 b hb).trans w) fp.1 fp.2.1 fp.2.2.2.1 fp.2.2.2.2.1 fp.2.2.2.2.2, q⟩⟩
theorem sw_dict {kx vx : Expr} {gs : List Comprehension} {scope : Scope} {pos yp : Pos} {y : Str} {l : Nat} {env : Env} (a1 : env.scope.kind = .function) (a2 : env.scope.names.lookup y = some .local) (a3 : (yp.line == pos.line) = true) (a4 : (scope.names.any fun (n, k) => n == y && (k == .local || k == .cell)) = false) : swapsWith (.DictComp kx vx gs scope pos) (some (.Name y yp)) l env = pure true := by
  have b1 : env.kindOf y = some .local := a2
  have b2 : env.blockKind = .function := by unfold Env.blockKind; rw [a1]; rfl
  unfold swapsWith
  simp only [b2, b1, a4, Expr.pos, a3]
  rfl
end DCS
namespace M
open PySem PySem.Spec PyProof.Rows L2
section
variable {τ : LS} {h : AH} {P : T → AH → Prop} {X : Exc → AH → Prop}
@[simp ↓] theorem w_dc {vs : List Nat} {fi : FA} {a : FG} {tt : FT} {fk fv : FE} : Wp (mDc vs fi a tt fk fv τ h) P X = Wp (fi τ h) (fun l h1 => Wp (mDcL a tt fk fv (wipeT τ vs) [] l h1) (fun m h2 => P (.dct (m.map (·.1)) (m.map (·.2))) h2) X) X := by
  unfold mDc
  rw [wp_bind]
  refine propext ⟨fun w => w.mono (fun x h1 w => ?_) (fun _ _ h => h), fun w => w.mono (fun x h1 w => ?_) (fun _ _ h => h)⟩
  · rw [wp_bind] at w; exact w
  · rw [wp_bind]; exact w
@[simp ↓] theorem w_dcO {vs : List Nat} {fi : FA} {a : FG} {tt : FT} {fk fv : FE} : Wp (mDcO vs fi a tt fk fv τ h) P X = Wp (fi τ h) (fun l h1 => Wp (mDcL a tt fk fv (wipeT τ vs) [] l h1) (fun m h2 => P (.obj h2.length) (h2 ++ [some (.dct m)])) X) X := by
  unfold mDcO
  rw [wp_bind]
  refine propext ⟨fun w => w.mono (fun x h1 w => ?_) (fun _ _ h => h), fun w => w.mono (fun x h1 w => ?_) (fun _ _ h => h)⟩
  · rw [wp_bind] at w; exact w
  · rw [wp_bind]; exact w
theorem putT_len1 {κ : Type} [DecidableEq κ] {m : List (κ × T)} {k : κ} {v : T} : (putT m k v).length ≤ m.length + 1 := by
  unfold putT; split <;> simp
/-- one that keeps the heap -/
theorem dc_seq {PM : List (Key × T) → AH → Prop} {α : Type} {g : α → T} {kf : α → Key} {vf : α → T} {a : FG} {fk fv : FE} {xs : List α} {m : List (Key × T)} (hn : m.length + xs.length ≤ sizeLine)
    (hf : ∀ x ∈ xs, ∃ τ', a (g x) τ = some τ' ∧ Wp (fk τ' h) (fun y h2 => keyOf y = some (kf x) ∧ h2 = h) (fun _ _ => False) ∧ Wp (fv τ' h) (fun y h2 => y = vf x ∧ h2 = h) (fun _ _ => False))
    (he : PM (xs.foldl (fun m x => putT m (kf x) (vf x)) m) h) : Wp (mDcL a mYes fk fv τ m (xs.map g) h) PM X := by
  have e : mDcL a mYes fk fv τ m (xs.map g) h = .ok (xs.foldl (fun m x => putT m (kf x) (vf x)) m) h := by
    clear he
    induction xs generalizing m with
    | nil => rfl
    | cons x xs ih =>
      rw [List.length_cons] at hn
      obtain ⟨τ', ha, w1, w2⟩ := hf x List.mem_cons_self
      obtain ⟨y, h1, e1, k1, rfl⟩ := w1.ok
      obtain ⟨z, h2, e2, rfl, rfl⟩ := w2.ok
      have pl := putT_len1 (m := m) (k := kf x) (v := vf x)
      rw [List.map_cons]
      unfold mDcL
      simp only [ha, mYes, bind_ok, if_true, e1, e2, k1]
      rw [if_pos (by omega), ih (by omega) (fun y hy => hf y (List.mem_cons_of_mem _ hy))]
      rfl
  exact Wp.of e he
end
end M
/-! exceptions whose context is None; sum(..) in an except suite -/
namespace HOTS
open PySem PySem.Spec PyProof.Rows L2 HotX L2H
section
variable {prog : Program} {w : World} {A : Around} {E : Value → Shared → Prop} {s : Shared}
theorem list_end_hot {it l x1 : Addr} {i : Nat} {us : Array Value} {Q : Option Value → Shared → Prop} (hot : HotAt A x1 s.heap) (nx : x1 ≠ it) (hi : s.heap.IsListIter it l i) (hl : s.heap.IsList l us) (hx : us[i]? = none)
    (q : ∀ g, (∀ b o, b ≠ it → s.heap.get? b = some o → g.get? b = some o) → Q none { s with heap := g }) : wpAny (model prog w) A (pyNext (.ref it)) Q E s := by
  obtain ⟨hh, o1, v1, g1, d1, c1⟩ := hot
  obtain ⟨oi, gi, ci, di⟩ := id hi
  obtain ⟨ol, gl, cl, nl, dl⟩ := hl
  unfold pyNext
  refine wpAny_bind (wpAny_attempt (wpAny_callSpecial?_slot (name := Str.ofString "__next__") hi.typeIs slot_listiter_next (wpAny_call_entry slot_listiter_next hi.typeIs entry_listiter_next ?_ (args_listiter_next _))))
  show wpAny _ _ (field (.ref it) 0 >>= _) _ _ s
  refine wpAny_bind (wpAny_field gi di (x := .ref l) rfl ?_)
  show wpAny _ _ (if (Value.ref l == Value.none) = true then _ else _) _ _ s
  rw [if_neg (by exact Bool.false_ne_true : ¬ ((Value.ref l == Value.none) = true))]
  show wpAny _ _ (field (.ref it) 1 >>= _) _ _ s
  refine wpAny_bind (wpAny_field gi di (x := .int i 0) rfl ?_)
  show wpAny _ _ (seqItems? (.ref l) >>= _) _ _ s
  refine wpAny_bind (wpAny_seqItems gl dl ?_)
  simp only [Int.toNat_natCast, hx]
  refine wpAny_bind (wpAny_rule (wpAny_bind (wpAny_setField gi di (by simp) ?_)))
  show wpAny _ _ (newExc (.type "StopIteration") [] >>= _) _ _ _
  refine wpAny_bind ?_
  simp only [newExc, newTuple]
  refine wpAny_bind (wpAny_newObj_type ?_ (by size_fits))
  refine wpAny_bind (m := firstArgMember _ _) (wpAny_of_eq (a := Value.none) (by first | rfl | (simp only [firstArgMember]; rfl)) ?_)
  refine wpAny_newObj_type ?_ (by size_fits)
  generalize hg : Heap.push (Heap.update _ _ _) _ = ga
  have up : ∀ b o, b ≠ it → s.heap.get? b = some o → ga.get? b = some o := fun b o n z => by
    rw [← hg]; exact Heap.get?_push_of_some _ ((Heap.get?_update_other _ _ (Ne.symm n)).trans z)
  have lt1 : x1 < ga.objs.size := Heap.lt_size (up x1 o1 nx g1)
  refine raiseNew_hot ⟨hh, o1, v1, Heap.get?_push_of_some _ (up x1 o1 nx g1), d1, c1⟩ (Nat.ne_of_lt lt1) (Heap.get?_push_size _ rfl) rfl (by first | (simp; done) | (simp; omega)) ?_
  refine wpAny_bind (wpAny_isInstance (T := "StopIteration") (b := true) ⟨_, Heap.get?_update_self _ (Heap.get?_push_size _ rfl) rfl, rfl⟩ isSubtype_stop ?_)
  refine wpAny_pure (q _ fun b o n z => ?_)
  rw [Heap.get?_update_other _ _ (Nat.ne_of_gt (Heap.lt_size (up b o n z)))]
  exact Heap.get?_push_of_some _ (up b o n z)
/-- a list, walked while an exception is handled -/
theorem walk_hot {I l x1 : Addr} {o1 : Obj} {v1 : Array Value} (hh : A.handled = some (.ref x1)) (d1 : o1.data = .fields v1) (c1 : v1[2]? = some .none) (ne : l ≠ I) (nx : x1 ≠ I) (us : Array Value) :
    Walks prog w A I [I, l, x1] [I] us.size (fun i v => us[i]? = some v) (fun i g => g.IsListIter I l i ∧ g.IsList l us ∧ g.get? x1 = some o1) where
  sub := fun b hb => by rw [List.mem_singleton] at hb; rw [hb]; exact List.mem_cons_self
  frame := fun _ _ _ st k => ⟨st.1.at fun o e => k I (by simp) o e, st.2.1.at fun o e => k l (by simp) o e, k x1 (by simp) _ st.2.2⟩
  item := fun i s Q E lt st q => by
    refine wpAny_pyNext_list_item st.1 st.2.1 (x := us[i]) (by simp [lt]) fun g it' sb => ?_
    exact q _ g s.toks (by simp [lt]) ⟨it', st.2.1.extBut sb.extBut ne, sb.extBut _ _ nx st.2.2⟩ fun b o nb z => sb.extBut b o (fun y => nb (by simp [y])) z
  done := fun s Q E st q => list_end_hot ⟨hh, o1, v1, st.2.2, d1, c1⟩ nx st.1 st.2.1 (by simp) fun g k => q g s.toks fun b o nb z => k b o (fun y => nb (by simp [y])) z
  self := fun _ _ _ _ st q => wpAny_pyIter_listiter st.1 q
end
theorem cr_sumBH {X : Cx} (hot : HotC X) : CallR X (.builtin "sum") (M.rSumB X.K) := by
  intro pins s σ H vs us Q I r q
  obtain ⟨a, bs, rfl, hs, q⟩ := q
  obtain ⟨its, rv, hl, _⟩ := I.list hs
  rw [Vals.ref1 r]
  have hb := rv.bls
  obtain ⟨x1, hh, o1, v1, g1, d1, c1⟩ := hot.at I
  refine call_sum_walkAnyB (iter_any hl.isList fun s₂ e2 st ne => ?_)
  subst e2
  have nx : x1 ≠ s.heap.objs.size := Nat.ne_of_lt (Heap.lt_size g1)
  have W := walk_hot (prog := X.prog) (w := X.w) (A := X.A.in1) (us := its.toArray) (I := s.heap.objs.size) (l := a) (x1 := x1) hh d1 c1 ne nx
  refine ⟨s.heap.objs.size, _, _, _, _, _, _, fun i => (bs.map fun b => if b = true then (1 : Int) else 0).getD i 0, rfl, W.toS, ⟨st.1, st.2, Heap.get?_push_of_some _ g1⟩, fun b m => ?_, fun i v hv => ?_, fun s' t' mv => ?_⟩
  · obtain ⟨⟨o2, e2, _⟩, ⟨o3, e3, _⟩⟩ := st
    simp only [List.mem_cons, List.not_mem_nil, or_false] at m
    rcases m with rfl | rfl | rfl
    · exact Heap.lt_size e2
    · exact Heap.lt_size e3
    · exact Heap.lt_size (Heap.get?_push_of_some _ g1)
  · have hv : its.toArray[i]? = some v := hv
    rw [List.getElem?_toArray, hb, List.getElem?_map] at hv
    obtain ⟨b, h1, rfl⟩ := Option.map_eq_some_iff.mp hv
    exact .inr ⟨b, rfl, by show List.getD _ _ _ = _; rw [List.getD_eq_getElem?_getD, List.getElem?_map, h1]; rfl⟩
  · obtain ⟨g', gens', drawn', tk', os'⟩ := s'
    obtain rfl : gens' = s.gens := mv.gens
    obtain rfl : drawn' = s.drawn := mv.drawn
    obtain rfl : os' = s.os := mv.os
    refine ⟨.int _, H, I.kept (t' := tk') (h' := g') fun b o eo => mv.heap b o (fun m => ?_) (Heap.get?_push_of_some _ eo), ⟨t', ?_⟩, q⟩
    · rw [List.mem_singleton] at m
      exact absurd (m ▸ Heap.lt_size eo) (Nat.lt_irrefl _)
    · have e := preSum_getD (bs.map fun b => if b = true then (1 : Int) else 0) its.toArray.size
      rw [List.take_of_length_le (by rw [hb]; simp)] at e
      rw [e]
theorem x_sumBH {X : Cx} {K : PySem.W.Frag} (h : X.K = K) (hot : HotC X) : CallR X (.builtin "sum") (M.rSumB K) := h ▸ cr_sumBH hot
theorem hot_suite {X : Cx} {a : Addr} {oe : Obj} {cls : Value} {d : Option Addr} {pn : List (Addr × Obj)} (z : L2N.Zn cls d oe) (f : ∃ vs, oe.data = .fields vs) : HotC (X.suite a ((a, oe) :: pn)) := by
  obtain ⟨vs, e⟩ := f
  exact ⟨(a, oe), ⟨rfl, vs, e, z.2.2 vs e⟩, List.mem_cons_self⟩
theorem takes0N {X : Cx} : L2N.Takes X (fun _ _ _ _ => False) := fun _ _ x => by
  obtain ⟨_, _, _, _, _, _, _, _, _, _, _, _, _, _, _, _, z⟩ := x
  exact z.elim
theorem okXN {P : Program} {w : World} {K : PySem.W.Frag} {mg : Str → Option Value} {base : Heap} {x qual : Str} {st : Stmt} {f : Addr} {fd : FuncData} {N ps : List Str} {k : Nat} {sp : Sp} (F : Fun K x qual st f fd) (S : FnScope N ps (defScope st)) (len : ∀ vs H Q E, sp vs H Q E → vs.length = ps.length)
    (body : ∀ (cdv : Value) (A : Around) (outer : List PySem.Env) (s : Shared) (H : Hp) (vs : List V) (Q : VK) (E : XK), Room k (A.deeper (envOfC qual (defScope st) s.heap.objs.size f cdv)) → sp vs H Q E →
      ∃ t, PSs (cxOf (L2N.CX P w) P w K mg base N qual (defScope st) f cdv A outer s H E) (defBody st) t ∧ t { nx := fun _ H' => Q .non H', rt := Q } (start N vs) H) : FnOk P w K mg base (L2N.CX P w) (k + 1) f fd ps sp := by
  obtain ⟨_, _, _, _, _, _, cdv, _, _, rfl, lk, cd⟩ := F.ex
  exact fn_of lk cd S len fun A outer s H vs Q E hr hsp => body cdv A outer s H vs Q E hr hsp
theorem pmk_oexN {X : Cx} {CX : CXT} {x : Str} {e : Expr} {es : List Expr} {ta : TA} {p pos : Pos} {C fI : Addr} {k : Nat} {fd : FuncData} {ps : List Str} {sp : Sp} {ds : List Value} {dvs : List V} (T : OexC X.K C) (iC : PySem.W.findIn X.K (.ref C) "__init__" = some (some (.ref fI))) (tI : PySem.W.typeIn X.K (.ref fI) = some (.type "function"))
    (F1 : FnOk X.prog X.w X.K X.mg X.base CX k fI fd ps sp) (hr : Room (k + 1) X.A) (hb : Binds X.K fd ps ds) (hd : Vals dvs ds) (hx : Passes CX X (fun _ _ _ => False)) (hg : Gl X x) (hm : X.mg x = some (.ref C)) (ha : PA X (e :: es) ta)
    (hdb : (x == ("__debug__" : Str)) = false := by decide) (he : starEach (e :: es) X.env = (false, eval e X.env) :: starEach es X.env := by rfl) (hpl : (backTo pos (starEach es X.env)).any (·.1) = false := by rfl) : L2N.PMk X (.Call (.Name x p) (e :: es) [] pos) (tMkO C sp dvs ta) := by
  intro pins s σ H Q I z
  obtain ⟨_, _, _, _, bm, _, _, _, _, _, _, _, _, _, _, hC, mem⟩ := T.cls
  refine wpAny_Call_Name_kw (ld_glob I hg hm ?_ hdb)
  refine PySem.W.callWith_K (h₀ := X.base) I.ok.mod.kin T.kC (thn (ha.run pos pins s σ H _ I z) fun us s1 ⟨vs, H1, J1, r1, _, q1⟩ => ⟨J1.kIn, ?_⟩) he hpl
  show wpAny _ _ (call (.ref C) us) _ _ _
  obtain ⟨g, gn, dw, tk, os⟩ := s1
  generalize hA : g.objs.size + 1 = a
  have le : g.objs.size ≤ a := by omega
  have fr : H1 a = none := J1.hok.fresh le
  have q2 := q1 a fr
  generalize hG : (g.push (PySem.W.kdv_tup us)).push (PySem.HandSPX.excO C g.objs.size) = g2
  have kp : ∀ b o, g.get? b = some o → g2.get? b = some o := fun b o y => by rw [← hG]; exact Heap.get?_push_of_some _ (Heap.get?_push_of_some _ y)
  have ga : g2.get? a = some (PySem.HandSPX.excO C g.objs.size) := by rw [← hG, ← hA]; heap_get
  have J2 : Inv X pins σ (upd H1 a (exo a C none)) ⟨g2, gn, dw, tk, os⟩ := J1.laid (t' := tk) (a := a) (o := exo a C none) (h' := g2) kp le (exo_ok ga)
  have rr : Vals (V.ref a :: (vs ++ dvs)) (Value.ref a :: (us ++ ds)) := .cons rfl (r1.append hd)
  have ln : (Value.ref a :: us ++ ds).length = ps.length := by
    have y := rr.length
    rw [F1.len _ _ _ _ q2] at y
    exact y.symm
  have nu : us.length ≤ sizeLine := by rw [← Paired.length r1, sizeLine_eq]; omega
  subst hA hG
  refine wpAny_call (PySem.HandSPX.call_own F.excBase_ValueError (fun Y => PySem.HandSPX.refsVE_contains Y bm mem) (J1.kIn _ _ hC) (PySem.W.looks_findIn J1.kIn iC) (fun self => PySem.W.bind_fn J1.kIn self tI) nu (codeAny_mono (F1.run _ X.stack _ _ ⟨Value.ref (g.objs.size + 1) :: us, []⟩ (Value.ref (g.objs.size + 1) :: (us ++ ds)) _ _ (fun _ _ _ => False) (hr.make C us []) (J2.env0.make C us []) (hb _ (Value.ref (g.objs.size + 1) :: us) J2.kIn ln) rr q2) fun r s' y => ?_))
  cases r with
  | error er => exact hx pins σ _ _ er s' J2 y
  | ok fl =>
    cases fl with
    | ret u =>
      obtain ⟨v, H2, o2, b2, un, ok2, rv, ev, d, fs, ea, ed, nd, q3⟩ := y
      subst ev
      obtain ⟨g3, gn3, dw3, tk3, os3⟩ := s'
      obtain ⟨t0, G, J, kG, ge, hoe, na⟩ := mk_end0 (d2 := dw3) (t2 := tk3) J1 le kp un ok2 o2 b2 ea ed nd
      exact ⟨rv, g.objs.size + 1, _, _, ⟨G, gn3, dw3, tk3, os3⟩, _, .ref C, some d, rfl, J, kG, ge, hoe, ⟨rfl, rfl, fun vs hv => by cases hv; rfl⟩, rfl, rfl, na, rfl, b2, raises_own T.exC T.tyC, q3⟩
    | next => exact False.elim y
    | brk => exact False.elim y
    | cont => exact False.elim y
end HOTS
namespace M
open PySem PySem.Spec PyProof.Rows L2
theorem ps_tryN {X : Cx} {x n : Str} {c : Value} {body suite : List Stmt} {b₀ : Stmt} {np pos pos' : Pos} {tb : WX → TS} {ts : Addr → Value → Option Addr → TS} {Wout : WX} {i : Nat} {K : PySem.W.Frag} (hK : X.K = K) (hs : X.stack = X.env :: X.outer) (hf : X.env.frame = some X.env.locals) (hN : X.N.Nodup) (hi : X.N[i]? = some n) (hln : X.env.kindOf n = some .local) (hc : Names X x c) (tk : L2N.Takes X Wout)
    (hb : ∀ (W : WX) (pn : List (Addr × Obj)) (xe : Value → Shared → Prop), L2N.Takes (X.tr pn xe) W → PassesOwn (model X.prog X.w) X.A X.env xe → PSs (X.tr pn xe) body (tb W))
    (hsu : ∀ (a : Addr) (oe : Obj) (cls : Value) (d : Option Addr) (pn : List (Addr × Obj)), L2N.Zn cls d oe → (∃ vs, oe.data = .fields vs) → PSs (X.suite a ((a, oe) :: pn)) (b₀ :: suite) (ts a cls d)) :
    PS X (.Try body [.ExceptHandler (some (.Name x np)) (some n) (b₀ :: suite) pos'] [] [] pos) (tTryAs K c i ts Wout tb) := hK ▸ L2N.ps_try_as hs hf hN hi hln hc tk hb hsu
/-- the law's end, where the law's own text calls what may raise -/
theorem law_endX {CX : CXT} {P : Program} {w : World} {K : PySem.W.Frag} {mg : Str → Option Value} {k : Nat} {fa0 : Addr} {ps : List Str} {m : List T → AH → Res T} {R : FuncData → Prop} (ht : ∀ ns : List Int, ns.length ≤ 63 → ∃ h', m [.rdl (ns.map .int)] [] = .ok (.bl true) h')
    (h : ∃ fd : FuncData, R fd ∧ ∃ G : Env, G.K = K ∧ ∀ base : Heap, K.In base → base.Ns mainGlobals mg → FnOk P w K mg base CX k fa0 fd ps (spM G 1 m)) :
    ∃ fd : FuncData, R fd ∧ ∀ base : Heap, K.In base → base.Ns mainGlobals mg → FnOk P w K mg base CX k fa0 fd ps (spLaw K) := by
  obtain ⟨fd, r, G, rfl, h⟩ := h
  refine ⟨fd, r, fun base a b => FnOk.imp (h base a b) fun vs H Q E q => ?_⟩
  obtain ⟨p, ns, rfl, hs, hl, q⟩ := q
  obtain ⟨h', hm⟩ := ht ns hl
  refine ⟨⟨G, [], [], H, []⟩, [.rdl (ns.map .int)], rfl, ⟨rfl, fun i o p h1 => by simp at h1, fun i j o o' p h1 => by simp at h1, fun q hq => by simp at hq⟩, rfl, RvL.cons ?_ RvL.nil, rfl, ?_⟩
  · simp only [Rv]
    have no : ¬ Own (⟨G, [], [], H, []⟩ : Sta) p := fun z => by
      rcases z with ⟨i, o, h1, _⟩ | z
      · simp at h1
      · simp at z
    refine ⟨p, _, rfl, ?_, RvL.ofInts ns⟩
    rcases hs with (hs | ⟨ob, hs⟩) | hs
    · exact .inr (.inl ⟨hs, no⟩)
    · exact .inl ⟨ob, hs, no⟩
    · exact .inr (.inr hs)
  · rw [hm]
    intro S' e k st v rv
    simp only [Rv] at rv
    subst rv
    exact q _
theorem cxN_no {P : Program} {w : World} {outer : List PySem.Env} {H : Hp} {s : Shared} {u : Value} {s' : Shared} : L2N.CX P w outer H s (fun _ _ _ => False) u s' → False := fun ⟨_, _, _, _, _, _, _, _, _, _, _, _, f⟩ => f
theorem cx_no {P : Program} {w : World} {outer : List PySem.Env} {H : Hp} {s : Shared} {u : Value} {s' : Shared} : L2.CX P w outer H s (fun _ _ _ => False) u s' → False := fun ⟨_, _, _, _, _, _, _, _, _, _, _, _, f⟩ => f
end M
/-! list(d) -/
namespace M
open PySem PySem.Spec PyProof.Rows L2
variable {G : Env} {S : Sta}
def rListDk : List V → Hp → VK → Prop := fun xs H Q => ∃ (a : Addr) (kvs : List (Key × V)), xs = [.ref a] ∧ Rd H a (.dK kvs) ∧ ∀ p, H p = none → Q (.ref p) (upd H p (.lst (kvs.map fun kv => kV kv.1)))
theorem x_listD {X : Cx} (hc : X.calm = true) : CallR X (.type "list") rListDk := call_listD hc
theorem rvL_keys : ∀ {m : List (Key × T)} {vs : List (Key × V)}, RvK S m vs → RvL S (m.map fun kv => keyT kv.1) (vs.map fun kv => kV kv.1)
  | [], vs, r => by unfold RvK at r; subst r; exact RvL.nil
  | (k, t) :: m, vs, r => by
    unfold RvK at r
    obtain ⟨v, m', rfl, _, r2⟩ := r
    exact RvL.cons rv_key (rvL_keys r2)
@[simp] abbrev bListD : List T → AH → Res T := fun xs h => match xs with | [x] => (pur (dctK x h) h).bind fun m h1 => .ok (.lst (m.map fun kv => keyT kv.1)) h1 | _ => .bad
@[simp] abbrev bListDO : List T → AH → Res T := fun xs h => match xs with | [x] => (pur (dctK x h) h).bind fun m h1 => .ok (.obj h1.length) (h1 ++ [some (.lst (m.map fun kv => keyT kv.1))]) | _ => .bad
theorem sb_listD : SimRC G rListDk bListD := fun S xs us X Q e k ru p => by
  unfold bListD at p
  split at p
  · unfold pur at p
    split at p
    · rename_i m hm
      simp only [bind_ok] at p
      simp only [RvL] at ru
      obtain ⟨v, _, rfl, h1, rfl⟩ := ru
      obtain ⟨a, vs, rfl, ha, rk⟩ := dctK_ok k h1 hm
      refine ⟨a, vs, rfl, ha, fun p' n => ?_⟩
      exact new_fz k p (fun p n f => rv_lst f ((rvL_keys rk).mono (step_at k (Grow.upd n)))) p' n
    · exact p.elim
  · exact p.elim
theorem sb_listDO : SimRC G rListDk bListDO := fun S xs us X Q e k ru p => by
  unfold bListDO at p
  split at p
  · unfold pur at p
    split at p
    · rename_i m hm
      simp only [bind_ok] at p
      simp only [RvL] at ru
      obtain ⟨v, _, rfl, h1, rfl⟩ := ru
      obtain ⟨a, vs, rfl, ha, rk⟩ := dctK_ok k h1 hm
      refine ⟨a, vs, rfl, ha, fun p' n => ?_⟩
      exact new_obj k p (fun S' st => ⟨_, rfl, (rvL_keys rk).mono st⟩) p' n
    · exact p.elim
  · exact p.elim
/-! a walk over a tracked list: each turn looks at it anew -/
def LIVE : Nat := 100000
def sForLv (a : FG) (b : FS) (j : Nat) : Nat → Nat → FS
  | 0, _ => fun _ _ => .bad
  | n + 1, i => fun τ h => match h[j]? with
    | some (some (.lst l)) => match l[i]? with
      | none => .ok (.nx τ) h
      | some x => match a x τ with
        | some τ' => (b τ' h).bind fun fl h1 => match fl with
          | .nx τ2 => sForLv a b j n (i + 1) τ2 h1
          | .ct τ2 => sForLv a b j n (i + 1) τ2 h1
          | .bk τ2 => .ok (.nx τ2) h1
          | fl => .ok fl h1
        | none => .bad
    | _ => .bad
def sForX (a : FG) (b : FS) (x : T) : FS := fun τ h => match x with | .obj j => sForLv a b j LIVE 0 τ h | .lst l => sForL a b l τ h | _ => .bad
@[simp] def sForO (fo : FE) (a : FG) (b : FS) : FS := fun τ h => liftE (fo τ h) τ fun x h1 => sForX a b x τ h1
theorem sim_forO {W : WX} {te : TE} {fo : FE} {g : TG} {a : FG} {t : TS} {b : FS} (ho : SimE G (WE W) te fo) (hg : SimG G g a) (hb : SimS G W t b) : SimS G W (tFor (iList G.K te) g t) (sForO fo a b) := fun S σ τ D e k rs p => by
  refine ho S σ τ _ e k rs (PostG.imp (fun x S1 q u ru => ?_) (PG.lift rs p))
  obtain ⟨k1, s1, q⟩ := q
  have e1 := s1.G.trans e
  unfold sForX at q
  split at q
  · rename_i j
    have q0 := q
    unfold LIVE sForLv at q
    split at q
    · rename_i l hl
      obtain ⟨ad, vs0, rfl, hal, hp, rl0⟩ := obj_lst k1 hl ru
      refine ⟨ad, rfl, ⟨vs0, .of hp⟩, fun i m σ H => ∃ S τ, S.H = H ∧ S.G = G ∧ Ok S ∧ Step S1 S ∧ RS S τ σ ∧ PG S W D (sForLv a b j m i τ S.h), ⟨LIVE, S1, τ, rfl, e1, k1, Step.refl S1, rs.mono s1, q0⟩, ?_⟩
      rintro i m σ H ⟨S, τ, rfl, e, k, st, rs, p⟩
      have ru := ru.mono st
      cases m with
      | zero => exact p.elim
      | succ m =>
        unfold sForLv at p
        split at p
        · rename_i l hl
          obtain ⟨ad', vs, ep, _, hp', rl⟩ := obj_lst k hl ru
          have ea := V.ref.inj ep
          subst ea
          have sq : SqL G.K S.H ad vs := .of hp'
          split at p
          · rename_i hx
            exact .inl ⟨⟨vs, sq, by rw [rl.len]; exact List.getElem?_eq_none_iff.mp hx⟩, p S rfl k (Step.refl S) σ rs⟩
          · rename_i x hx
            obtain ⟨v, hv, rv⟩ := rl.get hx
            refine .inr ⟨⟨vs, v, sq, hv⟩, fun σ' H' => ∃ S τ, S.H = H' ∧ S.G = G ∧ Ok S ∧ Step S1 S ∧ RS S τ σ' ∧ PG S W D (sForLv a b j m (i + 1) τ S.h), ?_, ?_⟩
            · rintro σ' H' ⟨S2, τ2, rfl, e2, k2, st2, rs2, p2⟩
              exact ⟨m, Nat.lt_succ_self m, S2, τ2, rfl, e2, k2, st2, rs2, p2⟩
            · rintro w H' ⟨rfl, hy⟩
              have hw := hy vs sq
              rw [hv] at hw; cases hw
              split at p
              · rename_i τ' hτ
                refine hg S _ v τ τ' σ _ e k rv rs hτ fun σ2 rs2 => ?_
                refine hb S σ2 τ' _ e k rs2 (PostG.imp (fun fl S3 q => ?_) (PostG.bind p))
                obtain ⟨k3, s3, q⟩ := q
                cases fl with
                | nx τ2 => exact fun σ' r => ⟨S3, τ2, rfl, s3.G.trans e, k3, st.trans s3, r, q⟩
                | ct τ2 => exact fun σ' r => ⟨S3, τ2, rfl, s3.G.trans e, k3, st.trans s3, r, q⟩
                | bk τ' => exact q S3 rfl k3 (Step.refl S3)
                | rt t => exact q S3 rfl k3 (Step.refl S3)
                | xc e t => exact q S3 rfl k3 (Step.refl S3)
              · exact p.elim
        · exact p.elim
    · exact q.elim
  · rename_i l
    simp only [Rv] at ru
    obtain ⟨p, vs, rfl, f, rl⟩ := ru
    refine ⟨p, rfl, ⟨vs, by rw [← e1]; exact sql_of f⟩, ?_⟩
    have := for_at (wi := fun σ H R => ∀ J, ItOk S1 J l → R J H) (fi := fun _ h => .ok l h) (S := S1) (σ := σ) (τ := τ) (D := D) (fun R q => q S1 rfl k1 (Step.refl S1)) hg hb e1 k1 (rs.mono s1) (by simpa [sFor, liftE] using q)
    exact this _ (it_list e1 f rl)
  · exact q.elim
end M
/-! a tracked dict is locked while a statement walks it -/
namespace M
open PySem PySem.Spec PyProof.Rows L2
variable {G : Env} {E : L2.St → XK} {W : WX} {S S' : Sta} {j : Nat} {p : Addr} {od : Obj} {m : List (Key × T)} {kvs : List (Key × V)}
def Sta.lockO (S : Sta) (j : Nat) (p : Addr) (od : Obj) (kvs : List (Key × V)) : Sta := ⟨S.G, S.al, S.h.set j none, upd S.H p (.frz od (.dK kvs)), p :: S.pv⟩
def Sta.freeO (S' : Sta) (pv : List Addr) (j : Nat) (p : Addr) (m : List (Key × T)) (kvs : List (Key × V)) : Sta := ⟨S'.G, S'.al, S'.h.set j (some (.dct m)), upd S'.H p (.dK kvs), pv⟩
theorem own_lockO (hj : S.h[j]? = some (some (.dct m))) (ha : S.al[j]? = some p) {b : Addr} : Own (S.lockO j p od kvs) b ↔ Own S b := by
  constructor
  · rintro (⟨i, o, h1, h2⟩ | h)
    · replace h2 : (S.h.set j none)[i]? = some (some o) := h2
      by_cases z : i = j
      · subst z
        rw [List.getElem?_set_self (List.getElem?_eq_some_iff.mp hj).1] at h2
        cases h2
      · rw [List.getElem?_set_ne (Ne.symm z)] at h2
        exact .inl ⟨i, o, h1, h2⟩
    · rcases List.mem_cons.mp h with rfl | h
      · exact .inl ⟨j, _, ha, hj⟩
      · exact .inr h
  · rintro (⟨i, o, h1, h2⟩ | h)
    · by_cases z : i = j
      · subst z
        rw [ha] at h1; cases h1
        exact .inr List.mem_cons_self
      · exact .inl ⟨i, o, h1, by show (S.h.set j none)[i]? = _; rw [List.getElem?_set_ne (Ne.symm z)]; exact h2⟩
    · exact .inr (List.mem_cons_of_mem _ h)
theorem trk_p (hj : S.h[j]? = some (some (.dct m))) (ha : S.al[j]? = some p) : Trk S p := ⟨j, _, ha, hj⟩
theorem tr_lockO (hj : S.h[j]? = some (some (.dct m))) (ha : S.al[j]? = some p) : Tr S (S.lockO j p od kvs) := ⟨rfl, List.prefix_rfl, fun q o f => by
  have ne : q ≠ p := fun z => f.2 (.inl (by rw [z]; exact trk_p hj ha))
  exact ⟨by show upd S.H p _ q = _; rw [upd_ne ne]; exact f.1, fun z => f.2 ((own_lockO hj ha).mp z)⟩⟩
theorem ok_lockO (k : Ok S) (hj : S.h[j]? = some (some (.dct m))) (ha : S.al[j]? = some p) : Ok (S.lockO j p od kvs) := by
  have other : ∀ {i : Nat} {o : O}, (S.h.set j none)[i]? = some (some o) → i ≠ j ∧ S.h[i]? = some (some o) := fun {i o} h => by
    by_cases z : i = j
    · subst z
      rw [List.getElem?_set_self (List.getElem?_eq_some_iff.mp hj).1] at h
      cases h
    · rw [List.getElem?_set_ne (Ne.symm z)] at h
      exact ⟨z, h⟩
  refine ⟨by show S.al.length = (S.h.set j none).length; rw [List.length_set]; exact k.len, fun i o q h1 h2 => ?_, fun i i' o o' q h1 h2 h3 h4 => ?_, fun q hq => ?_⟩
  · obtain ⟨ne, h1⟩ := other h1
    have qp : q ≠ p := fun z => ne (k.inj i j o _ q h1 hj h2 (by rw [z]; exact ha))
    obtain ⟨u, hu, r⟩ := k.rel i o q h1 h2
    exact ⟨u, by show upd S.H p _ q = _; rw [upd_ne qp]; exact hu, r.tr (tr_lockO hj ha)⟩
  · exact k.inj i i' o o' q (other h1).2 (other h2).2 h3 h4
  · rcases List.mem_cons.mp hq with rfl | hq
    · refine ⟨⟨_, upd_same⟩, ?_⟩
      rintro ⟨i, o, h1, h2⟩
      obtain ⟨ne, h2⟩ := other h2
      exact ne (k.inj i j o _ q h2 hj h1 ha)
    · obtain ⟨⟨u, hu⟩, nt⟩ := k.priv q hq
      have qp : q ≠ p := fun z => nt (by rw [z]; exact trk_p hj ha)
      refine ⟨⟨u, by show upd S.H p _ q = _; rw [upd_ne qp]; exact hu⟩, ?_⟩
      rintro ⟨i, o, h1, h2⟩
      exact nt ⟨i, o, h1, (other h2).2⟩
section
variable {pv : List Addr}
theorem own_freeO (k' : Ok S') (hv : S'.pv = p :: pv) (hn : S'.h[j]? = some none) (ha : S'.al[j]? = some p) {b : Addr} : Own (S'.freeO pv j p m kvs) b ↔ Own S' b := by
  have lt := (List.getElem?_eq_some_iff.mp hn).1
  constructor
  · rintro (⟨i, o, h1, h2⟩ | h)
    · replace h2 : (S'.h.set j (some (.dct m)))[i]? = some (some o) := h2
      by_cases z : i = j
      · subst z
        replace h1 : S'.al[i]? = some b := h1
        rw [ha] at h1; cases h1
        exact .inr (by rw [hv]; exact List.mem_cons_self)
      · rw [List.getElem?_set_ne (Ne.symm z)] at h2
        exact .inl ⟨i, o, h1, h2⟩
    · exact .inr (by rw [hv]; exact List.mem_cons_of_mem _ h)
  · rintro (⟨i, o, h1, h2⟩ | h)
    · have z : i ≠ j := fun z => by rw [z, hn] at h2; cases h2
      exact .inl ⟨i, o, h1, by show (S'.h.set j _)[i]? = _; rw [List.getElem?_set_ne (Ne.symm z)]; exact h2⟩
    · rw [hv] at h
      rcases List.mem_cons.mp h with rfl | h
      · exact .inl ⟨j, _, ha, List.getElem?_set_self lt⟩
      · exact .inr h
theorem tr_freeO (k' : Ok S') (hv : S'.pv = p :: pv) (hn : S'.h[j]? = some none) (ha : S'.al[j]? = some p) : Tr S' (S'.freeO pv j p m kvs) := ⟨rfl, List.prefix_rfl, fun q o f => by
  have ne : q ≠ p := fun z => f.2 (.inr (by rw [hv, z]; exact List.mem_cons_self))
  exact ⟨by show upd S'.H p _ q = _; rw [upd_ne ne]; exact f.1, fun z => f.2 ((own_freeO k' hv hn ha).mp z)⟩⟩
theorem ok_freeO (k' : Ok S') (hv : S'.pv = p :: pv) (np : p ∉ pv) (hn : S'.h[j]? = some none) (ha : S'.al[j]? = some p) (rk : RvK S' m kvs) : Ok (S'.freeO pv j p m kvs) := by
  have lt := (List.getElem?_eq_some_iff.mp hn).1
  have nt : ¬ Trk S' p := (k'.priv p (by rw [hv]; exact List.mem_cons_self)).2
  have other : ∀ {i : Nat} {o : O}, i ≠ j → (S'.h.set j (some (.dct m)))[i]? = some (some o) → S'.h[i]? = some (some o) := fun {i o} z h => by
    rw [List.getElem?_set_ne (Ne.symm z)] at h; exact h
  refine ⟨by show S'.al.length = (S'.h.set j _).length; rw [List.length_set]; exact k'.len, fun i o q h1 h2 => ?_, fun i i' o o' q h1 h2 h3 h4 => ?_, fun q hq => ?_⟩
  · replace h1 : (S'.h.set j (some (.dct m)))[i]? = some (some o) := h1
    by_cases z : i = j
    · subst z
      rw [List.getElem?_set_self lt] at h1
      cases h1
      replace h2 : S'.al[i]? = some q := h2
      rw [ha] at h2; cases h2
      exact ⟨.dK kvs, upd_same, kvs, rfl, rk.tr (tr_freeO k' hv hn ha)⟩
    · have h1 := other z h1
      have qp : q ≠ p := fun e => nt ⟨i, o, by rw [← e]; exact h2, h1⟩
      obtain ⟨u, hu, r⟩ := k'.rel i o q h1 h2
      exact ⟨u, by show upd S'.H p _ q = _; rw [upd_ne qp]; exact hu, r.tr (tr_freeO k' hv hn ha)⟩
  · replace h1 : (S'.h.set j (some (.dct m)))[i]? = some (some o) := h1
    replace h2 : (S'.h.set j (some (.dct m)))[i']? = some (some o') := h2
    replace h3 : S'.al[i]? = some q := h3
    replace h4 : S'.al[i']? = some q := h4
    by_cases z : i = j
    · by_cases z' : i' = j
      · rw [z, z']
      · subst z
        rw [ha] at h3; cases h3
        exact absurd ⟨i', o', h4, other z' h2⟩ nt
    · by_cases z' : i' = j
      · subst z'
        rw [ha] at h4; cases h4
        exact absurd ⟨i, o, h3, other z h1⟩ nt
      · exact k'.inj i i' o o' q (other z h1) (other z' h2) h3 h4
  · obtain ⟨⟨u, hu⟩, nq⟩ := k'.priv q (by rw [hv]; exact List.mem_cons_of_mem _ hq)
    have qp : q ≠ p := fun z => np (by rw [← z]; exact hq)
    refine ⟨⟨u, by show upd S'.H p _ q = _; rw [upd_ne qp]; exact hu⟩, ?_⟩
    rintro ⟨i, o, h1, h2⟩
    replace h2 : (S'.h.set j (some (.dct m)))[i]? = some (some o) := h2
    replace h1 : S'.al[i]? = some q := h1
    by_cases z : i = j
    · subst z; rw [ha] at h1; cases h1; exact qp rfl
    · exact nq ⟨i, o, h1, other z h2⟩
theorem step_freeO (k : Ok S) (hj : S.h[j]? = some (some (.dct m))) (ha : S.al[j]? = some p) (st : Step (S.lockO j p od kvs) S') (k' : Ok S') (hn : S'.h[j]? = some none) (ha' : S'.al[j]? = some p) : Step S (S'.freeO S.pv j p m kvs) := by
  have hv : S'.pv = p :: S.pv := st.pv
  have op : Own S p := .inl (trk_p hj ha)
  have np : p ∉ S.pv := fun z => (k.priv p z).2 (trk_p hj ha)
  refine ⟨st.G, st.al, fun b o h n => ?_, fun b z => ?_, rfl, fun b hb => ?_⟩
  · have ne : b ≠ p := fun z => n (by rw [z]; exact op)
    show upd S'.H p _ b = _
    rw [upd_ne ne]
    exact st.keep b o (by show upd S.H p _ b = _; rw [upd_ne ne]; exact h) fun z => n ((own_lockO hj ha).mp z)
  · rcases st.own b ((own_freeO k' hv hn ha').mp z) with z | z
    · exact .inl ((own_lockO hj ha).mp z)
    · have z : upd S.H p _ b = none := z
      by_cases y : b = p
      · exact .inl (by rw [y]; exact op)
      · rw [upd_ne y] at z; exact .inr z
  · have ne : b ≠ p := fun z => np (by rw [← z]; exact hb)
    show upd S'.H p _ b = _
    rw [upd_ne ne]
    refine (st.pk b (List.mem_cons_of_mem _ hb)).trans ?_
    show upd S.H p _ b = _
    rw [upd_ne ne]
end
/-! the locked dict's walk -/
def Kpv (p : Addr) (u : HO) (S : Sta) : Prop := p ∈ S.pv ∧ S.H p = some u
theorem Kpv.step {p : Addr} {u : HO} {S S' : Sta} (h : Kpv p u S) (s : Step S S') : Kpv p u S' := ⟨by rw [s.pv]; exact h.1, (s.pk p h.1).trans h.2⟩
theorem Kpv.priv {p D : Addr} {u : HO} {S S' : Sta} (h : Kpv p u S) (x : Priv S S' D) : Kpv p u S' := ⟨by rw [x.pv]; exact List.mem_cons_of_mem _ h.1, (x.st.pk p h.1).trans h.2⟩
def ItOkP (pl : Addr) (ul : HO) (S0 : Sta) (J : It) (l : List T) : Prop := ∀ S, Tr S0 S → Kpv pl ul S → Ok S → ∀ i : Nat, (∀ x, l[i]? = some x → J.go i S.H ∧ ∀ v H', J.yld i S.H v H' → ∃ S', S'.H = H' ∧ S'.h = S.h ∧ Ok S' ∧ Step S S' ∧ Rv S' x v) ∧ (l.length ≤ i → J.stop i S.H)
theorem for_atP {pl : Addr} {ul : HO} {wi : TI} {fi : FA} {g : TG} {a : FG} {t : TS} {b : FS} {S : Sta} {σ : L2.St} {τ : LS} {D : Ends} (hi : ∀ R, PostG S (XP (WE W σ)) (fun l S' => ∀ J, ItOkP pl ul S' J l → R J S'.H) (fi τ S.h) → wi σ S.H R) (hg : SimG G g a) (hb : SimS G W t b) (L0 : Kpv pl ul S) (e : S.G = G) (k : Ok S) (rs : RS S τ σ) (p : PG S W D (sFor fi a b τ S.h)) : tFor wi g t D σ S.H := by
  refine hi _ (PostG.imp (fun l S1 q J hJ => ?_) (PG.lift rs p))
  obtain ⟨k1, s1, q⟩ := q
  refine ⟨fun i m σ H => ∃ S τ, S.H = H ∧ S.G = G ∧ Ok S ∧ Step S1 S ∧ RS S τ σ ∧ m = l.length - i ∧ i ≤ l.length ∧ PG S W D (sForL a b (l.drop i) τ S.h), ⟨l.length, S1, τ, rfl, s1.G.trans e, k1, Step.refl S1, rs.mono s1, by simp, Nat.zero_le _, q⟩, ?_⟩
  rintro i m σ H ⟨S, τ, rfl, e, k, st, rs, rfl, hi, p⟩
  obtain ⟨go, stop⟩ := hJ S st.tr ((L0.step s1).step st) k i
  by_cases hl : i < l.length
  · right
    have hx : l[i]? = some l[i] := List.getElem?_eq_getElem hl
    obtain ⟨g1, g2⟩ := go _ hx
    refine ⟨g1, fun σ' H' => ∃ S τ, S.H = H' ∧ S.G = G ∧ Ok S ∧ Step S1 S ∧ RS S τ σ' ∧ PG S W D (sForL a b (l.drop (i + 1)) τ S.h), ?_, ?_⟩
    · rintro σ' H' ⟨S2, τ2, rfl, e2, k2, st2, rs2, p2⟩
      exact ⟨l.length - (i + 1), by omega, S2, τ2, rfl, e2, k2, st2, rs2, rfl, hl, p2⟩
    · intro v H' hy
      obtain ⟨S2, rfl, hh, k2, st2, rv⟩ := g2 v H' hy
      rw [List.drop_eq_getElem_cons hl] at p
      unfold sForL at p
      split at p
      · rename_i τ' hτ
        refine hg S2 _ v τ τ' σ _ (st2.G.trans e) k2 rv (rs.mono st2) hτ fun σ2 rs2 => ?_
        rw [← hh] at p
        refine hb S2 σ2 τ' _ (st2.G.trans e) k2 rs2 (PostG.imp (fun fl S3 q => ?_) (PostG.bind (PostG.mono st2 p)))
        obtain ⟨k3, s3, q⟩ := q
        cases fl with
        | nx τ2 => exact fun σ' r => ⟨S3, τ2, rfl, s3.G.trans (st2.G.trans e), k3, st.trans (st2.trans s3), r, q⟩
        | ct τ2 => exact fun σ' r => ⟨S3, τ2, rfl, s3.G.trans (st2.G.trans e), k3, st.trans (st2.trans s3), r, q⟩
        | bk τ' => exact q S3 rfl k3 (Step.refl S3)
        | rt t => exact q S3 rfl k3 (Step.refl S3)
        | xc e t => exact q S3 rfl k3 (Step.refl S3)
      · exact p.elim
  · left
    refine ⟨stop (by omega), ?_⟩
    rw [List.drop_eq_nil_of_le (by omega)] at p
    exact p S rfl k (Step.refl S) σ rs
theorem lc_allP {pl : Addr} {ul : HO} {wi : TI} {fi : FA} {g : TG} {a : FG} {tt : TT} {ft : FT} {te : TE} {fe : FE} {vs : List Nat} (hg : SimGw G vs g a) (ht : SimT G ET tt ft) (he : SimE G ET te fe) (hv : ∀ v ∈ vs, NoSl G v)
    (S : Sta) (σ : L2.St) (τ : LS) (Q : VK) (L0 : Kpv pl ul S) (e : S.G = G) (k : Ok S) (rs : RS S τ σ) (hi : ∀ R, PostG S (XP (E σ)) (fun l S' => ∀ J, ItOkP pl ul S' J l → R J S'.H) (fi τ S.h) → wi σ S.H R) (fin : List T → AH → Res T) (p : PostG S (XP (E σ)) (fun t S' => ∀ v, Rv S' t v → Q v S'.H) ((fi τ S.h).bind fun l h1 => (mLcL a ft fe (wipeT τ vs) 0 l h1).bind fin))
    (hfin : ∀ (S0 S : Sta) (ys : List T) (ws : List V) (D : Addr), S0.G = G → Ok S0 → Ok S → Priv S0 S D → S.H D = some (.lst ws) → RvL S ys ws → PostG S0 (fun _ _ => True) (fun t S' => ∀ v, Rv S' t v → Q v S'.H) (fin ys S.h) → Q (.ref D) S.H) : tLc wi g tt te vs σ S.H Q := by
  refine hi _ (PostG.imp (fun l S1 q J hJ D hD => ?_) (PostG.bind p))
  obtain ⟨k1, s1, q⟩ := q
  have e1 := s1.G.trans e
  have rw1 := (rs.mono s1).wipe vs (by rw [s1.G, e]; exact hv)
  have q := PostG.pnd q
  refine ⟨fun i m H => ∃ S acc ws, S.H = H ∧ Ok S ∧ Priv S1 S D ∧ S.H D = some (.lst ws) ∧ RvL S acc ws ∧ m = l.length - i ∧ i ≤ l.length ∧
    Pnd (fun ys h => PostG S1 (fun _ _ => True) (fun t S' => ∀ v, Rv S' t v → Q v S'.H) (fin (acc ++ ys) h)) (mLcL a ft fe (wipeT τ vs) acc.length (l.drop i) S.h), ⟨l.length, S1.hide D (upd S1.H D (.lst [])), [], [], rfl, ok_hide k1 hD, Priv.start k1 hD, upd_same, RvL.nil, by simp, Nat.zero_le _, q⟩, ?_⟩
  rintro i m H ⟨S, acc, ws, rfl, k, x, hDS, rl, rfl, hi, p⟩
  have trS := x.tr
  obtain ⟨go, stop⟩ := hJ S trS ((L0.step s1).priv x) k i
  have eS := trS.G.trans e1
  by_cases hl : i < l.length
  · right
    have hx : l[i]? = some l[i] := List.getElem?_eq_getElem hl
    obtain ⟨g1, g2⟩ := go _ hx
    refine ⟨g1, fun H' => ∃ S acc ws, S.H = H' ∧ Ok S ∧ Priv S1 S D ∧ S.H D = some (.lst ws) ∧ RvL S acc ws ∧
      Pnd (fun ys h => PostG S1 (fun _ _ => True) (fun t S' => ∀ v, Rv S' t v → Q v S'.H) (fin (acc ++ ys) h)) (mLcL a ft fe (wipeT τ vs) acc.length (l.drop (i + 1)) S.h), ?_, ?_⟩
    · rintro H' ⟨S2, acc2, ws2, e2, k2, x2, h2, r2, p2⟩
      exact ⟨l.length - (i + 1), by omega, S2, acc2, ws2, e2, k2, x2, h2, r2, rfl, hl, p2⟩
    · intro v H' hy
      obtain ⟨S2, rfl, hh, k2, st2, rv⟩ := g2 v H' hy
      have x2 := x.step k1 k k2 st2
      have hD2 : S2.H D = some (.lst ws) := (st2.pk D (by rw [x.pv]; exact List.mem_cons_self)).trans hDS
      rw [List.drop_eq_getElem_cons hl] at p
      unfold mLcL at p
      split at p
      · rename_i τ' hτ
        refine hg S2 _ v _ τ' (wipe σ vs) _ (st2.G.trans eS) k2 rv (RS.tr (x2.tr) rw1) hτ fun σ2 rs2 ew => ⟨by rw [ew, wipe_wipe], ?_⟩
        rw [← hh] at p
        refine ht S2 σ2 τ' _ (st2.G.trans eS) k2 rs2 (PostG.exc (fun _ _ _ _ _ _ => trivial) (PostG.imp (fun b S3 q => ?_) (Pnd.post (Pnd.bind p))))
        obtain ⟨k3, s3, q⟩ := q
        have x3 := x2.step k1 k2 k3 s3
        have hp3 : D ∈ S2.pv := by rw [x2.pv]; exact List.mem_cons_self
        have hD3 : S3.H D = some (.lst ws) := (s3.pk D hp3).trans hD2
        cases b with
        | false =>
          rw [if_neg Bool.false_ne_true] at q
          rw [if_neg Bool.false_ne_true]
          exact ⟨S3, acc, ws, rfl, k3, x3, hD3, rl.mono (st2.trans s3), q⟩
        | true =>
          rw [if_pos rfl] at q
          rw [if_pos rfl]
          have e3 := s3.G.trans (st2.G.trans eS)
          refine he S3 σ2 τ' _ e3 k3 (rs2.mono s3) (PostG.exc (fun _ _ _ _ _ _ => trivial) (PostG.imp (fun y S4 q w rw' => ?_) (Pnd.post (Pnd.bind q))))
          obtain ⟨k4, s4, q⟩ := q
          have x4 := x3.step k1 k3 k4 s4
          have hp4 : D ∈ S4.pv := by rw [x4.pv]; exact List.mem_cons_self
          have hD4 : S4.H D = some (.lst ws) := (s4.pk D (by rw [x3.pv]; exact List.mem_cons_self)).trans hD3
          have rl4 := rl.mono ((st2.trans s3).trans s4)
          split at q
          · rename_i hz
            refine ⟨ws, hD4, by rw [rl.len]; exact hz, S4.fill (upd S4.H D (.lst (ws ++ [w]))), acc ++ [y], ws ++ [w], rfl, ok_fill k4 hp4, x4.fill k1, upd_same, (rl4.snoc rw').tr (tr_fill hp4), ?_⟩
            rw [List.length_append]
            have q := Pnd.bind q
            show Pnd _ (mLcL a ft fe (wipeT τ vs) (acc.length + 1) (l.drop (i + 1)) S4.h)
            cases hr : mLcL a ft fe (wipeT τ vs) (acc.length + 1) (l.drop (i + 1)) S4.h with
            | bad => rw [hr] at q; exact q.elim
            | exc e h' => exact trivial
            | ok ys h' =>
              rw [hr] at q
              show PostG _ _ _ (fin ((acc ++ [y]) ++ ys) h')
              rw [List.append_assoc]
              exact q
          · exact q.elim
      · exact p.elim
  · left
    refine ⟨stop (by omega), ?_⟩
    rw [List.drop_eq_nil_of_le (by omega)] at p
    have p : PostG _ _ _ (fin (acc ++ []) S.h) := p
    rw [List.append_nil] at p
    exact hfin S1 S acc ws D e1 k1 k x hDS rl p
/-- slot i holds the dict of m, which is locked now -/
def LkO (S : Sta) (σ : L2.St) (i : Nat) (m : List (Key × T)) (p : Addr) (u : HO) : Prop := ∃ od kvs, u = .frz od (.dK kvs) ∧ σ[i]? = some (some (.ref p)) ∧ Kpv p u S ∧ RvK S m kvs
def SimLO (i : Nat) (G : Env) (W : WX) (ts : TS) (gm : List (Key × T) → FS) : Prop := ∀ (S : Sta) (σ : L2.St) (τ : LS) (D : Ends) (m : List (Key × T)) (p : Addr) (u : HO), S.G = G → Ok S → RS S τ σ → LkO S σ i m p u → PG S W D (gm m τ S.h) → ts D σ S.H
/-- the statement gm walks the tracked dict that slot i holds -/
def sLkO (i : Nat) (gm : List (Key × T) → FS) : FS := fun τ h => match τ[i]? with
  | some (some (.obj j)) => match h[j]? with
    | some (some (.dct m)) => match gm m τ (h.set j none) with
      | .ok (.xc _ _) _ => .bad
      | .ok fl h' => match h'[j]? with
        | some none => .ok fl (h'.set j (some (.dct m)))
        | _ => .bad
      | _ => .bad
    | _ => .bad
  | _ => .bad
theorem obj_dctO {i : Nat} {m : List (Key × T)} {u : V} (k : Ok S) (h : S.h[i]? = some (some (.dct m))) (r : Rv S (.obj i) u) : ∃ p kvs, u = .ref p ∧ S.al[i]? = some p ∧ S.H p = some (.dK kvs) ∧ RvK S m kvs := by
  simp only [Rv] at r
  obtain ⟨p, hp, rfl⟩ := r
  obtain ⟨u, hu, vs, rfl, rl⟩ := k.rel i _ p h hp
  exact ⟨p, vs, rfl, hp, hu, rl⟩
theorem sim_lkO {i : Nat} {t : TS} {gm : List (Key × T) → FS} (hg : SimLO i G W t gm) : SimS G W (tLk t) (sLkO i gm) := fun S σ τ D e k rs p => by
  unfold sLkO at p
  split at p
  · rename_i j ht
    split at p
    · rename_i m hj
      obtain ⟨w, hσ, rv⟩ := rs.get ht
      obtain ⟨a, kvs, rfl, ha, hH, rk⟩ := obj_dctO k hj rv
      left
      refine ⟨a, .dK kvs, hH, trivial, fun od => ?_⟩
      have tr0 := tr_lockO (od := od) (kvs := kvs) hj ha
      have k2 := ok_lockO (od := od) (kvs := kvs) k hj ha
      refine hg (S.lockO j a od kvs) σ τ _ m a _ e k2 (rs.tr tr0) ⟨od, kvs, rfl, hσ, ⟨List.mem_cons_self, upd_same⟩, rk.tr tr0⟩ ?_
      show PG _ W _ (gm m τ (S.h.set j none))
      revert p
      cases gm m τ (S.h.set j none) with
      | bad => intro p; exact p.elim
      | exc e h' => intro p; exact p.elim
      | ok fl h' =>
        have fin : ∀ S', S'.h = h' → h'[j]? = some none → Ok S' → Step (S.lockO j a od kvs) S' → S'.H a = some (.frz od (.dK kvs)) ∧ (S'.freeO S.pv j a m kvs).h = h'.set j (some (.dct m)) ∧ Ok (S'.freeO S.pv j a m kvs) ∧ Step S (S'.freeO S.pv j a m kvs) ∧ Tr S' (S'.freeO S.pv j a m kvs) := fun S' e' hn k' st => by
          have hv : S'.pv = a :: S.pv := st.pv
          have np : a ∉ S.pv := fun z => (k.priv a z).2 (trk_p hj ha)
          have ha' : S'.al[j]? = some a := by
            obtain ⟨r, hr⟩ := st.al
            rw [← hr, List.getElem?_append_left (List.getElem?_eq_some_iff.mp (show (S.lockO j a od kvs).al[j]? = some a from ha)).1]
            exact ha
          have hn' : S'.h[j]? = some none := by rw [e']; exact hn
          refine ⟨(st.pk a List.mem_cons_self).trans upd_same, by show S'.h.set j _ = _; rw [e'], ok_freeO k' hv np hn' ha' ((rk.tr tr0).mono st), step_freeO k hj ha st k' hn' ha', tr_freeO k' hv hn' ha'⟩
        cases fl with
        | xc e τ' => intro p; exact p.elim
        | nx τ' =>
          intro p
          simp only at p
          split at p
          · rename_i hn
            exact fun S' e' k' st σ' r' => ⟨(fin S' e' hn k' st).1, p (S'.freeO S.pv j a m kvs) (fin S' e' hn k' st).2.1 (fin S' e' hn k' st).2.2.1 (fin S' e' hn k' st).2.2.2.1 σ' (r'.tr (fin S' e' hn k' st).2.2.2.2)⟩
          · exact p.elim
        | bk τ' =>
          intro p
          simp only at p
          split at p
          · rename_i hn
            exact fun S' e' k' st σ' r' => ⟨(fin S' e' hn k' st).1, p (S'.freeO S.pv j a m kvs) (fin S' e' hn k' st).2.1 (fin S' e' hn k' st).2.2.1 (fin S' e' hn k' st).2.2.2.1 σ' (r'.tr (fin S' e' hn k' st).2.2.2.2)⟩
          · exact p.elim
        | ct τ' =>
          intro p
          simp only at p
          split at p
          · rename_i hn
            exact fun S' e' k' st σ' r' => ⟨(fin S' e' hn k' st).1, p (S'.freeO S.pv j a m kvs) (fin S' e' hn k' st).2.1 (fin S' e' hn k' st).2.2.1 (fin S' e' hn k' st).2.2.2.1 σ' (r'.tr (fin S' e' hn k' st).2.2.2.2)⟩
          · exact p.elim
        | rt t =>
          intro p
          simp only at p
          split at p
          · rename_i hn
            exact fun S' e' k' st v r' => ⟨(fin S' e' hn k' st).1, p (S'.freeO S.pv j a m kvs) (fin S' e' hn k' st).2.1 (fin S' e' hn k' st).2.2.1 (fin S' e' hn k' st).2.2.2.1 v (r'.tr (fin S' e' hn k' st).2.2.2.2)⟩
          · exact p.elim
    · exact p.elim
  · exact p.elim
theorem keys_atO {S : Sta} {σ : L2.St} {i : Nat} {m : List (Key × T)} {p : Addr} {u : HO} {X : Exc → Sta → Prop} (k : Ok S) (L : LkO S σ i m p u) : ∀ R, PostG S X (fun l S' => ∀ J, ItOkP p u S' J l → R J S'.H) (.ok (m.map fun kv => keyT kv.1) S.h) → iKeys (tVar i) σ S.H R := by
  intro R pp
  obtain ⟨od, kvs, rfl, hσ, L0, rk⟩ := L
  refine ⟨_, hσ, p, od, rfl, .inl ⟨_, L0.2, pp S rfl k (Step.refl S) _ fun S1 tr L1 k1 j => ?_⟩⟩
  have zl := (rk.tr tr).len
  refine ⟨fun x hx => ?_, fun h => ⟨L1.2, by rw [List.length_map] at h; rw [zl]; exact h⟩⟩
  obtain ⟨v, hv, rv⟩ := (rvL_keys (rk.tr tr)).get hx
  rw [List.getElem?_map] at hv
  obtain ⟨kv, hk, rfl⟩ := Option.map_eq_some_iff.mp hv
  refine ⟨⟨L1.2, (List.getElem?_eq_some_iff.mp hk).1⟩, fun v H' hy => ?_⟩
  obtain ⟨rfl, k', v', hz, rfl⟩ := hy
  rw [hk] at hz
  cases hz
  exact ⟨S1, rfl, rfl, k1, Step.refl S1, rv⟩
theorem rvL_vals : ∀ {m : List (Key × T)} {vs : List (Key × V)}, RvK S m vs → RvL S (m.map (·.2)) (vs.map (·.2))
  | [], vs, r => by unfold RvK at r; subst r; exact RvL.nil
  | (k, t) :: m, vs, r => by
    unfold RvK at r
    obtain ⟨v, m', rfl, r1, r2⟩ := r
    exact RvL.cons r1 (rvL_vals r2)
theorem vals_atO {S : Sta} {σ : L2.St} {i : Nat} {m : List (Key × T)} {p : Addr} {u : HO} {X : Exc → Sta → Prop} (k : Ok S) (L : LkO S σ i m p u) : ∀ R, PostG S X (fun l S' => ∀ J, ItOkP p u S' J l → R J S'.H) (.ok (m.map (·.2)) S.h) → iVals (tVar i) σ S.H R := by
  intro R pp
  obtain ⟨od, kvs, rfl, hσ, L0, rk⟩ := L
  refine ⟨_, hσ, p, od, _, rfl, L0.2, pp S rfl k (Step.refl S) _ fun S1 tr L1 k1 j => ?_⟩
  have zl := (rk.tr tr).len
  refine ⟨fun x hx => ?_, fun h => ⟨L1.2, by rw [List.length_map] at h; rw [zl]; exact h⟩⟩
  obtain ⟨v, hv, rv⟩ := (rvL_vals (rk.tr tr)).get hx
  rw [List.getElem?_map] at hv
  obtain ⟨kv, hk, rfl⟩ := Option.map_eq_some_iff.mp hv
  refine ⟨⟨L1.2, (List.getElem?_eq_some_iff.mp hk).1⟩, fun w H' hy => ?_⟩
  obtain ⟨rfl, k', hz⟩ := hy
  rw [hk] at hz
  cases hz
  exact ⟨S1, rfl, rfl, k1, Step.refl S1, rv⟩
abbrev oKeys (m : List (Key × T)) : FA := fun _ h => .ok (m.map fun kv => keyT kv.1) h
abbrev oVals (m : List (Key × T)) : FA := fun _ h => .ok (m.map (·.2)) h
theorem LkO.kpv {σ : L2.St} {i : Nat} {m : List (Key × T)} {p : Addr} {u : HO} (L : LkO S σ i m p u) : Kpv p u S := by
  obtain ⟨_, _, _, _, h, _⟩ := L; exact h
theorem sim_forVO {i : Nat} {g : TG} {a : FG} {t : TS} {b : FS} (hg : SimG G g a) (hb : SimS G W t b) : SimLO i G W (tFor (iVals (tVar i)) g t) (fun m => sFor (oVals m) a b) := fun S σ τ D m p u e k rs L q => for_atP (vals_atO k L) hg hb L.kpv e k rs q
theorem sim_forKO {i : Nat} {g : TG} {a : FG} {t : TS} {b : FS} (hg : SimG G g a) (hb : SimS G W t b) : SimLO i G W (tFor (iKeys (tVar i)) g t) (fun m => sFor (oKeys m) a b) := fun S σ τ D m p u e k rs L q => for_atP (keys_atO k L) hg hb L.kpv e k rs q
theorem sim_lcKOf {i j : Nat} {g : TG} {a : FG} {tt : TT} {ft : FT} {te : TE} {fe : FE} {vs : List Nat} (hg : SimGw G vs g a) (ht : SimT G ET tt ft) (he : SimE G ET te fe) (hv : ∀ v ∈ vs, NoSl G v := by first | exact fun _ _ => noSl_none rfl | exact fun v hv => noSl_ne (by revert v; decide) | assumption) (hj : NoSl G j := by first | exact noSl_none rfl | exact noSl_ne (by decide) | assumption) : SimLO i G W (tAsg (tLc (iKeys (tVar i)) g tt te vs) (gName j)) (fun m => sSet j (mLc vs (oKeys m) a ft fe)) := fun S σ τ D m p u e k rs L q => by
  refine lc_allP (E := WE W) hg ht he hv S σ τ _ L.kpv e k rs (keys_atO k L) _ (PostG.imp (fun t S1 q w rt => ?_) (PG.lift rs q)) fun S0 S ys ws D _ k0 k x hD r q => ?_
  · obtain ⟨k1, s1, q⟩ := q
    exact q S1 rfl k1 (Step.refl S1) _ (RS.set rt j (by rw [s1.G, e]; exact hj) (rs.mono s1))
  · have e := x.pv
    exact q (S.show S0.pv) rfl (ok_show k e) x.st _ (rv_lst ⟨hD, x.nown k0 k⟩ (r.tr (tr_show e)))
theorem sim_lcKOO {i j : Nat} {g : TG} {a : FG} {tt : TT} {ft : FT} {te : TE} {fe : FE} {vs : List Nat} (hg : SimGw G vs g a) (ht : SimT G ET tt ft) (he : SimE G ET te fe) (hv : ∀ v ∈ vs, NoSl G v := by first | exact fun _ _ => noSl_none rfl | exact fun v hv => noSl_ne (by revert v; decide) | assumption) (hj : NoSl G j := by first | exact noSl_none rfl | exact noSl_ne (by decide) | assumption) : SimLO i G W (tAsg (tLc (iKeys (tVar i)) g tt te vs) (gName j)) (fun m => sSet j (mLcO vs (oKeys m) a ft fe)) := fun S σ τ D m p u e k rs L q => by
  refine lc_allP (E := WE W) hg ht he hv S σ τ _ L.kpv e k rs (keys_atO k L) _ (PostG.imp (fun t S1 q w rt => ?_) (PG.lift rs q)) fun S0 S ys ws D _ k0 k x hD r q => ?_
  · obtain ⟨k1, s1, q⟩ := q
    exact q S1 rfl k1 (Step.refl S1) _ (RS.set rt j (by rw [s1.G, e]; exact hj) (rs.mono s1))
  · obtain ⟨k', st⟩ := x.adopt k0 k hD (RO.mk_lst r)
    exact q (S.adopt S0.pv D _) rfl k' st _ (by simp only [Rv]; exact ⟨D, by simp [Sta.adopt, k.len], rfl⟩)
end M
/-! list(zip(l, m)) of two lists -/
namespace LZ
open PySem PySem.Spec PyProof.Rows L2
section
variable {P : Program} {w : World} {A : Around} {E : Value → Shared → Prop} {s : Shared} {z TI TO i1 i2 l1 l2 T0 : Addr} {oT : Obj} {f : Bool} {k : Nat} {xs ys : Array Value} {x y : Value}
abbrev Zs (h : Heap) (z a b : Addr) (own seen : Value) : Prop := h.get? z = some { cls := .type "zip", dict := none, data := .fields #[own, seen, .bool false, .ref a, .ref b], slots := #[] }
theorem not_free {Q : Bool → Shared → Prop} (gz : Zs s.heap z TI TO (rawInt T0) (.bool f)) (hT0 : s.heap.get? T0 = some oT)
    (h : ∀ h', Zs h' z TI TO (rawInt T0) (.bool true) → Heap.SameBut z s.heap h' → Q false { s with heap := h' }) : wpAny (model P w) A (Builtin.SmallTypes.ownedTupleIsFree (.ref z)) Q E s := by
  unfold Builtin.SmallTypes.ownedTupleIsFree
  refine wpAny_bind (wpAny_field gz rfl (x := rawInt T0) rfl ?_)
  show wpAny _ _ (loadIfAlive ((T0 : Int).toNat) >>= _) _ _ s
  rw [Int.toNat_natCast]
  refine wpAny_bind (PySem.W.kdx_alive hT0 ?_)
  simp only [Option.isNone_some, Bool.false_eq_true, if_false]
  refine wpAny_bind (wpAny_field gz rfl (x := .bool f) rfl ?_)
  cases f with
  | true =>
    rw [if_neg (show ¬ (((Value.bool true) != (Value.bool true)) = true) from by decide)]
    exact wpAny_pure (h _ gz (Heap.SameBut.refl _ _))
  | false =>
    rw [if_pos (show ((Value.bool false) != (Value.bool true)) = true from by decide)]
    exact wpAny_bind (wpAny_setField_rec gz (by simp) fun h3 e3 s3 => wpAny_pure (h h3 e3 s3))
theorem nx_item {Q : Value → Shared → Prop} (D : ZipApart z TI TO i1 i2 l1 l2) (gz : Zs s.heap z TI TO (rawInt T0) (.bool f)) (hT0 : s.heap.get? T0 = some oT) (gI : IsPair s.heap TI (.ref i1) (.ref i2))
    (g1 : s.heap.IsListIter i1 l1 k) (g2 : s.heap.IsListIter i2 l2 k) (q1 : s.heap.IsList l1 xs) (q2 : s.heap.IsList l2 ys) (hx : xs[k]? = some x) (hy : ys[k]? = some y)
    (hQ : ∀ h', Zs h' z TI TO (rawInt T0) (.bool true) → h'.IsListIter i1 l1 (k + 1) → h'.IsListIter i2 l2 (k + 1) → IsPair h' s.heap.objs.size x y →
      (∀ c o, c ≠ z → c ≠ i1 → c ≠ i2 → s.heap.get? c = some o → h'.get? c = some o) → Q (.ref s.heap.objs.size) { s with heap := h' }) :
    wpAny (model P w) A (Builtin.«zip.__next__» ⟨[.ref z], []⟩) (fun fin s' => ∃ v, fin = .done (.ret v) ∧ Q v s') E s := by
  show wpAny _ _ (field (.ref z) 2 >>= _) _ _ s
  refine wpAny_bind (wpAny_field gz rfl (x := .bool false) rfl ?_)
  show wpAny _ _ (field (.ref z) 3 >>= _) _ _ s
  refine wpAny_bind (wpAny_field gz rfl (x := .ref TI) rfl ?_)
  refine wpAny_bind (wpAny_seqItems gI rfl ?_)
  show wpAny _ _ (Builtin.SmallTypes.ownedTupleIsFree (.ref z) >>= _) _ _ s
  refine wpAny_bind (not_free gz hT0 fun h3 z3 s3 => ?_)
  simp only [Bool.false_eq_true, if_false]
  refine wpAny_bind ?_
  rw [← Array.forIn_toList]
  simp only [List.forIn_cons, List.forIn_nil]
  refine wpAny_bind (wpAny_bind (wpAny_holding ?_))
  show wpAny _ _ (Builtin.SmallTypes.nextOf (.ref i1) >>= _) _ _ _
  refine wpAny_bind (wpAny_nextOf_list_item (g1.extBut s3.extBut D.i1z) (q1.extBut s3.extBut D.l1z) hx fun h4 j1 s4 => wpAny_pure (wpAny_pure ?_))
  refine wpAny_bind (wpAny_bind (wpAny_holding ?_))
  show wpAny _ _ (Builtin.SmallTypes.nextOf (.ref i2) >>= _) _ _ _
  refine wpAny_bind (wpAny_nextOf_list_item ((g2.extBut s3.extBut D.i2z).extBut s4.extBut D.i12.symm) ((q2.extBut s3.extBut D.l2z).extBut s4.extBut D.l2i1) hy fun h5 j2 s5 => wpAny_pure (wpAny_pure (wpAny_pure ?_)))
  have zz : Zs h5 z TI TO (rawInt T0) (.bool true) := s5.extBut _ _ D.i2z.symm (s4.extBut _ _ D.i1z.symm z3)
  have sz : h5.objs.size = s.heap.objs.size := by rw [s5.1, s4.1, s3.1]
  refine wpAny_bind (wpAny_newTuple (hsz := by show 2 ≤ sizeLine; decide) ?_)
  show wpAny _ _ (ret (.ref h5.objs.size)) _ _ _
  refine wpAny_pure ⟨_, rfl, ?_⟩
  have up : ∀ c o, h5.get? c = some o → (h5.push { cls := .type "tuple", data := .seq #[x, y] }).get? c = some o := fun c o e => Heap.get?_push_of_some _ e
  have last := hQ (h5.push { cls := .type "tuple", data := .seq #[x, y] }) (up _ _ zz) ((j1.extBut s5.extBut D.i12).at fun o e => up _ o e) (j2.at fun o e => up _ o e) (by rw [← sz]; exact Heap.get?_push_size _ rfl)
    fun c o n1 n2 n3 e => up c o (s5.extBut c o n3 (s4.extBut c o n2 (s3.extBut c o n1 e)))
  rw [← sz] at last
  exact last
theorem nx_end {Q : Fin → Shared → Prop} (hh : A.handled = none) (D : ZipApart z TI TO i1 i2 l1 l2) (gz : Zs s.heap z TI TO (rawInt T0) (.bool f)) (hT0 : s.heap.get? T0 = some oT) (gI : IsPair s.heap TI (.ref i1) (.ref i2))
    (g1 : s.heap.IsListIter i1 l1 k) (g2 : s.heap.IsListIter i2 l2 k) (q1 : s.heap.IsList l1 xs) (q2 : s.heap.IsList l2 ys) (hend : xs[k]? = none ∨ ys[k]? = none)
    (hE : ∀ h' e, (∀ c o, c ≠ z → c ≠ i1 → c ≠ i2 → s.heap.get? c = some o → h'.get? c = some o) → (∃ o, h'.get? e = some o ∧ o.cls = .type "StopIteration") → E (.ref e) { s with heap := h' }) :
    wpAny (model P w) A (Builtin.«zip.__next__» ⟨[.ref z], []⟩) Q E s := by
  show wpAny _ _ (field (.ref z) 2 >>= _) _ _ s
  refine wpAny_bind (wpAny_field gz rfl (x := .bool false) rfl ?_)
  show wpAny _ _ (field (.ref z) 3 >>= _) _ _ s
  refine wpAny_bind (wpAny_field gz rfl (x := .ref TI) rfl ?_)
  refine wpAny_bind (wpAny_seqItems gI rfl ?_)
  show wpAny _ _ (Builtin.SmallTypes.ownedTupleIsFree (.ref z) >>= _) _ _ s
  refine wpAny_bind (not_free gz hT0 fun h3 z3 s3 => ?_)
  simp only [Bool.false_eq_true, if_false]
  refine wpAny_bind ?_
  rw [← Array.forIn_toList]
  simp only [List.forIn_cons, List.forIn_nil]
  refine wpAny_bind (wpAny_bind (wpAny_holding ?_))
  show wpAny _ _ (Builtin.SmallTypes.nextOf (.ref i1) >>= _) _ _ _
  cases hx : xs[k]? with
  | none =>
    exact wpAny_bind (wpAny_nextOf_list_end hh (g1.extBut s3.extBut D.i1z) (q1.extBut s3.extBut D.l1z) hx fun h4 e s4 he => hE h4 e (fun c o n1 n2 _ q => s4 _ _ n2 (s3.extBut _ _ n1 q)) he)
  | some x =>
    have hy : ys[k]? = none := by rcases hend with h | h; rw [hx] at h; cases h; exact h
    refine wpAny_bind (wpAny_nextOf_list_item (g1.extBut s3.extBut D.i1z) (q1.extBut s3.extBut D.l1z) hx fun h4 j1 s4 => wpAny_pure (wpAny_pure ?_))
    refine wpAny_bind (wpAny_bind (wpAny_holding ?_))
    show wpAny _ _ (Builtin.SmallTypes.nextOf (.ref i2) >>= _) _ _ _
    exact wpAny_bind (wpAny_nextOf_list_end hh ((g2.extBut s3.extBut D.i2z).extBut s4.extBut D.i12.symm) ((q2.extBut s3.extBut D.l2z).extBut s4.extBut D.l2i1) hy fun h5 e s5 he => hE h5 e (fun c o n1 n2 n3 q => s5 _ _ n3 (s4.extBut _ _ n2 (s3.extBut _ _ n1 q))) he)
theorem py_item {Q : Option Value → Shared → Prop} (D : ZipApart z TI TO i1 i2 l1 l2) (gz : Zs s.heap z TI TO (rawInt T0) (.bool f)) (hT0 : s.heap.get? T0 = some oT) (gI : IsPair s.heap TI (.ref i1) (.ref i2))
    (g1 : s.heap.IsListIter i1 l1 k) (g2 : s.heap.IsListIter i2 l2 k) (q1 : s.heap.IsList l1 xs) (q2 : s.heap.IsList l2 ys) (hx : xs[k]? = some x) (hy : ys[k]? = some y)
    (hQ : ∀ h', Zs h' z TI TO (rawInt T0) (.bool true) → h'.IsListIter i1 l1 (k + 1) → h'.IsListIter i2 l2 (k + 1) → IsPair h' s.heap.objs.size x y →
      (∀ c o, c ≠ z → c ≠ i1 → c ≠ i2 → s.heap.get? c = some o → h'.get? c = some o) → Q (some (.ref s.heap.objs.size)) { s with heap := h' }) :
    wpAny (model P w) A (pyNext (.ref z)) Q E s := by
  have tz : s.TypeIs (.ref z) "zip" := ⟨_, gz, rfl⟩
  unfold pyNext
  exact wpAny_bind (wpAny_attempt (wpAny_callSpecial?_slot (name := Str.ofString "__next__") tz F.slot_zip_next (wpAny_call_entry F.slot_zip_next tz F.entry_zip_next
    (nx_item D gz hT0 gI g1 g2 q1 q2 hx hy fun h' b1 b2 b3 b4 b5 => wpAny_pure (hQ h' b1 b2 b3 b4 b5)) (F.args_zip_next_1 _))))
theorem py_end {Q : Option Value → Shared → Prop} (hh : A.handled = none) (D : ZipApart z TI TO i1 i2 l1 l2) (gz : Zs s.heap z TI TO (rawInt T0) (.bool f)) (hT0 : s.heap.get? T0 = some oT) (gI : IsPair s.heap TI (.ref i1) (.ref i2))
    (g1 : s.heap.IsListIter i1 l1 k) (g2 : s.heap.IsListIter i2 l2 k) (q1 : s.heap.IsList l1 xs) (q2 : s.heap.IsList l2 ys) (hend : xs[k]? = none ∨ ys[k]? = none)
    (hQ : ∀ h', (∀ c o, c ≠ z → c ≠ i1 → c ≠ i2 → s.heap.get? c = some o → h'.get? c = some o) → Q none { s with heap := h' }) : wpAny (model P w) A (pyNext (.ref z)) Q E s := by
  have tz : s.TypeIs (.ref z) "zip" := ⟨_, gz, rfl⟩
  unfold pyNext
  refine wpAny_bind (wpAny_attempt (wpAny_callSpecial?_slot (name := Str.ofString "__next__") tz F.slot_zip_next (wpAny_call_entry F.slot_zip_next tz F.entry_zip_next
    (nx_end hh D gz hT0 gI g1 g2 q1 q2 hend fun h' e hk he => ?_) (F.args_zip_next_1 _))))
  obtain ⟨o, ho, hc⟩ := he
  refine wpAny_bind (wpAny_isInstance (T := "StopIteration") (b := true) ⟨o, ho, hc⟩ isSubtype_stop ?_)
  exact wpAny_pure (hQ _ hk)
end
variable {X : Cx} {pins : List (Addr × Obj)} {σ : L2.St} {H : Hp} {s : Shared} {S z TI TO i1 i2 a b : Addr} {xs ys : List V}
/-- the zip's cells -/
def cellsZ (z TI TO i1 i2 : Addr) : List Addr := [z, TI, TO, i1, i2]
/-- before turn i: the list S holds the tuples ts -/
structure Mid (X : Cx) (pins : List (Addr × Obj)) (σ : L2.St) (H : Hp) (S z TI TO i1 i2 a b : Addr) (xs ys : List V) (ts : List Addr) (H1 : Hp) (s : Shared) : Prop where
  I : Inv X pins σ H1 s
  ls : H1 S = some (.lst (ts.map V.ref))
  keep : ∀ c o, H c = some o → H1 c = some o
  nS : H S = none
  tup : ∀ (j : Nat) (t : Addr), ts[j]? = some t → H t = none ∧ ∃ x y, xs[j]? = some x ∧ ys[j]? = some y ∧ H1 t = some (.tup [x, y])
  fp : ∀ c ∈ cellsZ z TI TO i1 i2, FpOk X pins H1 c
  zip : (ts = [] ∧ IsZip s.heap z TI TO .none) ∨ ∃ (T0 : Addr) (f : Bool) (oT : Obj), Zs s.heap z TI TO (rawInt T0) (.bool f) ∧ s.heap.get? T0 = some oT ∧ T0 ≠ S ∧ T0 ∉ cellsZ z TI TO i1 i2
  gI : IsPair s.heap TI (.ref i1) (.ref i2)
  gO : ∃ p q, IsPair s.heap TO p q
  g1 : s.heap.IsListIter i1 a ts.length
  g2 : s.heap.IsListIter i2 b ts.length
theorem mem_z {z TI TO i1 i2 : Addr} : z ∈ cellsZ z TI TO i1 i2 := by simp [cellsZ]
theorem mem_I {z TI TO i1 i2 : Addr} : TI ∈ cellsZ z TI TO i1 i2 := by simp [cellsZ]
theorem mem_O {z TI TO i1 i2 : Addr} : TO ∈ cellsZ z TI TO i1 i2 := by simp [cellsZ]
theorem mem_1 {z TI TO i1 i2 : Addr} : i1 ∈ cellsZ z TI TO i1 i2 := by simp [cellsZ]
theorem mem_2 {z TI TO i1 i2 : Addr} : i2 ∈ cellsZ z TI TO i1 i2 := by simp [cellsZ]
/-- a tuple was given out at T, and goes into the list -/
theorem Mid.next {ts : List Addr} {H1 : Hp} {s : Shared} {T : Addr} {x y : V} {u v : Value} {h' : Heap} (M : Mid X pins σ H S z TI TO i1 i2 a b xs ys ts H1 s) (hS : S ∉ cellsZ z TI TO i1 i2) (eT : T = s.heap.objs.size) (hx : xs[ts.length]? = some x) (hy : ys[ts.length]? = some y) (ru : RelV x u) (rv : RelV y v)
    (hlt : ts.length < sizeLine) (gT : IsPair h' T u v) (kp : ∀ c o, c ∉ cellsZ z TI TO i1 i2 → s.heap.get? c = some o → h'.get? c = some o)
    (hz : ∃ (T0 : Addr) (f : Bool) (oT : Obj), Zs h' z TI TO (rawInt T0) (.bool f) ∧ h'.get? T0 = some oT ∧ T0 ≠ S ∧ T0 ∉ cellsZ z TI TO i1 i2)
    (gI : IsPair h' TI (.ref i1) (.ref i2)) (gO : ∃ p q, IsPair h' TO p q) (g1 : h'.IsListIter i1 a (ts.length + 1)) (g2 : h'.IsListIter i2 b (ts.length + 1)) :
    ∃ acc c, h'.get? S = some { cls := .type "list", data := .seq acc c } ∧ acc.size = ts.length ∧
      Mid X pins σ H S z TI TO i1 i2 a b xs ys (ts ++ [T]) (upd (upd H1 T (.tup [x, y])) S (.lst ((ts ++ [T]).map V.ref))) { s with heap := h'.update S (Obj.mapSeq (·.push (.ref T))) } := by
  have newT : H1 T = none := M.I.hok.fresh (by rw [eT]; exact Nat.le_refl _)
  have ST : S ≠ T := fun q => by rw [← q, M.ls] at newT; cases newT
  have I1 : Inv X pins σ (upd H1 T (.tup [x, y])) { s with heap := h' } :=
    M.I.turnedNew (t' := s.toks) (ch := cellsZ z TI TO i1 i2) kp M.fp (by rw [eT]; exact Nat.le_refl _) ⟨by show 2 ≤ sizeLine; decide, [u, v], .cons ru (.cons rv .nil), ⟨_, gT, rfl, _, rfl⟩⟩
  have lsT : upd H1 T (.tup [x, y]) S = some (.lst (ts.map V.ref)) := by rw [upd_ne ST]; exact M.ls
  obtain ⟨its, n, r, ho, _⟩ := I1.lst lsT
  have ln : its.length = ts.length := by rw [← r.length, List.length_map]
  have oth : ∀ c o, c ≠ S → h'.get? c = some o → (h'.update S (Obj.mapSeq (·.push (.ref T)))).get? c = some o := fun c o n e => (Heap.get?_update_other _ _ (Ne.symm n)).trans e
  have nS : ∀ {c}, c ∈ cellsZ z TI TO i1 i2 → c ≠ S := fun h q => hS (by rw [← q]; exact h)
  have nT : ∀ {c}, c ∈ cellsZ z TI TO i1 i2 → c ≠ T := fun {c} h q => by
    have l : c < s.heap.objs.size := by
      simp only [cellsZ, List.mem_cons, List.not_mem_nil, or_false] at h
      obtain ⟨_, e1, _⟩ := M.g1
      obtain ⟨_, e2, _⟩ := M.g2
      obtain ⟨_, _, eO⟩ := M.gO
      rcases h with rfl | rfl | rfl | rfl | rfl
      · rcases M.zip with ⟨_, e⟩ | ⟨_, _, _, e, _⟩ <;> exact Heap.lt_size e
      · exact Heap.lt_size M.gI
      · exact Heap.lt_size eO
      · exact Heap.lt_size e1
      · exact Heap.lt_size e2
    rw [q, eT] at l
    exact Nat.lt_irrefl _ l
  have z63 := line63
  refine ⟨its.toArray, n, ho, by simpa using ln, ?_, upd_same, fun c o e => ?_, M.nS, fun j t hj => ?_, fun c hc => ?_, .inr ?_, oth _ _ (nS mem_I) gI, ?_, ?_, ?_⟩
  · refine I1.lstUpd lsT ho (its' := its ++ [.ref T]) (n' := n + 1) (by simp [Obj.mapSeq]) (by rw [List.map_append]; exact r.append (.cons rfl .nil)) (by simp; omega) s.toks
  · have nc : c ≠ T := fun q => by rw [q] at e; rw [M.keep _ _ e] at newT; cases newT
    have q : c ≠ S := fun q => by rw [q, M.nS] at e; cases e
    rw [upd_ne q, upd_ne nc]; exact M.keep c o e
  · by_cases lt : j < ts.length
    · rw [List.getElem?_append_left lt] at hj
      obtain ⟨n0, x', y', e1, e2, e3⟩ := M.tup j t hj
      have tT : t ≠ T := fun q => by rw [q, newT] at e3; cases e3
      have tS : t ≠ S := fun q => by rw [q, M.ls] at e3; cases e3
      exact ⟨n0, x', y', e1, e2, by rw [upd_ne tS, upd_ne tT]; exact e3⟩
    · have lj := (List.getElem?_eq_some_iff.mp hj).1
      rw [List.length_append, List.length_singleton] at lj
      have ej : j = ts.length := by omega
      subst ej
      have et : t = T := by simpa using hj.symm
      subst et
      refine ⟨?_, x, y, hx, hy, by rw [upd_ne (Ne.symm ST)]; exact upd_same⟩
      cases e : H t with
      | none => rfl
      | some o => have := M.keep _ _ e; rw [newT] at this; cases this
  · have f := M.fp c hc
    exact ⟨by rw [upd_ne (nS hc), upd_ne (nT hc)]; exact f.1, f.2⟩
  · obtain ⟨T0, f, oT, e1, e2, n1, n2⟩ := hz
    exact ⟨T0, f, oT, oth _ _ (nS mem_z) e1, oth _ _ n1 e2, n1, n2⟩
  · obtain ⟨p, q, e⟩ := gO
    exact ⟨p, q, oth _ _ (nS mem_O) e⟩
  · rw [List.length_append]; exact g1.at fun o e => oth _ o (nS mem_1) e
  · rw [List.length_append]; exact g2.at fun o e => oth _ o (nS mem_2) e
theorem IsL.of (I : Inv X pins σ H s) {xs : List V} {a : Addr} (q : SqL X.K H a xs) : ∃ its : List Value, Vals xs its ∧ s.heap.IsList a its.toArray := by
  obtain ⟨its, r, p, _⟩ := I.list q
  exact ⟨its, r, p.isList⟩
/-- what the loop leaves -/
def Out (H : Hp) (S : Addr) (xs ys : List V) (ts : List Addr) (H1 : Hp) : Prop :=
  ts.length = min xs.length ys.length ∧ H1 S = some (.lst (ts.map V.ref)) ∧ (∀ c o, H c = some o → H1 c = some o) ∧
    ∀ (j : Nat) (t : Addr), ts[j]? = some t → H t = none ∧ ∃ x y, xs[j]? = some x ∧ ys[j]? = some y ∧ H1 t = some (.tup [x, y])
theorem loop {A : Around} {R : Result → Shared → Prop} {res : Value} (hh : A.handled = none) (D : ZipApart z TI TO i1 i2 a b) (hS : S ∉ cellsZ z TI TO i1 i2) (hq1 : ∀ H1 : Hp, (∀ c o, H c = some o → H1 c = some o) → SqL X.K H1 a xs) (hq2 : ∀ H1 : Hp, (∀ c o, H c = some o → H1 c = some o) → SqL X.K H1 b ys) (hn : xs.length ≤ sizeLine)
    (hR : ∀ s' H1 ts, Inv X pins σ H1 s' → Out H S xs ys ts H1 → R (.ok (.ret res)) s') :
    ∀ (k : Nat) (ts : List Addr) (H1 : Hp) (s : Shared), min xs.length ys.length - ts.length = k → ts.length ≤ min xs.length ys.length → Mid X pins σ H S z TI TO i1 i2 a b xs ys ts H1 s →
      codeAny (model X.prog X.w) A (.builtin "list.extend.loop" ⟨[.ref S, .ref z, res], []⟩) R s := by
  intro k
  induction k with
  | zero =>
    intro ts H1 s e le M
    obtain ⟨it1, r1, p1⟩ := IsL.of M.I (hq1 H1 M.keep)
    obtain ⟨it2, r2, p2⟩ := IsL.of M.I (hq2 H1 M.keep)
    have n1 := r1.length
    have n2 := r2.length
    have hend : it1.toArray[ts.length]? = none ∨ it2.toArray[ts.length]? = none := by
      rcases Nat.lt_or_ge ts.length xs.length with h | h
      · exact .inr (by simp; omega)
      · exact .inl (by simp; omega)
    refine codeAny_builtin F.entry_extend_loop ?_
    rw [Around.under_plainId F.plain_extend_loop _]
    show wpAny _ A.in1 (pyNext (.ref z) >>= _) _ _ s
    have fin : ∀ h' : Heap, (∀ c o, c ∉ cellsZ z TI TO i1 i2 → s.heap.get? c = some o → h'.get? c = some o) → R (.ok (.ret res)) { s with heap := h' } := fun h' kp =>
      hR _ H1 ts (M.I.turnedL (t' := s.toks) (ch := cellsZ z TI TO i1 i2) kp M.fp) ⟨by omega, M.ls, M.keep, M.tup⟩
    obtain ⟨p, q, gO⟩ := M.gO
    rcases M.zip with ⟨_, gz⟩ | ⟨T0, f, oT, gz, hT0, _⟩
    · exact wpAny_bind (wpAny_pyNext_zip_end (A := A.in1) hh D gz M.gI gO M.g1 M.g2 p1 p2 hend fun h' kp => wpAny_pure (fin h' fun c o hc => kp c o (fun q => hc (by rw [q]; exact mem_z)) (fun q => hc (by rw [q]; exact mem_O)) (fun q => hc (by rw [q]; exact mem_1)) (fun q => hc (by rw [q]; exact mem_2))))
    · exact wpAny_bind (py_end (A := A.in1) hh D gz hT0 M.gI M.g1 M.g2 p1 p2 hend fun h' kp => wpAny_pure (fin h' fun c o hc => kp c o (fun q => hc (by rw [q]; exact mem_z)) (fun q => hc (by rw [q]; exact mem_1)) (fun q => hc (by rw [q]; exact mem_2))))
  | succ k ih =>
    intro ts H1 s e le M
    obtain ⟨it1, r1, p1⟩ := IsL.of M.I (hq1 H1 M.keep)
    obtain ⟨it2, r2, p2⟩ := IsL.of M.I (hq2 H1 M.keep)
    have lx : ts.length < xs.length := by omega
    have ly : ts.length < ys.length := by omega
    have hx : xs[ts.length]? = some xs[ts.length] := List.getElem?_eq_getElem lx
    have hy : ys[ts.length]? = some ys[ts.length] := List.getElem?_eq_getElem ly
    obtain ⟨u, hu, ru⟩ := r1.get hx
    obtain ⟨v, hv, rv⟩ := r2.get hy
    refine codeAny_builtin F.entry_extend_loop ?_
    rw [Around.under_plainId F.plain_extend_loop _]
    show wpAny _ A.in1 (pyNext (.ref z) >>= _) _ _ s
    have fin : ∀ h' : Heap, (∀ c o, c ∉ cellsZ z TI TO i1 i2 → s.heap.get? c = some o → h'.get? c = some o) → IsPair h' s.heap.objs.size u v →
        (∃ (T0 : Addr) (f : Bool) (oT : Obj), Zs h' z TI TO (rawInt T0) (.bool f) ∧ h'.get? T0 = some oT ∧ T0 ≠ S ∧ T0 ∉ cellsZ z TI TO i1 i2) → IsPair h' TI (.ref i1) (.ref i2) → (∃ p q, IsPair h' TO p q) →
        h'.IsListIter i1 a (ts.length + 1) → h'.IsListIter i2 b (ts.length + 1) → wpAny (model X.prog X.w) A.in1 (updateSeq S (·.push (.ref s.heap.objs.size)) >>= fun _ => again (.builtin "list.extend.loop" ⟨[.ref S, .ref z, res], []⟩))
          (fun fin s' => match fin with | .done f => R (.ok f) s' | .again c' => c'.quiet = true ∧ codeAny (model X.prog X.w) A c' R s') (fun e s' => R (.error e) s') { s with heap := h' } := fun h' kp gT gz gI gO g1 g2 => by
      obtain ⟨acc, c, hS', hac, M'⟩ := M.next (T := s.heap.objs.size) hS rfl hx hy ru rv (by omega) gT kp gz gI gO g1 g2
      refine wpAny_bind ?_
      refine wpAny_updateSeq hS' rfl (wpAny_pure ⟨plainId_quiet F.plain_extend_loop _, ih _ _ _ (by rw [List.length_append, List.length_singleton]; omega) (by rw [List.length_append, List.length_singleton]; omega) M'⟩) (by rw [hac]; omega) (by show (acc.push (Value.ref s.heap.objs.size)).size ≤ sizeLine + 1; rw [Array.size_push, hac]; omega)
    obtain ⟨p, q, gO⟩ := M.gO
    rcases M.zip with ⟨_, gz⟩ | ⟨T0, f, oT, gz, hT0, m1, m2⟩
    · have zlt : z < s.heap.objs.size := Heap.lt_size gz
      refine wpAny_bind (wpAny_pyNext_zip_item (A := A.in1) D gz M.gI gO M.g1 M.g2 p1 p2 (x := u) (y := v) (by simpa using hu) (by simpa using hv) fun h' z' O' j1 j2 hT hsz kp => ?_)
      have newT : H1 s.heap.objs.size = none := M.I.hok.fresh (Nat.le_refl _)
      refine fin h' (fun c o hc => kp c o (fun q => hc (by rw [q]; exact mem_z)) (fun q => hc (by rw [q]; exact mem_O)) (fun q => hc (by rw [q]; exact mem_1)) (fun q => hc (by rw [q]; exact mem_2))) hT ⟨s.heap.objs.size, false, _, z', hT, fun q => (by rw [q, M.ls] at newT; cases newT), fun h => ?_⟩ (kp _ _ D.TIz D.TITO D.TIi1 D.TIi2 M.gI) ⟨_, _, O'⟩ j1 j2
      simp only [cellsZ, List.mem_cons, List.not_mem_nil, or_false] at h
      obtain ⟨_, e1, _⟩ := M.g1
      obtain ⟨_, e2, _⟩ := M.g2
      rcases h with h | h | h | h | h
      · rw [h] at zlt; exact Nat.lt_irrefl _ zlt
      · exact Nat.lt_irrefl _ (by have := Heap.lt_size M.gI; rw [← h] at this; exact this)
      · exact Nat.lt_irrefl _ (by have := Heap.lt_size gO; rw [← h] at this; exact this)
      · exact Nat.lt_irrefl _ (by have := Heap.lt_size e1; rw [← h] at this; exact this)
      · exact Nat.lt_irrefl _ (by have := Heap.lt_size e2; rw [← h] at this; exact this)
    · refine wpAny_bind (py_item (A := A.in1) D gz hT0 M.gI M.g1 M.g2 p1 p2 (x := u) (y := v) (by simpa using hu) (by simpa using hv) fun h' z' j1 j2 hT kp => ?_)
      have ne : ∀ {c}, c ∈ cellsZ z TI TO i1 i2 → T0 ≠ c := fun h q => m2 (by rw [q]; exact h)
      exact fin h' (fun c o hc => kp c o (fun q => hc (by rw [q]; exact mem_z)) (fun q => hc (by rw [q]; exact mem_1)) (fun q => hc (by rw [q]; exact mem_2))) hT ⟨T0, true, oT, z', kp _ _ (ne mem_z) (ne mem_1) (ne mem_2) hT0, m1, m2⟩ (kp _ _ D.TIz D.TIi1 D.TIi2 M.gI) ⟨p, q, kp _ _ D.TOz D.TOi1 D.TOi2 gO⟩ j1 j2
def tLstZip (K : PySem.W.Frag) (ta : TA) : TE := fun σ H Q => ta σ H fun vs H1 => ∃ (a b : Addr) (xs ys : List V), vs = [.ref a, .ref b] ∧ SqL K H1 a xs ∧ SqL K H1 b ys ∧
  ∀ (H2 : Hp) (S : Addr) (ts : List Addr), H1 S = none → Out H1 S xs ys ts H2 → Q (.ref S) H2
theorem sql_up {K : PySem.W.Frag} {H H1 : Hp} {a : Addr} {xs : List V} (k : ∀ c o, H c = some o → H1 c = some o) (q : SqL K H a xs) : SqL K H1 a xs := by
  rcases q with q | q
  · exact .inl (by
      rcases q with q | ⟨o, q⟩
      · exact .inl (k _ _ q)
      · exact .inr ⟨o, k _ _ q⟩)
  · exact .inr q
theorem len_zip : typeLookup (.type "zip") "__len__" = pure none := by rw [typeLookup_type, builtinLookup_eq_fast]; kernel_rfl
theorem hint_zip : typeLookup (.type "zip") "__length_hint__" = pure none := by rw [typeLookup_type, builtinLookup_eq_fast]; kernel_rfl
theorem call_list_zip {A : Around} {E : Value → Shared → Prop} {Q : Value → Shared → Prop} (hh : A.handled = none) (I : Inv X pins σ H s) (D : ZipApart z TI TO i1 i2 a b) (hq1 : SqL X.K H a xs) (hq2 : SqL X.K H b ys)
    (fp : ∀ c ∈ cellsZ z TI TO i1 i2, FpOk X pins H c) (gz : IsZip s.heap z TI TO .none) (gI : IsPair s.heap TI (.ref i1) (.ref i2)) (gO : ∃ p q, IsPair s.heap TO p q) (g1 : s.heap.IsListIter i1 a 0) (g2 : s.heap.IsListIter i2 b 0)
    (hQ : ∀ s' S ts H2, H S = none → Inv X pins σ H2 s' → Out H S xs ys ts H2 → Q (.ref S) s') : wpAny (model X.prog X.w) A (call (.type "list") [.ref z]) Q E s := by
  obtain ⟨_, _, _, hn⟩ := I.list hq1
  obtain ⟨_, e1, _⟩ := id g1
  obtain ⟨_, e2, _⟩ := id g2
  obtain ⟨p0, q0, eO⟩ := gO
  have below : ∀ c ∈ cellsZ z TI TO i1 i2, c < s.heap.objs.size := fun c h => by
    simp only [cellsZ, List.mem_cons, List.not_mem_nil, or_false] at h
    rcases h with rfl | rfl | rfl | rfl | rfl
    · exact Heap.lt_size gz
    · exact Heap.lt_size gI
    · exact Heap.lt_size eO
    · exact Heap.lt_size e1
    · exact Heap.lt_size e2
  have hS : s.heap.objs.size ∉ cellsZ z TI TO i1 i2 := fun h => Nat.lt_irrefl _ (below _ h)
  have Sz : s.heap.objs.size ≠ z := fun q => hS (by rw [q]; exact mem_z)
  have free : H s.heap.objs.size = none := I.hok.fresh (Nat.le_refl _)
  refine callType_codes (Q₁ := fun ob t => ob = .ref s.heap.objs.size ∧ t = { s with heap := s.heap.push { cls := .type "list", data := .seq #[] } }) F.called_list (F.typeCall_list_1 _) F.entry_list_init (code_list_new _ ⟨rfl, rfl⟩) fun ob t ht => ?_
  obtain ⟨rfl, rfl⟩ := ht
  have l0 : (s.heap.push { cls := .type "list", data := .seq #[] }).get? s.heap.objs.size = some { cls := .type "list", data := .seq #[] } := Heap.get?_push_size _ rfl
  have up0 : ∀ c o, s.heap.get? c = some o → (s.heap.push { cls := .type "list", data := .seq #[] }).get? c = some o := fun c o e => Heap.get?_push_of_some _ e
  refine ⟨⟨_, l0, rfl⟩, F.args_list_init_2 _ _, ?_⟩
  show wpAny _ A.in1.in1 (do let old ← Builtin.List.listItems (.ref s.heap.objs.size); Builtin.List.listUpdate (.ref s.heap.objs.size) (fun _ => #[]); letGo old.toList.reverse; Builtin.List.listExtendWith (.ref s.heap.objs.size) (.ref z) .none) _ _ _
  refine wpAny_bind ?_
  unfold Builtin.List.listItems
  refine wpAny_bind (wpAny_seqItems l0 rfl (wpAny_pure ?_))
  show wpAny _ A.in1.in1 (updateSeq s.heap.objs.size (fun _ => #[]) >>= fun _ => letGo (#[] : Array Value).toList.reverse >>= fun _ => Builtin.List.listExtendWith (.ref s.heap.objs.size) (.ref z) .none) _ _ _
  refine wpAny_bind (wpAny_updateSeq l0 rfl ?_)
  have l1 := Heap.get?_update_self (Obj.mapSeq (fun _ => (#[] : Array Value))) l0 rfl
  have up1 : ∀ (h : Heap) (f : Obj → Obj), (∀ c o, s.heap.get? c = some o → h.get? c = some o) → ∀ c o, s.heap.get? c = some o → (h.update s.heap.objs.size f).get? c = some o := fun h f k c o e =>
    (Heap.get?_update_other _ _ (Ne.symm (Nat.ne_of_lt (Heap.lt_size e)))).trans (k c o e)
  have u1 := up1 _ (Obj.mapSeq (fun _ => (#[] : Array Value))) up0
  have t1 : ∀ {h : Heap}, (∀ c o, s.heap.get? c = some o → h.get? c = some o) → Shared.TypeIs { s with heap := h } (.ref z) "zip" := fun k => ⟨_, k _ _ gz, rfl⟩
  refine wpAny_bind (wpAny_letGo ?_)
  unfold Builtin.List.listExtendWith
  refine wpAny_bind (wpAny_typeOf (t1 u1) ?_)
  have b1 : Builtin.List.listSameRef (.ref s.heap.objs.size) (.ref z) = false := by simp [Builtin.List.listSameRef, Sz]
  have b2 : (Value.type "zip" == Value.type "list") = false := by decide
  have b3 : (Value.type "zip" == Value.type "tuple") = false := by decide
  simp only [b1, b2, b3, Bool.or_false, Bool.false_eq_true, if_false]
  refine wpAny_bind (wpAny_pyIter_zip (u1 _ _ gz) ?_)
  refine wpAny_bind (wpAny_holding ?_)
  unfold Builtin.List.listLengthHint
  refine wpAny_bind (wpAny_specialOf (t1 u1) len_zip ?_)
  show wpAny _ A.in1.in1 (specialOf (.ref z) (Str.ofString "__length_hint__") >>= _) _ _ _
  refine wpAny_bind (wpAny_specialOf (t1 u1) hint_zip ?_)
  refine wpAny_pure ?_
  show wpAny _ A.in1.in1 (rule "list.extend.makes-room" >>= fun _ => Builtin.List.listTouch (.ref s.heap.objs.size) >>= fun _ => again (.builtin "list.extend.loop" ⟨[.ref s.heap.objs.size, .ref z, .none], []⟩)) _ _ _
  refine wpAny_bind (wpAny_rule ?_)
  refine wpAny_bind ?_
  show wpAny _ A.in1.in1 (updateSeq s.heap.objs.size (·.push .none) >>= fun _ => updateSeq s.heap.objs.size (·.pop)) _ _ _
  refine wpAny_bind (wpAny_updateSeq l1 rfl ?_)
  have l2 := Heap.get?_update_self (Obj.mapSeq (·.push Value.none)) l1 rfl
  refine wpAny_updateSeq (hz := by seq_fits) l2 rfl ?_
  have u3 := up1 _ (Obj.mapSeq (·.pop)) (up1 _ (Obj.mapSeq (·.push Value.none)) u1)
  have l3 := Heap.get?_update_self (Obj.mapSeq (·.pop)) l2 rfl
  refine wpAny_pure ⟨plainId_quiet F.plain_extend_loop _, ?_⟩
  generalize hg : ((((s.heap.push { cls := .type "list", data := .seq #[] }).update s.heap.objs.size (Obj.mapSeq (fun _ => (#[] : Array Value)))).update s.heap.objs.size (Obj.mapSeq (·.push Value.none))).update s.heap.objs.size (Obj.mapSeq (·.pop))) = h3 at l3 u3
  obtain ⟨n3, l3⟩ : ∃ n3, h3.get? s.heap.objs.size = some { cls := .type "list", data := .seq ([] : List Value).toArray n3 } := ⟨_, by rw [l3]; simp [Obj.mapSeq]; rfl⟩
  have I3 : Inv X pins σ (upd H s.heap.objs.size (.lst [])) { s with heap := h3 } :=
    I.turnedNew (t' := s.toks) (ch := []) (fun c o _ e => u3 c o e) (fun c h => by cases h) (Nat.le_refl _) ⟨by show 0 ≤ sizeLine; exact Nat.zero_le _, [], n3, .nil, l3⟩
  have grow : ∀ c o, H c = some o → upd H s.heap.objs.size (.lst []) c = some o := M.Grow.upd free
  refine loop (A := A.in1) (H := H) (S := s.heap.objs.size) hh D hS (fun H1 k => sql_up k hq1) (fun H1 k => sql_up k hq2) hn (fun s' H1 ts I' O => ⟨rfl, hQ s' _ ts H1 free I' O⟩) _ [] (upd H s.heap.objs.size (.lst [])) { s with heap := h3 } rfl (Nat.zero_le _) ?_
  exact ⟨I3, upd_same, grow, free, (fun j t h => by simp at h), (fun c hc => ⟨by rw [upd_ne (Nat.ne_of_lt (below c hc))]; exact (fp c hc).1, (fp c hc).2⟩), .inl ⟨rfl, u3 _ _ gz⟩, u3 _ _ gI, ⟨_, _, u3 _ _ eO⟩, g1.at fun o e => u3 _ o e, g2.at fun o e => u3 _ o e⟩
theorem pe_lstZip {X : Cx} (hc : X.calm = true) {e e2 : Expr} {ta : TA} {p pz cpos pos : Pos} (hgl : Gl X "list") (hml : X.mg "list" = none) (hgz : Gl X "zip") (hmz : X.mg "zip" = none) (ha : PA X [e, e2] ta)
    (hv : bootBuiltins "list" = some (.type "list") := by kernel_rfl)
    (hs : starEach [.Call (.Name "zip" pz) [e, e2] [] cpos] X.env = (false, eval (.Call (.Name "zip" pz) [e, e2] [] cpos) X.env) :: starEach [] X.env := by rfl)
    (hs2 : starEach [e, e2] X.env = (false, eval e X.env) :: starEach [e2] X.env := by rfl) (hpl : (backTo cpos (starEach [e2] X.env)).any (·.1) = false := by rfl) :
    PE X (.Call (.Name "list" p) [.Call (.Name "zip" pz) [e, e2] [] cpos] [] pos) (tLstZip X.K ta) := by
  refine ⟨fun pins s σ H Q I hq => ?_⟩
  refine wpAny_Call_Name_kw (ld_blt I hgl hml hv ?_)
  refine PyProof.Rows.callWith_type1 ?_ hs rfl
  rw [hs]
  show wpAny _ _ (spliced ((false, eval (.Call (.Name "zip" pz) [e, e2] [] cpos) X.env) :: backTo pos (starEach [] X.env))) _ _ s
  refine Calls.spliced_cons ?_
  refine wpAny_Call_Name_kw (ld_blt I hgz hmz PyProof.Rows.boot_zip (PyProof.Rows.callWith_type1 (thn (ha.run cpos pins s σ H _ I hq) fun us s1 ⟨vs, H1, I1, r1, q1⟩ => ?_) hs2 hpl))
  obtain ⟨a, b, xs, ys, ex, hqx, hqy, q⟩ := q1
  subst ex
  cases r1 with
  | cons r rr =>
    cases rr with
    | cons r' rr =>
      cases rr
      cases r
      cases r'
      obtain ⟨its, rv, p1, _⟩ := I1.list hqx
      obtain ⟨its2, rv2, p2, _⟩ := I1.list hqy
      refine call_zip_2 p1.isList p2.isList fun h' hz hTI hTO h1 h2 hsz hk => Calls.spliced_nil ?_
      have I2 : Inv X pins σ H1 { s1 with heap := h' } := I1.kept (t' := s1.toks) hk
      have fp5 : ∀ c ∈ cellsZ (s1.heap.objs.size + 4) (s1.heap.objs.size + 2) (s1.heap.objs.size + 3) s1.heap.objs.size (s1.heap.objs.size + 1), FpOk X pins H1 c := fun c hcm => by
        have hle : s1.heap.objs.size ≤ c := by
          simp only [cellsZ, List.mem_cons, List.not_mem_nil, or_false] at hcm
          rcases hcm with z | z | z | z | z <;> rw [z] <;> first | exact Nat.le_refl _ | exact Nat.le_add_right _ _
        exact I1.fpOk hle (I1.hok.fresh hle)
      refine call_list_zip (I2.ok.hd hc) I2 (PySem.W.ktu_apart s1.heap.objs.size a b p1.lt p2.lt) hqx hqy fp5 hz hTI ⟨_, _, hTO⟩ h1 h2 fun s' S ts H2 free I' O => ?_
      exact ⟨.ref S, H2, I', rfl, q H2 S ts free O⟩
end LZ
namespace M
open PySem PySem.Spec PyProof.Rows L2
variable {G : Env} {E : L2.St → XK} {S : Sta}
@[simp] def mLstZip (fa : FA) : FE := fun τ h => (fa τ h).bind fun xs h1 => match xs with
  | [x, y] => (pur (lstOf x h1) h1).bind fun l h2 => (pur (lstOf y h2) h2).bind fun m h3 => .ok (.lst (pairs l m)) h3
  | _ => .bad
theorem rvL_by : ∀ {l : List T} {vs : List V}, l.length = vs.length → (∀ (i : Nat) (x : T) (v : V), l[i]? = some x → vs[i]? = some v → Rv S x v) → RvL S l vs
  | [], [], _, _ => RvL.nil
  | [], _ :: _, h, _ => by simp at h
  | _ :: _, [], h, _ => by simp at h
  | x :: l, v :: vs, h, g => RvL.cons (g 0 x v rfl rfl) (rvL_by (by simpa using h) fun i y w h1 h2 => g (i + 1) y w (by simpa using h1) (by simpa using h2))
end M
namespace LZ
open PySem PySem.Spec PyProof.Rows L2 M
variable {G : M.Env} {E : L2.St → XK}
theorem sim_lstZip {ta : TA} {fa : FA} (ha : SimA G E ta fa) : SimE G E (tLstZip G.K ta) (mLstZip fa) := fun S σ τ Q e k rs p => by
  refine ha S σ τ _ e k rs (PostG.imp (fun xs S1 q us ru => ?_) (PostG.bind p))
  obtain ⟨k1, s1, q⟩ := q
  have e1 := s1.G.trans e
  split at q
  · rename_i x y
    unfold pur at q
    split at q
    · rename_i l hl
      simp only [bind_ok] at q
      split at q
      · rename_i m hm
        simp only [bind_ok] at q
        simp only [RvL] at ru
        obtain ⟨_, _, rfl, h1, _, _, rfl, h2, rfl⟩ := ru
        obtain ⟨a, vs, rfl, hs1, r1⟩ := lstOf_ok k1 hl h1
        obtain ⟨b, ws, rfl, hs2, r2⟩ := lstOf_ok k1 hm h2
        refine ⟨a, b, vs, ws, rfl, by rw [← e1]; exact hs1, by rw [← e1]; exact hs2, fun H2 D ts free O => ?_⟩
        obtain ⟨o1, o2, g, o4⟩ := O
        have g : Grow S1.H H2 := g
        refine q (S1.at H2) rfl (ok_at k1 g) (step_at k1 g) _ (rv_lst (fz_new k1 free o2) (rvL_by ?_ fun i z v hz hv => ?_))
        · unfold pairs
          rw [List.length_zipWith, List.length_map, o1, r1.len, r2.len]
        · obtain ⟨x, y, hx, hy, rfl⟩ := pairs_get hz
          rw [List.getElem?_map] at hv
          obtain ⟨t, ht, rfl⟩ := Option.map_eq_some_iff.mp hv
          obtain ⟨n0, x', y', e3, e4, e5⟩ := o4 i t ht
          obtain ⟨x2, hx2, rx⟩ := r1.get hx
          obtain ⟨y2, hy2, ry⟩ := r2.get hy
          rw [hx2] at e3; cases e3
          rw [hy2] at e4; cases e4
          exact rv_tup (fz_new k1 n0 e5) (RvL.cons (rx.mono (step_at k1 g)) (RvL.cons (ry.mono (step_at k1 g)) RvL.nil))
      · exact q.elim
    · exact q.elim
  · exact q.elim
end LZ
/-! a property, read; a + b of an own class -/
namespace OWN
open PySem PySem.Spec PyProof.Rows L2
section
variable {X : Cx} {CX : CXT} {k : Nat} {C f : Addr} {fd : FuncData} {ps : List Str} {sp : Sp} {op : Operator}
/-- what a class must have for a + b -/
structure Own (K : PySem.W.Frag) (C f : Addr) (op : Operator) : Prop where
  self : PySem.W.selfFirst K C = true
  at_ : PySem.W.findIn K (.ref C) (PySem.dunder op.info.2) = some (some (.ref f))
  fn : PySem.W.isFn K (.ref f) = true
def rOwn (C : Addr) (sp : Sp) : R2 := fun x y H Q => ∃ a b dx fs dy gs, x = .ref a ∧ H a = some (.ins C dx fs) ∧ y = .ref b ∧ H b = some (.ins C dy gs) ∧ sp [.ref a, .ref b] H Q fun _ _ _ => True
theorem op_own (o : Own X.K C f op) (F : FnOk X.prog X.w X.K X.mg X.base CX k f fd ps sp) (hr : Room k X.A) (hb : Binds X.K fd ps []) (hx : Passes CX X fun _ _ _ => True) : OpR X (binaryOp op) (rOwn C sp) := by
  intro pins s σ H x y v u Q I rx ry q
  obtain ⟨a, b, dx, fs, dy, gs, rfl, ea, rfl, eb, q⟩ := q
  obtain rfl : v = Value.ref a := rx
  obtain rfl : u = Value.ref b := ry
  obtain ⟨_, Oa, _, _, _, _⟩ := ins_get I.hok ea
  obtain ⟨oda, Ja, _⟩ := Oa.look
  obtain ⟨_, Ob, _, _, _, _⟩ := ins_get I.hok eb
  obtain ⟨odb, Jb, _⟩ := Ob.look
  obtain ⟨_, fr⟩ := I.fr
  refine PySem.W.binop_K fr I.mod.kin Ja Jb.type o.self o.at_ o.fn (wpAny_mono (run_fn (us := [.ref a, .ref b]) (vs := [.ref a, .ref b]) F hr hb .nil hx I (.cons rfl (.cons rfl .nil)) q) (fun w t hw => ?_) fun _ _ e => e)
  obtain ⟨v, H', I', rv, qv⟩ := hw
  have hw : EP X pins σ Q w t := ⟨v, H', I', rv, qv⟩
  cases w with
  | notImplemented => cases v <;> simp [L2.RelV] at rv
  | _ => exact hw
end
end OWN
namespace M
open PySem PySem.Spec PyProof.Rows L2
variable {G : Env} {E : L2.St → XK} {c : Str} {C : Addr}
/-- o.f, a property: its getter's mirror -/
@[simp] def mProp (c : Str) (mir : List T → AH → Res T) (fo : FE) : FE := fun τ h => (fo τ h).bind fun x h1 => match insOf c x h1 with
  | some _ => mir [x] h1
  | none => .bad
theorem sim_prop {ta : TE} {fa : FE} {mir : List T → AH → Res T} (hc : G.ca c = C) (ha : SimE G E ta fa) : SimE G E (tProp C (spM G 1 mir) [] (fun _ _ _ => True) ta) (mProp c mir fa) := fun S σ τ Q e k rs p => by
  subst hc
  refine ha S σ τ _ e k rs (PostG.imp (fun x S1 q u ru => ?_) (PostG.bind p))
  obtain ⟨k1, s1, q⟩ := q
  split at q
  · rename_i mm hm
    obtain ⟨a, dx, vs, rfl, hH, rk⟩ := insOf_ok k1 ru hm
    have e1 := s1.G.trans e
    rw [e1] at hH
    exact ⟨a, dx, vs, rfl, hH, S1, [x], e1, k1, rfl, RvL.cons ru RvL.nil, rfl, PostG.exc (fun _ _ _ _ _ _ => trivial) q⟩
  · exact q.elim
/-- a + b of two instances: the method's mirror -/
@[simp] def oOwn (c : Str) (mir : List T → AH → Res T) : T → T → AH → Res T := fun x y h => match insOf c x h, insOf c y h with
  | some _, some _ => mir [x, y] h
  | _, _ => .bad
theorem so_own {mir : List T → AH → Res T} (hc : G.ca c = C) : SimR2 G (OWN.rOwn C (spM G 2 mir)) (oOwn c mir) := fun S x y u v X Q e k ru rv p => by
  subst hc
  unfold oOwn at p
  split at p
  · rename_i mm mm' hm hm'
    obtain ⟨a, dx, vs, rfl, hH, rk⟩ := insOf_ok k ru hm
    obtain ⟨b, dy, ws, rfl, hH', rk'⟩ := insOf_ok k rv hm'
    rw [e] at hH hH'
    exact ⟨a, b, dx, vs, dy, ws, rfl, hH, rfl, hH', S, [x, y], e, k, rfl, RvL.cons ru (RvL.cons rv RvL.nil), rfl, PostG.exc (fun _ _ _ _ _ _ => trivial) p⟩
  · exact p.elim
section
variable {P : T → AH → Prop} {X : Exc → AH → Prop} {τ : LS} {h : AH}
@[simp ↓] theorem w_prop {mir : List T → AH → Res T} {fo : FE} : Wp (mProp c mir fo τ h) P X = Wp (fo τ h) (fun x h1 => Op (insOf c x h1) (fun _ => Wp (mir [x] h1) P X)) X := by
  unfold mProp
  rw [wp_bind]
  refine congrArg (fun Q => Wp (fo τ h) Q X) (funext fun x => funext fun h1 => ?_)
  cases insOf c x h1 <;> rfl
end
end M
/-! {t: v for x in ..}, t a tuple: the dict that is made has tuple keys -/
namespace DCT
open PySem PySem.Spec PyProof.Rows L2
section
variable {X : Cx}
/-- a row goes into a new dict, whatever its keys are -/
theorem put_row {pins : List (Addr × Obj)} {σ : L2.St} {H H' : Hp} {s : Shared} {E : Value → Shared → Prop} {D : Addr} {y v : V} {u r : Value} {Q : Unit → Shared → Prop} (hu : X.A.units + 1 < cLine) (I : Inv X pins σ H s) (g : DPut H D y v H') (ry : RelV y u) (rv : RelV v r)
    (h : ∀ s', Inv X pins σ H' s' → Q () s') : wpAny (model X.prog X.w) X.A (dictSet D u r) Q E s := by
  rcases g with ⟨kvs, k, e, rfl, l, rfl⟩ | ⟨kvs, k, b, e, rfl, eb, l, rfl⟩
  · exact d_dictSet I e l ry rv h
  · obtain rfl : u = Value.ref b := ry
    obtain ⟨z, hd, xs, rel, dd⟩ := dt_of I.hok e
    have zl := Paired.length rel
    have zp := length_putK kvs k v
    refine wpAny_dictSet_heap (hsz := by omega) (show X.A.units < cLine by omega) (key_of I.hok eb) dd fun h' ⟨q, es, ep, hq, c1, c2, c3, _, c5⟩ hs => h _ ?_
    exact d_write I (by rw [e]; trivial) hs ⟨q, hq⟩ ⟨by omega, hd, _, (rel.put k eb rv).keeps fun c ys ec => (upd_ne (ne_of ec e nofun)).trans ec, q, es, ep, hq, c1, c2, c3, c5⟩
/-- what a comprehension comes to whose dict begins as the tracked thing o0 -/
def tRow (o0 : HO) (wi : TI) (g : TG) (tt : TT) (tk tv : TE) (vs : List Nat) : TE := fun σ H Q => wi σ H fun J H1 => ∀ D, H1 D = none → ∃ W : Nat → Nat → Hp → Prop, (∃ m, W 0 m (upd H1 D o0)) ∧ ∀ i m H, W i m H →
  (J.stop i H ∧ Q (.ref D) H) ∨ (J.go i H ∧ ∃ Nx : Hp → Prop, (∀ H', Nx H' → ∃ m', m' < m ∧ W (i + 1) m' H') ∧ ∀ x H', J.yld i H x H' → g x (wipe σ vs) H' fun σ2 H2 => wipe σ2 vs = wipe σ vs ∧ tt σ2 H2 fun b H3 =>
    if b = true then tk σ2 H3 fun y H4 => tv σ2 H4 fun z H5 => ∃ H6, DPut H5 D y z H6 ∧ Nx H6 else Nx H3)
section
variable {s0 : Shared} {H0 : Hp} {scope : Scope} {ce : Env} {fp : List Addr}
/-- the iterator's own things, seen from within the block -/
theorem own_fp {pins : List (Addr × Obj)} {σ : L2.St} {H : Hp} {s : Shared} (I : Inv (X.blk s0 H0 scope ce fp) [] σ H s) (n : ∀ b ∈ fp, H b = none) : ∀ b ∈ fp, FpOk (X.blk s0 H0 scope ce fp) [] H b := fun b hb => by
  refine ⟨n b hb, (I.ok.exf b hb).1, I.ok.exfs b hb, .inl hb, fun x c e => (I.ok.exf b hb).2 x c e, fun p hp => ?_⟩
  have hp : p ∈ ([] : List (Addr × Obj)) ++ [] := hp
  cases hp
/-- a turn's end: what was pinned is let go, the block's own names are forgotten -/
theorem turn_end {σ σ2 : L2.St} {vs : List Nat} {H : Hp} {h : Heap} {s : Shared} {J : It} {tg : Expr} {it : Addr} {tn : Nat → Heap → Prop} {i : Nat} (T : Turn X.prog X.w X.K tg J fp it tn) (ew : wipe σ2 vs = wipe σ vs) (st : tn i h)
    (I : Inv (X.blk s0 H0 scope ce fp) ([] ++ pinsAt fp h) σ2 H s) : Inv (X.blk s0 H0 scope ce fp) [] (wipe σ vs) H s ∧ tn i s.heap ∧ ∀ b ∈ fp, H b = none := by
  have pin : ∀ b ∈ fp, ∀ o, h.get? b = some o → s.heap.get? b = some o ∧ H b = none := fun b hb o e => by
    have z := I.pin (b, o) (List.mem_append_right _ (List.mem_append_right _ (mem_pinsAt hb e)))
    exact ⟨z.1, z.2.1⟩
  refine ⟨(I.unpinned (pins := [])).weak (by rw [← ew, wipe_length]) fun j v e => ?_, T.keep _ _ _ st fun b hb o e => (pin b hb o e).1, fun b hb => ?_⟩
  · rw [← ew] at e; exact (wipe_some e).1
  · obtain ⟨o, e, _⟩ := T.obj _ _ st b hb; exact (pin b hb o e).2
/-- all turns -/
theorem rounds {kx vx tg iter : Expr} {ifs : List Expr} {sc : Scope} {pos : Pos} {g : TG} {tt : TT} {tk tv : TE} {vs : List Nat} {σ : L2.St} {J : It} {it D : Addr} {tn : Nat → Heap → Prop} {R : Result → Shared → Prop} {Qd : Hp → Prop} (hc : X.calm = true) (hu : X.A.units + 1 < cLine)
    (T : Turn X.prog X.w X.K tg J fp it tn) (pg : PG (X.blk s0 H0 scope ce fp) tg g) (pt : PTs (X.blk s0 H0 scope ce fp) ifs tt) (pk : PE (X.blk s0 H0 scope ce fp) kx tk) (pv : PE (X.blk s0 H0 scope ce fp) vx tv) {W : Nat → Nat → Hp → Prop}
    (turn : ∀ i m H, W i m H → (J.stop i H ∧ Qd H) ∨ (J.go i H ∧ ∃ Nx : Hp → Prop, (∀ H', Nx H' → ∃ m', m' < m ∧ W (i + 1) m' H') ∧ ∀ x H', J.yld i H x H' → g x (wipe σ vs) H' fun σ2 H2 => wipe σ2 vs = wipe σ vs ∧ tt σ2 H2 fun b H3 =>
      if b = true then tk σ2 H3 fun y H4 => tv σ2 H4 fun z H5 => ∃ H6, DPut H5 D y z H6 ∧ Nx H6 else Nx H3))
    (fin : ∀ s H, Inv (X.blk s0 H0 scope ce fp) [] (wipe σ vs) H s → Qd H → R (.ok .next) s) {s : Shared} {H : Hp} {m : Nat} (I : Inv (X.blk s0 H0 scope ce fp) [] (wipe σ vs) H s) (st : tn 0 s.heap) (n : ∀ b ∈ fp, H b = none) (w : W 0 m H) :
    codeAny (model X.prog X.w) X.A (.compLoop (.DictComp kx vx [⟨tg, iter, ifs, 0⟩] sc pos) 0 (.ref it) (.ref D) ce) R s := by
  refine compLoop_anyD (fun m s => ∃ i H, Inv (X.blk s0 H0 scope ce fp) [] (wipe σ vs) H s ∧ tn i s.heap ∧ (∀ b ∈ fp, H b = none) ∧ W i m H) ?_ m ⟨0, H, I, st, n, w⟩
  clear I st n w
  rintro m s ⟨i, H, I, st, n, w⟩
  rcases turn i m H w with ⟨stop, q⟩ | ⟨go, Nx, less, step⟩
  · refine thnF (T.done (X.blk s0 H0 scope ce fp) rfl rfl rfl hc i [] s _ H _ I (own_fp (pins := []) I n) st stop) fun r s1 hr => ?_
    obtain ⟨rfl, I1⟩ := hr
    exact fin s1 H I1 q
  · refine thnF (T.item (X.blk s0 H0 scope ce fp) rfl rfl rfl hc i [] s _ H _ I (own_fp (pins := []) I n) st go) fun r s1 hr => ?_
    obtain ⟨u, rfl, hr⟩ := hr
    refine thnF hr fun _ s2 h2 => ?_
    obtain ⟨x, H2, I2, ru, y, st2, n2⟩ := h2
    refine thnF (pg.run _ s2 _ H2 x u _ (I2.pinned (own_fp (pins := []) I2 n2) (T.obj _ _ st2)) ru (step x H2 y)) fun _ s3 h3 => ?_
    obtain ⟨σ3, H3, I3, ew, q3⟩ := h3
    have next : ∀ s' H', Inv (X.blk s0 H0 scope ce fp) ([] ++ pinsAt fp s2.heap) σ3 H' s' → Nx H' → ∃ k, k < m ∧ ∃ i H, Inv (X.blk s0 H0 scope ce fp) [] (wipe σ vs) H s' ∧ tn i s'.heap ∧ (∀ b ∈ fp, H b = none) ∧ W i k H := fun s' H' I' nx => by
      obtain ⟨k, lk, w⟩ := less H' nx
      obtain ⟨e1, e2, e3⟩ := turn_end T ew st2 I'
      exact ⟨k, lk, i + 1, H', e1, e2, e3, w⟩
    refine thnF (pt.run _ s3 σ3 H3 _ I3 q3) fun b s4 h4 => ?_
    obtain ⟨H4, I4, q4⟩ := h4
    by_cases hb : b = true
    · rw [if_pos hb] at q4 ⊢
      refine thnF (pk.run _ s4 σ3 H4 _ I4 q4) fun v s5 h5 => ?_
      obtain ⟨yv, H5, I5, rv, q5⟩ := h5
      refine thnF (pv.run _ s5 σ3 H5 _ I5 q5) fun z s6 h6 => ?_
      obtain ⟨zv, H6, I6, rz, H7, put, nx⟩ := h6
      exact put_row (X := X.blk s0 H0 scope ce fp) hu I6 put rv rz fun s7 I7 => next s7 H7 I7 nx
    · rw [if_neg hb] at q4 ⊢
      exact next s4 H4 I4 q4
end
/-- the comprehension as a whole: the new dict laid, the block entered, its turns, and back -/
theorem row_all {o0 : HO} {pins : List (Addr × Obj)} {s : Shared} {σ : L2.St} {H : Hp} {Q : VK} {kx vx tg iter : Expr} {ifs : List Expr} {scope : Scope} {own : List (Str × Nat)} {pos pos' : Pos} {wi : TI} {g : TG} {tt : TT} {tk tv : TE} {use : Option (Value → Sem Unit)} {Qf : Value → Shared → Prop}
    (hc : X.calm = true) (hN : X.N.Nodup) (hu : X.A.units + 1 < cLine) (ho : ∀ (H : Hp) (h : Heap), sysModules < h.objs.size → ObjOk X.prog X.w H (h.push { cls := .type "dict", data := .dict #[] }) h.objs.size o0) (I : Inv X pins σ H s) (hi : PI X tg iter wi) (ok : BlkOk X.N X.env.scope scope own)
    (hg : ∀ (s : Shared) (H : Hp) (C : Addr) (cl : List (Str × Addr)) (fp : List Addr), PG (X.blk s H scope (compEnvC scope cl C X.env) fp) tg g) (ht : ∀ (s : Shared) (H : Hp) (C : Addr) (cl : List (Str × Addr)) (fp : List Addr), PTs (X.blk s H scope (compEnvC scope cl C X.env) fp) ifs tt)
    (hk : ∀ (s : Shared) (H : Hp) (C : Addr) (cl : List (Str × Addr)) (fp : List Addr), PE (X.blk s H scope (compEnvC scope cl C X.env) fp) kx tk) (hv : ∀ (s : Shared) (H : Hp) (C : Addr) (cl : List (Str × Addr)) (fp : List Addr), PE (X.blk s H scope (compEnvC scope cl C X.env) fp) vx tv) (hs : ∀ x, foldedSetIterable iter X.env x = pure x)
    (h : tRow o0 wi g tt tk tv (own.map (·.2)) σ H Q) (back : ∀ D C s' m H', Inv X pins σ H' s' → Q (.ref D) H' → s'.heap.Ns C m → FpOk X pins H' C → compPost (model X.prog X.w) X.A X.xe use Qf (.ref D) C (.ok .next) s') :
    wpAny (model X.prog X.w) X.A (comprehension (.DictComp kx vx [⟨tg, iter, ifs, 0⟩] scope pos) scope X.env pos' newDict false (eval iter X.env) use) Qf X.xe s := by
  refine wpAny_comprehension_free (use := use) rfl hs (closure_ok fun y hy e => (ok.free y hy e).elim (fun k => I.ok.has _ (.inl k)) fun k => I.ok.has _ (.inr k)) ok.kind (fun y hy e => by rw [ok.uniq y hy, e]) (thn (hi.run pins s σ H _ I h) fun _ _ w => thn w fun itv s2 w => ?_)
  obtain ⟨it, fp, tn, J, H2, rfl, I2, T, st2, f2, q⟩ := w
  refine wpAny_newObj_type (newEnv_comp ?_)
  have nD : H2 s2.heap.objs.size = none := I2.hok.fresh (Nat.le_refl _)
  obtain ⟨W, ⟨m0, w0⟩, turn⟩ := q s2.heap.objs.size nD
  have keep : ∀ b o, s2.heap.get? b = some o → (s2.heap.push { cls := .type "dict", data := .dict #[] }).get? b = some o := fun b o e => Heap.get?_push_of_some _ e
  have I3 := I2.laid (a := s2.heap.objs.size) (o := o0) (t' := s2.toks) keep (Nat.le_refl _) (ho _ s2.heap I2.big)
  have below : ∀ b ∈ fp, b < s2.heap.objs.size := fun b hb => (T.obj _ _ st2 b hb).elim fun o e => Heap.lt_size e.1
  have f3 : ∀ b ∈ fp, FpOk X pins (upd H2 s2.heap.objs.size o0) b ∧ b < (s2.heap.push { cls := .type "dict", data := .dict #[] }).objs.size := fun b hb => by
    have lt := below b hb
    have f := f2 b hb
    exact ⟨⟨by rw [upd_ne (Nat.ne_of_lt lt)]; exact f.1, f.2⟩, by rw [Heap.size_push]; exact Nat.lt_succ_of_lt lt⟩
  have I4 := block_start I3 ok hN f3
  have hgo := rounds (X := X) (s0 := { s2 with heap := s2.heap.push { cls := .type "dict", data := .dict #[] }, toks := s2.toks }) (H0 := upd H2 s2.heap.objs.size o0) (D := s2.heap.objs.size) (iter := iter) (pos := pos) (sc := scope) (vs := own.map (·.2)) (σ := σ)
    (R := compPost (model X.prog X.w) X.A X.xe use Qf (.ref s2.heap.objs.size) (s2.heap.push { cls := .type "dict", data := .dict #[] }).objs.size) hc hu T (hg _ _ _ _ fp) (ht _ _ _ _ fp) (hk _ _ _ _ fp) (hv _ _ _ _ fp) turn (fun s' H' I' q' => ?_) I4
    (T.keep _ _ _ st2 fun b hb o e => pushCells_keeps _ _ _ _ (Heap.get?_push_of_some _ (keep b o e))) (fun b hb => (f3 b hb).1.1) w0
  · exact codeAny_compStart_dict hgo (T.self X.A 0 _ _ _ (T.keep _ _ _ st2 fun b hb o e => pushCells_keeps _ _ _ _ (Heap.get?_push_of_some _ (keep b o e))) hgo)
  · obtain ⟨m, hn, _⟩ := I'.loc
    have nC : H' (s2.heap.push { cls := .type "dict", data := .dict #[] }).objs.size = none := I'.free
    exact back _ _ s' m H' (I3.call' (ch := fp) I'.os I'.base I'.hok I'.bare fun b hb => ⟨(f3 b hb).1.2.2.2.1, (f3 b hb).1.2.1, (f3 b hb).1.2.2.2.2.1, (f3 b hb).1.2.2.2.2.2⟩) q' hn (I3.fpOk (Nat.le_refl _) nC)
theorem pe_dcT {kx vx tg iter : Expr} {ifs : List Expr} {scope : Scope} {own : List (Str × Nat)} {pos : Pos} {wi : TI} {g : TG} {tt : TT} {tk tv : TE} (hc : X.calm = true) (hN : X.N.Nodup) (hu : X.A.units + 1 < cLine) (hi : PI X tg iter wi) (ok : BlkOk X.N X.env.scope scope own)
    (hg : ∀ (s : Shared) (H : Hp) (C : Addr) (cl : List (Str × Addr)) (fp : List Addr), PG (X.blk s H scope (compEnvC scope cl C X.env) fp) tg g) (ht : ∀ (s : Shared) (H : Hp) (C : Addr) (cl : List (Str × Addr)) (fp : List Addr), PTs (X.blk s H scope (compEnvC scope cl C X.env) fp) ifs tt)
    (hk : ∀ (s : Shared) (H : Hp) (C : Addr) (cl : List (Str × Addr)) (fp : List Addr), PE (X.blk s H scope (compEnvC scope cl C X.env) fp) kx tk) (hv : ∀ (s : Shared) (H : Hp) (C : Addr) (cl : List (Str × Addr)) (fp : List Addr), PE (X.blk s H scope (compEnvC scope cl C X.env) fp) vx tv)
    (hs : ∀ x, foldedSetIterable iter X.env x = pure x := by intro _; rfl) : PE X (.DictComp kx vx [⟨tg, iter, ifs, 0⟩] scope pos) (tRow (.dT []) wi g tt tk tv (own.map (·.2))) := by
  refine ⟨fun pins s σ H Q I h => ?_⟩
  rw [arm_eval_DictComp]
  refine row_all hc hN hu (fun H h z => dt_empty h z) I hi ok hg ht hk hv hs h fun D C s' m H' J q n f => ⟨m, n, fun h2 sb => ⟨.ref D, H', ?_, rfl, q⟩⟩
  exact J.turned (t' := s'.toks) (fun b o hb e => (sb.2 b hb).trans e) f.1 f.2.1 f.2.2.2.1 f.2.2.2.2.1 f.2.2.2.2.2
theorem ps_setDcT {i : Nat} {y : Str} {yp : Pos} {kx vx tg iter : Expr} {ifs : List Expr} {scope : Scope} {own : List (Str × Nat)} {pos sp : Pos} {wi : TI} {g : TG} {tt : TT} {tk tv : TE} (hc : X.calm = true) (hN : X.N.Nodup) (hy : X.N[i]? = some y) (hl : X.env.scope.names.lookup y = some .local)
    (hsw : swapsWith (.DictComp kx vx [⟨tg, iter, ifs, 0⟩] scope pos) (some (.Name y yp)) sp.line X.env = pure true) (hu : X.A.units + 1 < cLine) (hi : PI X tg iter wi) (ok : BlkOk X.N X.env.scope scope own)
    (hg : ∀ (s : Shared) (H : Hp) (C : Addr) (cl : List (Str × Addr)) (fp : List Addr), PG (X.blk s H scope (compEnvC scope cl C X.env) fp) tg g) (ht : ∀ (s : Shared) (H : Hp) (C : Addr) (cl : List (Str × Addr)) (fp : List Addr), PTs (X.blk s H scope (compEnvC scope cl C X.env) fp) ifs tt)
    (hk : ∀ (s : Shared) (H : Hp) (C : Addr) (cl : List (Str × Addr)) (fp : List Addr), PE (X.blk s H scope (compEnvC scope cl C X.env) fp) kx tk) (hv : ∀ (s : Shared) (H : Hp) (C : Addr) (cl : List (Str × Addr)) (fp : List Addr), PE (X.blk s H scope (compEnvC scope cl C X.env) fp) vx tv)
    (hs : ∀ x, foldedSetIterable iter X.env x = pure x := by intro _; rfl) : PS X (.Assign [.Name y yp] (.DictComp kx vx [⟨tg, iter, ifs, 0⟩] scope pos) sp) (tAsg (tRow (.dT []) wi g tt tk tv (own.map (·.2))) (gName i)) := by
  refine ⟨fun pins s σ H D I z => ?_⟩
  rw [exec_Assign_Name_used _ _ _ _ hsw]
  refine wpAny_bind (wpAny_standAt (wpAny_bind ?_))
  show wpAny _ X.A (do let _ ← comprehension (.DictComp kx vx [⟨tg, iter, ifs, 0⟩] scope pos) scope X.env (firstIterPos [⟨tg, iter, ifs, 0⟩] pos) newDict false (eval iter X.env) (some (assign (.Name y yp) X.env))) _ _ s
  have z : tRow (.dT []) wi g tt tk tv (own.map (·.2)) σ H (fun x H1 => gName i x σ H1 D.nx) := z
  refine wpAny_bind (thn (row_all (Qf := fun _ s' => SP X pins D .next s') hc hN hu (fun H h z => dt_empty h z) I hi ok hg ht hk hv hs z fun L C s' m H' J q ns fp => ?_) fun _ s' q => wpAny_pure (wpAny_pure q))
  show wpAny _ _ (assign (.Name y yp) X.env (.ref L)) _ _ _
  refine wpAny_assign_Name (store_ok2 (v := V.ref L) J hN hy (.inl hl) rfl (fun s2 J2 ⟨a, sb, al⟩ => ?_) (.inr hl))
  have nCa : C ≠ a := by
    rcases al with w | w
    · rw [w]; exact fp.2.1
    · exact fun q => fp.2.2.2.2.1 y a w q.symm
  exact ⟨m, ns.sameBut sb nCa, fun h3 sb3 => ⟨_, H', J2.turned (t' := s2.toks) (fun b o hb w => (sb3.2 b hb).trans w) fp.1 fp.2.1 fp.2.2.2.1 fp.2.2.2.2.1 fp.2.2.2.2.2, q⟩⟩
end
end DCT
namespace M
open PySem PySem.Spec PyProof.Rows L2
variable {G : Env} {W : WX} {S : Sta} {E : L2.St → XK}
def mDcTL (a : FG) (tt : FT) (fk fv : FE) (τ : LS) : List (List Key × T) → List T → AH → Res (List (List Key × T))
  | m, [], h => .ok m h
  | m, x :: xs, h => match a x τ with
    | some τ' => (tt τ' h).bind fun b h1 => if b = true then
        (fk τ' h1).bind fun y h2 => (fv τ' h2).bind fun z h3 => match keysOf y with
          | some k => if m.length < sizeLine then mDcTL a tt fk fv τ (putT m k z) xs h3 else .bad
          | none => .bad
      else mDcTL a tt fk fv τ m xs h1
    | none => .bad
@[simp] def mDcT (vs : List Nat) (fi : FA) (a : FG) (tt : FT) (fk fv : FE) : FE := fun τ h => (fi τ h).bind fun l h1 => (mDcTL a tt fk fv (wipeT τ vs) [] l h1).bind fun m h2 => .ok (.dctT (m.map (·.1)) (m.map (·.2))) h2
@[simp] def mDcTO (vs : List Nat) (fi : FA) (a : FG) (tt : FT) (fk fv : FE) : FE := fun τ h => (fi τ h).bind fun l h1 => (mDcTL a tt fk fv (wipeT τ vs) [] l h1).bind fun m h2 => .ok (.obj h2.length) (h2 ++ [some (.dctT m)])
theorem dcT_all {wi : TI} {fi : FA} {g : TG} {a : FG} {tt : TT} {ft : FT} {tk tv : TE} {fk fv : FE} {vs : List Nat} (hg : SimGw G vs g a) (ht : SimT G ET tt ft) (hk : SimE G ET tk fk) (hw : SimE G ET tv fv) (hv : ∀ v ∈ vs, NoSl G v)
    (S : Sta) (σ : L2.St) (τ : LS) (Q : VK) (e : S.G = G) (k : Ok S) (rs : RS S τ σ) (hi : ∀ R, PostG S (XP (E σ)) (fun l S' => ∀ J, ItOk S' J l → R J S'.H) (fi τ S.h) → wi σ S.H R) (fin : List (List Key × T) → AH → Res T) (p : PostG S (XP (E σ)) (fun t S' => ∀ v, Rv S' t v → Q v S'.H) ((fi τ S.h).bind fun l h1 => (mDcTL a ft fk fv (wipeT τ vs) [] l h1).bind fin))
    (hfin : ∀ (S0 S : Sta) (m : List (List Key × T)) (ws : List (List Key × V)) (D : Addr), S0.G = G → Ok S0 → Ok S → Priv S0 S D → S.H D = some (.dT ws) → RvK S m ws → PostG S0 (fun _ _ => True) (fun t S' => ∀ v, Rv S' t v → Q v S'.H) (fin m S.h) → Q (.ref D) S.H) : DCT.tRow (.dT []) wi g tt tk tv vs σ S.H Q := by
  refine hi _ (PostG.imp (fun l S1 q J hJ D hD => ?_) (PostG.bind p))
  obtain ⟨k1, s1, q⟩ := q
  have e1 := s1.G.trans e
  have rw1 := (rs.mono s1).wipe vs (by rw [s1.G, e]; exact hv)
  have q := PostG.pnd q
  refine ⟨fun i n H => ∃ S acc ws, S.H = H ∧ Ok S ∧ Priv S1 S D ∧ S.H D = some (.dT ws) ∧ RvK S acc ws ∧ n = l.length - i ∧ i ≤ l.length ∧
    Pnd (fun m h => PostG S1 (fun _ _ => True) (fun t S' => ∀ v, Rv S' t v → Q v S'.H) (fin m h)) (mDcTL a ft fk fv (wipeT τ vs) acc (l.drop i) S.h), ⟨l.length, S1.hide D (upd S1.H D (.dT [])), [], [], rfl, ok_hide k1 hD, Priv.start k1 hD, upd_same, rfl, by simp, Nat.zero_le _, q⟩, ?_⟩
  rintro i n H ⟨S, acc, ws, rfl, k, x, hDS, rl, rfl, hi, p⟩
  have trS := x.tr
  obtain ⟨go, stop⟩ := hJ S trS k i
  have eS := trS.G.trans e1
  by_cases hl : i < l.length
  · right
    have hx : l[i]? = some l[i] := List.getElem?_eq_getElem hl
    obtain ⟨g1, g2⟩ := go _ hx
    refine ⟨g1, fun H' => ∃ S acc ws, S.H = H' ∧ Ok S ∧ Priv S1 S D ∧ S.H D = some (.dT ws) ∧ RvK S acc ws ∧
      Pnd (fun m h => PostG S1 (fun _ _ => True) (fun t S' => ∀ v, Rv S' t v → Q v S'.H) (fin m h)) (mDcTL a ft fk fv (wipeT τ vs) acc (l.drop (i + 1)) S.h), ?_, ?_⟩
    · rintro H' ⟨S2, acc2, ws2, e2, k2, x2, h2, r2, p2⟩
      exact ⟨l.length - (i + 1), by omega, S2, acc2, ws2, e2, k2, x2, h2, r2, rfl, hl, p2⟩
    · intro v H' hy
      obtain ⟨S2, rfl, hh, k2, st2, rv⟩ := g2 v H' hy
      have x2 := x.step k1 k k2 st2
      have hD2 : S2.H D = some (.dT ws) := (st2.pk D (by rw [x.pv]; exact List.mem_cons_self)).trans hDS
      rw [List.drop_eq_getElem_cons hl] at p
      unfold mDcTL at p
      split at p
      · rename_i τ' hτ
        refine hg S2 _ v _ τ' (wipe σ vs) _ (st2.G.trans eS) k2 rv (RS.tr (x2.tr) rw1) hτ fun σ2 rs2 ew => ⟨by rw [ew, wipe_wipe], ?_⟩
        rw [← hh] at p
        refine ht S2 σ2 τ' _ (st2.G.trans eS) k2 rs2 (PostG.exc (fun _ _ _ _ _ _ => trivial) (PostG.imp (fun b S3 q => ?_) (Pnd.post (Pnd.bind p))))
        obtain ⟨k3, s3, q⟩ := q
        have x3 := x2.step k1 k2 k3 s3
        have hD3 : S3.H D = some (.dT ws) := (s3.pk D (by rw [x2.pv]; exact List.mem_cons_self)).trans hD2
        cases b with
        | false =>
          rw [if_neg Bool.false_ne_true] at q
          rw [if_neg Bool.false_ne_true]
          exact ⟨S3, acc, ws, rfl, k3, x3, hD3, rl.mono (st2.trans s3), q⟩
        | true =>
          rw [if_pos rfl] at q
          rw [if_pos rfl]
          have e3 := s3.G.trans (st2.G.trans eS)
          refine hk S3 σ2 τ' _ e3 k3 (rs2.mono s3) (PostG.exc (fun _ _ _ _ _ _ => trivial) (PostG.imp (fun y S4 q u ru => ?_) (Pnd.post (Pnd.bind q))))
          obtain ⟨k4, s4, q⟩ := q
          have x4 := x3.step k1 k3 k4 s4
          have e4 := s4.G.trans e3
          have hD4 : S4.H D = some (.dT ws) := (s4.pk D (by rw [x3.pv]; exact List.mem_cons_self)).trans hD3
          refine hw S4 σ2 τ' _ e4 k4 ((rs2.mono s3).mono s4) (PostG.exc (fun _ _ _ _ _ _ => trivial) (PostG.imp (fun z S5 q w rz => ?_) (Pnd.post (Pnd.bind q))))
          obtain ⟨k5, s5, q⟩ := q
          have x5 := x4.step k1 k4 k5 s5
          have hp5 : D ∈ S5.pv := by rw [x5.pv]; exact List.mem_cons_self
          have hD5 : S5.H D = some (.dT ws) := (s5.pk D (by rw [x4.pv]; exact List.mem_cons_self)).trans hD4
          have rl5 := rl.mono (((st2.trans s3).trans s4).trans s5)
          split at q
          · rename_i ky hky
            split at q
            · rename_i hz
              obtain ⟨b, rfl, hb⟩ := keysOf_ok (ru.mono s5) hky
              exact ⟨_, DPut.t hD5 hb (by rw [rl.len]; exact hz), S5.fill (upd S5.H D (.dT (putK ws ky w))), putT acc ky z, putK ws ky w, rfl, ok_fill k5 hp5, x5.fill k1, upd_same, (rl5.put ky rz).tr (tr_fill hp5), q⟩
            · exact q.elim
          · exact q.elim
      · exact p.elim
  · left
    refine ⟨stop (by omega), ?_⟩
    rw [List.drop_eq_nil_of_le (by omega)] at p
    exact hfin S1 S acc ws D e1 k1 k x hDS rl p
theorem rv_dctT {p : Addr} {m : List (List Key × T)} {vs : List (List Key × V)} (f : Fz S p (.dT vs)) (r : RvK S m vs) : Rv S (.dctT (m.map (·.1)) (m.map (·.2))) (.ref p) := by
  obtain ⟨ws, rfl, rl⟩ := r.unzip
  simp only [Rv]
  exact ⟨p, ws, rfl, f, by rw [List.length_map, List.length_map], rl⟩
theorem sim_dcT {wi : TI} {fi : FA} {g : TG} {a : FG} {tt : TT} {ft : FT} {tk tv : TE} {fk fv : FE} {vs : List Nat} (hi : SimI G E wi fi) (hg : SimGw G vs g a) (ht : SimT G ET tt ft) (hk : SimE G ET tk fk) (hw : SimE G ET tv fv) (hv : ∀ v ∈ vs, NoSl G v := by first | exact fun _ _ => noSl_none rfl | exact fun v hv => noSl_ne (by revert v; decide) | assumption) : SimE G E (DCT.tRow (.dT []) wi g tt tk tv vs) (mDcT vs fi a ft fk fv) := fun S σ τ Q e k rs p => by
  refine dcT_all hg ht hk hw hv S σ τ Q e k rs (fun R => hi S σ τ R e k rs) _ p fun S0 S m ws D _ k0 k x hD r q => ?_
  have e := x.pv
  exact q (S.show S0.pv) rfl (ok_show k e) x.st _ (rv_dctT ⟨hD, x.nown k0 k⟩ (r.tr (tr_show e)))
theorem sim_dcTO {wi : TI} {fi : FA} {g : TG} {a : FG} {tt : TT} {ft : FT} {tk tv : TE} {fk fv : FE} {vs : List Nat} (hi : SimI G E wi fi) (hg : SimGw G vs g a) (ht : SimT G ET tt ft) (hk : SimE G ET tk fk) (hw : SimE G ET tv fv) (hv : ∀ v ∈ vs, NoSl G v := by first | exact fun _ _ => noSl_none rfl | exact fun v hv => noSl_ne (by revert v; decide) | assumption) : SimE G E (DCT.tRow (.dT []) wi g tt tk tv vs) (mDcTO vs fi a ft fk fv) := fun S σ τ Q e k rs p => by
  refine dcT_all hg ht hk hw hv S σ τ Q e k rs (fun R => hi S σ τ R e k rs) _ p fun S0 S m ws D _ k0 k x hD r q => ?_
  obtain ⟨k', st⟩ := x.adopt (o := .dctT m) k0 k hD ⟨_, rfl, r⟩
  exact q (S.adopt S0.pv D _) rfl k' st _ (by simp only [Rv]; exact ⟨D, by simp [Sta.adopt, k.len], rfl⟩)
section
variable {τ : LS} {h : AH} {P : T → AH → Prop} {X : Exc → AH → Prop}
@[simp ↓] theorem w_dcT {vs : List Nat} {fi : FA} {a : FG} {tt : FT} {fk fv : FE} : Wp (mDcT vs fi a tt fk fv τ h) P X = Wp (fi τ h) (fun l h1 => Wp (mDcTL a tt fk fv (wipeT τ vs) [] l h1) (fun m h2 => P (.dctT (m.map (·.1)) (m.map (·.2))) h2) X) X := by
  unfold mDcT
  rw [wp_bind]
  refine propext ⟨fun w => w.mono (fun x h1 w => ?_) (fun _ _ h => h), fun w => w.mono (fun x h1 w => ?_) (fun _ _ h => h)⟩
  · rw [wp_bind] at w; exact w
  · rw [wp_bind]; exact w
@[simp ↓] theorem w_dcTO {vs : List Nat} {fi : FA} {a : FG} {tt : FT} {fk fv : FE} : Wp (mDcTO vs fi a tt fk fv τ h) P X = Wp (fi τ h) (fun l h1 => Wp (mDcTL a tt fk fv (wipeT τ vs) [] l h1) (fun m h2 => P (.obj h2.length) (h2 ++ [some (.dctT m)])) X) X := by
  unfold mDcTO
  rw [wp_bind]
  refine propext ⟨fun w => w.mono (fun x h1 w => ?_) (fun _ _ h => h), fun w => w.mono (fun x h1 w => ?_) (fun _ _ h => h)⟩
  · rw [wp_bind] at w; exact w
  · rw [wp_bind]; exact w
/-- one that keeps the heap -/
theorem dcT_seq {PM : List (List Key × T) → AH → Prop} {α : Type} {g : α → T} {kf : α → List Key} {vf : α → T} {a : FG} {fk fv : FE} {xs : List α} {m : List (List Key × T)} (hn : m.length + xs.length ≤ sizeLine)
    (hf : ∀ x ∈ xs, ∃ τ', a (g x) τ = some τ' ∧ Wp (fk τ' h) (fun y h2 => keysOf y = some (kf x) ∧ h2 = h) (fun _ _ => False) ∧ Wp (fv τ' h) (fun y h2 => y = vf x ∧ h2 = h) (fun _ _ => False))
    (he : PM (xs.foldl (fun m x => putT m (kf x) (vf x)) m) h) : Wp (mDcTL a mYes fk fv τ m (xs.map g) h) PM X := by
  have e : mDcTL a mYes fk fv τ m (xs.map g) h = .ok (xs.foldl (fun m x => putT m (kf x) (vf x)) m) h := by
    clear he
    induction xs generalizing m with
    | nil => rfl
    | cons x xs ih =>
      rw [List.length_cons] at hn
      obtain ⟨τ', ha, w1, w2⟩ := hf x List.mem_cons_self
      obtain ⟨y, h1, e1, k1, rfl⟩ := w1.ok
      obtain ⟨z, h2, e2, rfl, rfl⟩ := w2.ok
      have pl := putT_len1 (m := m) (k := kf x) (v := vf x)
      rw [List.map_cons]
      unfold mDcTL
      simp only [ha, mYes, bind_ok, if_true, e1, e2, k1]
      rw [if_pos (by omega), ih (by omega) (fun y hy => hf y (List.mem_cons_of_mem _ hy))]
      rfl
  exact Wp.of e he
end
end M
/-! a comprehension over a tracked list: each turn looks at it anew -/
namespace M
open PySem PySem.Spec PyProof.Rows L2
variable {G : Env} {W : WX} {S : Sta} {E : L2.St → XK}
def mLcLv (a : FG) (tt : FT) (fe : FE) (τ : LS) (j : Nat) : Nat → Nat → Nat → AH → Res (List T)
  | 0, _, _, _ => .bad
  | f + 1, i, n, h => match h[j]? with
    | some (some (.lst l)) => match l[i]? with
      | none => .ok [] h
      | some x => match a x τ with
        | some τ' => (tt τ' h).bind fun b h1 => if b = true then
            (fe τ' h1).bind fun y h2 => if n < sizeLine then (mLcLv a tt fe τ j f (i + 1) (n + 1) h2).bind fun ys h3 => .ok (y :: ys) h3 else .bad
          else mLcLv a tt fe τ j f (i + 1) n h1
        | none => .bad
    | _ => .bad
def mLcX (a : FG) (tt : FT) (fe : FE) (τ : LS) (x : T) (h : AH) : Res (List T) := match x with
  | .obj j => mLcLv a tt fe τ j LIVE 0 0 h
  | .lst l => mLcL a tt fe τ 0 l h
  | _ => .bad
@[simp] def mLcV (vs : List Nat) (fo : FE) (a : FG) (tt : FT) (fe : FE) : FE := fun τ h => (fo τ h).bind fun x h1 => (mLcX a tt fe (wipeT τ vs) x h1).bind fun ys h2 => .ok (.lst ys) h2
@[simp] def mLcVO (vs : List Nat) (fo : FE) (a : FG) (tt : FT) (fe : FE) : FE := fun τ h => (fo τ h).bind fun x h1 => (mLcX a tt fe (wipeT τ vs) x h1).bind fun ys h2 => .ok (.obj h2.length) (h2 ++ [some (.lst ys)])
theorem lcv_all {to : TE} {fo : FE} {g : TG} {a : FG} {tt : TT} {ft : FT} {te : TE} {fe : FE} {vs : List Nat} (ho : SimE G E to fo) (hg : SimGw G vs g a) (ht : SimT G ET tt ft) (he : SimE G ET te fe) (hv : ∀ v ∈ vs, NoSl G v)
    (S : Sta) (σ : L2.St) (τ : LS) (Q : VK) (e : S.G = G) (k : Ok S) (rs : RS S τ σ) (fin : List T → AH → Res T) (p : PostG S (XP (E σ)) (fun t S' => ∀ v, Rv S' t v → Q v S'.H) ((fo τ S.h).bind fun x h1 => (mLcX a ft fe (wipeT τ vs) x h1).bind fin))
    (hfin : ∀ (S0 S : Sta) (ys : List T) (ws : List V) (D : Addr), S0.G = G → Ok S0 → Ok S → Priv S0 S D → S.H D = some (.lst ws) → RvL S ys ws → PostG S0 (fun _ _ => True) (fun t S' => ∀ v, Rv S' t v → Q v S'.H) (fin ys S.h) → Q (.ref D) S.H) : tLc (iList G.K to) g tt te vs σ S.H Q := by
  refine ho S σ τ _ e k rs (PostG.imp (fun x S1 q u ru => ?_) (PostG.bind p))
  obtain ⟨k1, s1, q⟩ := q
  have e1 := s1.G.trans e
  unfold mLcX at q
  split at q
  · rename_i j
    have rw1 := (rs.mono s1).wipe vs (by rw [s1.G, e]; exact hv)
    have q := PostG.pnd q
    have q0 := q
    unfold LIVE mLcLv at q
    split at q
    · rename_i l hl
      clear q
      obtain ⟨ad, vs0, rfl, hal, hp, rl0⟩ := obj_lst k1 hl ru
      refine ⟨ad, rfl, ⟨vs0, .of hp⟩, fun D hD => ?_⟩
      refine ⟨fun i m H => ∃ S acc ws, S.H = H ∧ Ok S ∧ Priv S1 S D ∧ S.H D = some (.lst ws) ∧ RvL S acc ws ∧
        Pnd (fun ys h => PostG S1 (fun _ _ => True) (fun t S' => ∀ v, Rv S' t v → Q v S'.H) (fin (acc ++ ys) h)) (mLcLv a ft fe (wipeT τ vs) j m i acc.length S.h), ⟨LIVE, S1.hide D (upd S1.H D (.lst [])), [], [], rfl, ok_hide k1 hD, Priv.start k1 hD, upd_same, RvL.nil, q0⟩, ?_⟩
      rintro i m H ⟨S, acc, ws, rfl, k, x, hDS, rl, p⟩
      have trS := x.tr
      have eS := trS.G.trans e1
      have ruS := ru.tr trS
      cases m with
      | zero => exact p.elim
      | succ m =>
        unfold mLcLv at p
        split at p
        · rename_i l hl
          obtain ⟨ad', vsl, ep, _, hp', rlS⟩ := obj_lst k hl ruS
          obtain rfl := V.ref.inj ep
          have sq : SqL G.K S.H ad vsl := .of hp'
          split at p
          · rename_i hx
            refine .inl ⟨⟨vsl, sq, by rw [rlS.len]; exact List.getElem?_eq_none_iff.mp hx⟩, ?_⟩
            have p : PostG _ _ _ (fin (acc ++ []) S.h) := p
            rw [List.append_nil] at p
            exact hfin S1 S acc ws D e1 k1 k x hDS rl p
          · rename_i y hx
            obtain ⟨v, hv', rv⟩ := rlS.get hx
            refine .inr ⟨⟨vsl, v, sq, hv'⟩, fun H' => ∃ S acc ws, S.H = H' ∧ Ok S ∧ Priv S1 S D ∧ S.H D = some (.lst ws) ∧ RvL S acc ws ∧
              Pnd (fun ys h => PostG S1 (fun _ _ => True) (fun t S' => ∀ v, Rv S' t v → Q v S'.H) (fin (acc ++ ys) h)) (mLcLv a ft fe (wipeT τ vs) j m (i + 1) acc.length S.h), ?_, ?_⟩
            · rintro H' ⟨S2, acc2, ws2, e2, k2, x2, h2, r2, p2⟩
              exact ⟨m, Nat.lt_succ_self m, S2, acc2, ws2, e2, k2, x2, h2, r2, p2⟩
            · rintro w H' ⟨rfl, hy⟩
              have hw := hy vsl sq
              rw [hv'] at hw; cases hw
              split at p
              · rename_i τ' hτ
                refine hg S _ v _ τ' (wipe σ vs) _ eS k rv (RS.tr trS rw1) hτ fun σ2 rs2 ew => ⟨by rw [ew, wipe_wipe], ?_⟩
                refine ht S σ2 τ' _ eS k rs2 (PostG.exc (fun _ _ _ _ _ _ => trivial) (PostG.imp (fun b S3 q => ?_) (Pnd.post (Pnd.bind p))))
                obtain ⟨k3, s3, q⟩ := q
                have x3 := x.step k1 k k3 s3
                have hD3 : S3.H D = some (.lst ws) := (s3.pk D (by rw [x.pv]; exact List.mem_cons_self)).trans hDS
                cases b with
                | false =>
                  rw [if_neg Bool.false_ne_true] at q
                  rw [if_neg Bool.false_ne_true]
                  exact ⟨S3, acc, ws, rfl, k3, x3, hD3, rl.mono s3, q⟩
                | true =>
                  rw [if_pos rfl] at q
                  rw [if_pos rfl]
                  have e3 := s3.G.trans eS
                  refine he S3 σ2 τ' _ e3 k3 (rs2.mono s3) (PostG.exc (fun _ _ _ _ _ _ => trivial) (PostG.imp (fun z S4 q w rw' => ?_) (Pnd.post (Pnd.bind q))))
                  obtain ⟨k4, s4, q⟩ := q
                  have x4 := x3.step k1 k3 k4 s4
                  have hp4 : D ∈ S4.pv := by rw [x4.pv]; exact List.mem_cons_self
                  have hD4 : S4.H D = some (.lst ws) := (s4.pk D (by rw [x3.pv]; exact List.mem_cons_self)).trans hD3
                  have rl4 := rl.mono (s3.trans s4)
                  split at q
                  · rename_i hz
                    refine ⟨ws, hD4, by rw [rl.len]; exact hz, S4.fill (upd S4.H D (.lst (ws ++ [w]))), acc ++ [z], ws ++ [w], rfl, ok_fill k4 hp4, x4.fill k1, upd_same, (rl4.snoc rw').tr (tr_fill hp4), ?_⟩
                    rw [List.length_append]
                    have q := Pnd.bind q
                    show Pnd _ (mLcLv a ft fe (wipeT τ vs) j m (i + 1) (acc.length + 1) S4.h)
                    cases hr : mLcLv a ft fe (wipeT τ vs) j m (i + 1) (acc.length + 1) S4.h with
                    | bad => rw [hr] at q; exact q.elim
                    | exc e h' => exact trivial
                    | ok ys h' =>
                      rw [hr] at q
                      show PostG _ _ _ (fin ((acc ++ [z]) ++ ys) h')
                      rw [List.append_assoc]
                      exact q
                  · exact q.elim
              · exact p.elim
        · exact p.elim
    · exact q.elim
  · rename_i l
    simp only [Rv] at ru
    obtain ⟨p, vsl, rfl, f, rl⟩ := ru
    refine ⟨p, rfl, ⟨vsl, by rw [← e1]; exact sql_of f⟩, ?_⟩
    have := lc_all (wi := fun σ H R => ∀ J, ItOk S1 J l → R J H) (fi := fun _ h => .ok l h) (E := E) hg ht he hv S1 σ τ Q e1 k1 (rs.mono s1) (fun R q => q S1 rfl k1 (Step.refl S1)) fin (by simpa using q) hfin
    exact this _ (it_list e1 f rl)
  · exact q.elim
theorem sim_lcV {to : TE} {fo : FE} {g : TG} {a : FG} {tt : TT} {ft : FT} {te : TE} {fe : FE} {vs : List Nat} (ho : SimE G E to fo) (hg : SimGw G vs g a) (ht : SimT G ET tt ft) (he : SimE G ET te fe) (hv : ∀ v ∈ vs, NoSl G v := by first | exact fun _ _ => noSl_none rfl | exact fun v hv => noSl_ne (by revert v; decide) | assumption) : SimE G E (tLc (iList G.K to) g tt te vs) (mLcV vs fo a ft fe) := fun S σ τ Q e k rs p => by
  refine lcv_all ho hg ht he hv S σ τ Q e k rs _ p fun S0 S ys ws D _ k0 k x hD r q => ?_
  have e := x.pv
  exact q (S.show S0.pv) rfl (ok_show k e) x.st _ (rv_lst ⟨hD, x.nown k0 k⟩ (r.tr (tr_show e)))
theorem sim_lcVO {to : TE} {fo : FE} {g : TG} {a : FG} {tt : TT} {ft : FT} {te : TE} {fe : FE} {vs : List Nat} (ho : SimE G E to fo) (hg : SimGw G vs g a) (ht : SimT G ET tt ft) (he : SimE G ET te fe) (hv : ∀ v ∈ vs, NoSl G v := by first | exact fun _ _ => noSl_none rfl | exact fun v hv => noSl_ne (by revert v; decide) | assumption) : SimE G E (tLc (iList G.K to) g tt te vs) (mLcVO vs fo a ft fe) := fun S σ τ Q e k rs p => by
  refine lcv_all ho hg ht he hv S σ τ Q e k rs _ p fun S0 S ys ws D _ k0 k x hD r q => ?_
  obtain ⟨k', st⟩ := x.adopt (o := .lst ys) k0 k hD ⟨_, rfl, r⟩
  exact q (S.adopt S0.pv D _) rfl k' st _ (by simp only [Rv]; exact ⟨D, by simp [Sta.adopt, k.len], rfl⟩)
section
variable {τ : LS} {h : AH} {P : T → AH → Prop} {X : Exc → AH → Prop}
@[simp ↓] theorem w_lcV {vs : List Nat} {fo : FE} {a : FG} {tt : FT} {fe : FE} : Wp (mLcV vs fo a tt fe τ h) P X = Wp (fo τ h) (fun x h1 => Wp (mLcX a tt fe (wipeT τ vs) x h1) (fun ys h2 => P (.lst ys) h2) X) X := by
  unfold mLcV
  rw [wp_bind]
  refine propext ⟨fun w => w.mono (fun x h1 w => ?_) (fun _ _ h => h), fun w => w.mono (fun x h1 w => ?_) (fun _ _ h => h)⟩
  · rw [wp_bind] at w; exact w
  · rw [wp_bind]; exact w
@[simp ↓] theorem w_lcVO {vs : List Nat} {fo : FE} {a : FG} {tt : FT} {fe : FE} : Wp (mLcVO vs fo a tt fe τ h) P X = Wp (fo τ h) (fun x h1 => Wp (mLcX a tt fe (wipeT τ vs) x h1) (fun ys h2 => P (.obj h2.length) (h2 ++ [some (.lst ys)])) X) X := by
  unfold mLcVO
  rw [wp_bind]
  refine propext ⟨fun w => w.mono (fun x h1 w => ?_) (fun _ _ h => h), fun w => w.mono (fun x h1 w => ?_) (fun _ _ h => h)⟩
  · rw [wp_bind] at w; exact w
  · rw [wp_bind]; exact w
/-- one that keeps the heap -/
theorem lcv_all_eq {a : FG} {tt : FT} {fe : FE} {j : Nat} {l : List T} (hj : h[j]? = some (some (.lst l))) (hz : l.length ≤ 90000) {f : T → T} {c : T → Bool}
    (hf : ∀ x ∈ l, ∃ τ', a x τ = some τ' ∧ tt τ' h = .ok (c x) h ∧ (c x = true → fe τ' h = .ok (f x) h)) : mLcX a tt fe τ (.obj j) h = .ok ((l.filter c).map f) h := by
  have key : ∀ (m i n : Nat), l.length - i < m → n ≤ i → mLcLv a tt fe τ j m i n h = .ok (((l.drop i).filter c).map f) h := by
    intro m
    induction m with
    | zero => intro i n hm; omega
    | succ m ih =>
      intro i n hm hn
      unfold mLcLv
      simp only [hj]
      by_cases hi : i < l.length
      · have hx : l[i]? = some l[i] := List.getElem?_eq_getElem hi
        obtain ⟨τ', ha, h1, h2⟩ := hf l[i] (List.getElem_mem hi)
        have hs : n < sizeLine := by rw [PySem.sizeLine_eq]; omega
        rw [List.drop_eq_getElem_cons hi]
        simp only [hx, ha, h1, bind_ok]
        by_cases hc : c l[i] = true
        · rw [if_pos hc, h2 hc, bind_ok, if_pos hs, ih (i + 1) (n + 1) (by omega) (by omega), bind_ok, List.filter_cons_of_pos hc, List.map_cons]
        · rw [if_neg hc, ih (i + 1) n (by omega) (by omega), List.filter_cons_of_neg hc]
      · have hx : l[i]? = none := List.getElem?_eq_none (by omega)
        rw [List.drop_eq_nil_of_le (by omega)]
        simp only [hx]
        rfl
  have := key LIVE 0 0 (by unfold LIVE; omega) (Nat.le_refl _)
  rw [List.drop_zero] at this
  exact this
theorem lcv_eq {α : Type} {g f : α → T} {c : α → Bool} {xs : List α} {a : FG} {tt : FT} {fe : FE} {j : Nat} (hj : h[j]? = some (some (.lst (xs.map g)))) (hz : xs.length ≤ 90000)
    (hf : ∀ x ∈ xs, ∃ τ', a (g x) τ = some τ' ∧ tt τ' h = .ok (c x) h ∧ (c x = true → fe τ' h = .ok (f x) h)) : mLcX a tt fe τ (.obj j) h = .ok ((xs.filter c).map f) h := by
  have key : ∀ (m i n : Nat), xs.length - i < m → n ≤ i → mLcLv a tt fe τ j m i n h = .ok (((xs.drop i).filter c).map f) h := by
    intro m
    induction m with
    | zero => intro i n hm; omega
    | succ m ih =>
      intro i n hm hn
      unfold mLcLv
      simp only [hj]
      by_cases hi : i < xs.length
      · have hx : (xs.map g)[i]? = some (g xs[i]) := by rw [List.getElem?_map, List.getElem?_eq_getElem hi]; rfl
        obtain ⟨τ', ha, h1, h2⟩ := hf xs[i] (List.getElem_mem hi)
        have hs : n < sizeLine := by rw [PySem.sizeLine_eq]; omega
        rw [List.drop_eq_getElem_cons hi]
        simp only [hx, ha, h1, bind_ok]
        by_cases hc : c xs[i] = true
        · rw [if_pos hc, h2 hc, bind_ok, if_pos hs, ih (i + 1) (n + 1) (by omega) (by omega), bind_ok, List.filter_cons_of_pos hc, List.map_cons]
        · rw [if_neg hc, ih (i + 1) n (by omega) (by omega), List.filter_cons_of_neg hc]
      · have hx : (xs.map g)[i]? = none := List.getElem?_eq_none (by rw [List.length_map]; omega)
        rw [List.drop_eq_nil_of_le (by omega)]
        simp only [hx]
        rfl
  have := key LIVE 0 0 (by unfold LIVE; omega) (Nat.le_refl _)
  rw [List.drop_zero] at this
  exact this
end
/-! x in l, l tracked, its items tuples -/
def toDO : T → AH → Option PyData
  | .obj i, h => match h[i]? with | some (some (.lst l)) => (toDL l).map .list | _ => none
  | x, _ => toD x
theorem toDO_ok {x : T} {v : V} {d : PyData} (k : Ok S) (r : Rv S x v) (h : toDO x S.h = some d) : Dp S.G.K S.H v d := by
  unfold toDO at h
  split at h
  · rename_i i _
    split at h
    · rename_i l hl
      obtain ⟨ds, h1, rfl⟩ := Option.map_eq_some_iff.mp h
      obtain ⟨ad, vs, rfl, _, hp, rl⟩ := obj_lst k hl r
      exact .lst (.of hp) (toDL_ok rl h1)
    · cases h
  · exact toD_ok r h
def gInDH (neg : Bool) (x y : T) (h : AH) : Option T := match toD x, toDO y h with
  | some d, some (.list ds) => if SeqAt.shaped d = true ∧ SeqAt.shaped (.list ds) = true then some (.bl (if neg then !ds.any fun z => PyData.eqv z d else ds.any fun z => PyData.eqv z d)) else none
  | _, _ => none
@[simp] abbrev oInDH : T → T → AH → Res T := fun x y h => pur (gInDH false x y h) h
@[simp] abbrev oNinDH : T → T → AH → Res T := fun x y h => pur (gInDH true x y h) h
theorem so_inDH : SimR2 G (rInD G.K) oInDH := fun S x y u v X Q e k ru rv p => by
  unfold oInDH pur at p
  split at p
  · rename_i t ht
    unfold gInDH at ht
    split at ht
    · rename_i d ds hd he
      split at ht
      · rename_i hs
        cases ht
        have a := toD_ok ru hd
        have c := toDO_ok k rv he
        rw [e] at a c
        exact ⟨d, ds, a, c, hs.1, hs.2, p S rfl k (Step.refl S) _ (by simp)⟩
      · cases ht
    · cases ht
  · exact p.elim
theorem so_ninDH : SimR2 G (rNotInD G.K) oNinDH := fun S x y u v X Q e k ru rv p => by
  unfold oNinDH pur at p
  split at p
  · rename_i t ht
    unfold gInDH at ht
    split at ht
    · rename_i d ds hd he
      split at ht
      · rename_i hs
        cases ht
        have a := toD_ok ru hd
        have c := toDO_ok k rv he
        rw [e] at a c
        exact ⟨d, ds, a, c, hs.1, hs.2, p S rfl k (Step.refl S) _ (by simp)⟩
      · cases ht
    · cases ht
  · exact p.elim
end M
/-! x in t, t a tuple, its items data of any depth -/
namespace TUPIN
open PySem PySem.Spec PyProof.Rows L2
variable {X : Cx}
def rIn (K : PySem.W.Frag) : R2 := fun x y H Q => ∃ d ds, Dp K H x d ∧ Dp K H y (.tuple ds) ∧ SeqAt.shaped d = true ∧ SeqAt.shaped (.tuple ds) = true ∧ Q (.bl (ds.any fun z => PyData.eqv z d)) H
def rNin (K : PySem.W.Frag) : R2 := fun x y H Q => ∃ d ds, Dp K H x d ∧ Dp K H y (.tuple ds) ∧ SeqAt.shaped d = true ∧ SeqAt.shaped (.tuple ds) = true ∧ Q (.bl (!ds.any fun z => PyData.eqv z d)) H
theorem op_in (hu : X.A.units + 65 < cLine) : OpR X (compareOp .In) (rIn X.K) := by
  intro pins s σ H x y v u Q I rx ry h
  obtain ⟨d, ds, hd, he, sd, se, q⟩ := h
  obtain ⟨as, r1⟩ := Dp.reads I d x v hd rx
  obtain ⟨bs, r2⟩ := Dp.reads I (.tuple ds) y u he ry
  exact SeqAt.in_tuple_reads r2 r1 (SeqAt.canLay_of_shaped se) (SeqAt.canLay_of_shaped sd) (room_in_shaped sd hu) ⟨.bl _, H, I, rfl, q⟩
theorem op_nin (hu : X.A.units + 65 < cLine) : OpR X (compareOp .NotIn) (rNin X.K) := by
  intro pins s σ H x y v u Q I rx ry h
  obtain ⟨d, ds, hd, he, sd, se, q⟩ := h
  obtain ⟨as, r1⟩ := Dp.reads I d x v hd rx
  obtain ⟨bs, r2⟩ := Dp.reads I (.tuple ds) y u he ry
  exact SeqAt.notIn_tuple_reads r2 r1 (SeqAt.canLay_of_shaped se) (SeqAt.canLay_of_shaped sd) (room_in_shaped sd hu) ⟨.bl _, H, I, rfl, q⟩
end TUPIN
namespace M
open PySem PySem.Spec PyProof.Rows L2
variable {G : Env} {S : Sta}
def gInT (neg : Bool) (x y : T) : Option T := match toD x, toD y with
  | some d, some (.tuple ds) => if SeqAt.shaped d = true ∧ SeqAt.shaped (.tuple ds) = true then some (.bl (if neg then !ds.any fun z => PyData.eqv z d else ds.any fun z => PyData.eqv z d)) else none
  | _, _ => none
@[simp] abbrev oInT := P2 (gInT false)
@[simp] abbrev oNinT := P2 (gInT true)
theorem x_inT {X : Cx} {K : PySem.W.Frag} (h : X.K = K) (hu : X.A.units + 65 < cLine) : OpR X (compareOp .In) (TUPIN.rIn K) := h ▸ TUPIN.op_in hu
theorem x_ninT {X : Cx} {K : PySem.W.Frag} (h : X.K = K) (hu : X.A.units + 65 < cLine) : OpR X (compareOp .NotIn) (TUPIN.rNin K) := h ▸ TUPIN.op_nin hu
theorem so_inT : SimR2 G (TUPIN.rIn G.K) oInT := simP2 fun S x y t u v Q e k ru rv hg q => by
  unfold gInT at hg
  split at hg
  · rename_i d ds hd he
    split at hg
    · rename_i hs
      cases hg
      have a := toD_ok ru hd
      have c := toD_ok rv he
      rw [e] at a c
      exact ⟨d, ds, a, c, hs.1, hs.2, q _ (by simp)⟩
    · cases hg
  · cases hg
theorem so_ninT : SimR2 G (TUPIN.rNin G.K) oNinT := simP2 fun S x y t u v Q e k ru rv hg q => by
  unfold gInT at hg
  split at hg
  · rename_i d ds hd he
    split at hg
    · rename_i hs
      cases hg
      have a := toD_ok ru hd
      have c := toD_ok rv he
      rw [e] at a c
      exact ⟨d, ds, a, c, hs.1, hs.2, q _ (by simp)⟩
    · cases hg
  · cases hg
end M
/-! x is True, whatever x is -/
namespace ISW
open PySem PySem.Spec PyProof.Rows L2
def rIs : R2 := fun x y H Q => ∃ b : Bool, y = .bl b ∧ ((∃ a : Bool, x = .bl a ∧ Q (.bl (decide (a = b))) H) ∨ ((x = .non ∨ (∃ i, x = .int i) ∨ (∃ z, x = .str z) ∨ ∃ a, x = .ref a) ∧ Q (.bl false) H))
theorem op_is {X : Cx} : OpR X (compareOp .Is) rIs := by
  intro pins s σ H x y v u Q I rx ry h
  obtain ⟨b, rfl, h⟩ := h
  rcases h with ⟨a, rfl, q⟩ | ⟨h, q⟩
  · exact op_isBl pins s σ H _ _ v u Q I rx ry ⟨a, b, rfl, rfl, q⟩
  · obtain rfl : u = Value.bool b := ry
    rcases h with rfl | ⟨i, rfl⟩ | ⟨z, rfl⟩ | ⟨a, rfl⟩
    · obtain rfl : v = Value.none := rx
      exact wpAny_is_other rfl (fun z => nomatch z) ⟨.bl false, H, I, rfl, q⟩
    · obtain ⟨t, rfl⟩ : ∃ t, v = Value.int i t := rx
      exact wpAny_is_other rfl (fun z => nomatch z) ⟨.bl false, H, I, rfl, q⟩
    · obtain ⟨t, rfl⟩ : ∃ t, v = Value.str z t := rx
      exact wpAny_is_other rfl (fun z => nomatch z) ⟨.bl false, H, I, rfl, q⟩
    · obtain rfl : v = Value.ref a := rx
      exact wpAny_is_other rfl (fun z => nomatch z) ⟨.bl false, H, I, rfl, q⟩
end ISW
namespace M
open PySem PySem.Spec PyProof.Rows L2
variable {G : Env} {S : Sta}
@[simp] def isW : T → T → Option T
  | .bl a, .bl b => some (.bl (decide (a = b)))
  | .non, .bl _ => some (.bl false)
  | .int _, .bl _ => some (.bl false)
  | .str _, .bl _ => some (.bl false)
  | .tup _, .bl _ => some (.bl false)
  | .ktp _, .bl _ => some (.bl false)
  | .lst _, .bl _ => some (.bl false)
  | _, _ => none
@[simp] abbrev oIsW : T → T → AH → Res T := P2 isW
theorem so_isW : SimR2 G ISW.rIs oIsW := simP2 fun S x y t u v Q e k ru rv hg q => by
  unfold isW at hg
  split at hg <;> first
    | (cases hg; done)
    | (cases hg; simp only [Rv] at ru rv; subst ru; subst rv; exact ⟨_, rfl, .inl ⟨_, rfl, q _ (by simp only [Rv])⟩⟩)
    | (cases hg; simp only [Rv] at ru rv; subst rv; exact ⟨_, rfl, .inr ⟨by first | exact .inl ru | exact .inr (.inl ⟨_, ru⟩) | exact .inr (.inr (.inl ⟨_, ru⟩)) | (obtain ⟨p, _, rfl, _⟩ := ru; exact .inr (.inr (.inr ⟨p, rfl⟩))), q _ (by simp only [Rv])⟩⟩)
end M
namespace Lk60
open PySem PySem.Spec PyProof.Rows L2 M

def b__law_pool : FS := (sRet (mLstO (mCons (mCB bList (mCons (mSl oSlL (mVar 0) mNoPart (mPart (mC (.int 63)))) mNil)) (mCons (mC (.int 0)) (mCons (mC (.int 0)) (mCons (mC (.int 11)) mNil))))))
def m__law_pool : List T → AH → Res T := mDef 1 b__law_pool
def l1__law_table : FS := (sSeq (sFrz 1 (sDPutM (mVar 0) (mOp oIx (mVar 1) (mVar 3)) (mTup (mCons (mC (.str "R")) (mCons (mC (.int 51)) (mCons (mVar 3) (mCons (mC (.int 0)) mNil)))))))
    (sFrz 2 (sDPutM (mVar 0) (mOp oIx (mVar 2) (mVar 3)) (mTup (mCons (mC (.str "R")) (mCons (mC (.int 51)) (mCons (mVar 3) (mCons (mC (.int 1)) mNil))))))))
def l2__law_table : FS := (sDPutM (mVar 0) (mOp oIx (mVar 4) (mC (.int 0))) (mTup (mCons (mC (.str "I")) (mCons (mC (.int 19)) (mCons (mOp oIx (mVar 4) (mC (.int 1))) (mCons (mC (.int 0)) mNil))))))
def l3__law_table : FS := (sDPutM (mVar 0) (mOp oIx (mVar 4) (mC (.int 0))) (mTup (mCons (mC (.str "B")) (mCons (mC (.int 99)) (mCons (mOp oIx (mVar 4) (mC (.int 1))) (mCons (mC (.int 0)) mNil))))))
def b__law_table : FS := (sSeq (sSet 0 (mDispO (((mC (.str "jalr")), (mTup (mCons (mC (.str "I")) (mCons (mC (.int 103)) (mCons (mC (.int 0)) (mCons (mC (.int 0)) mNil)))))) :: (((mC (.str "lw")), (mTup (mCons (mC (.str "I")) (mCons (mC (.int 3)) (mCons (mC (.int 2)) (mCons (mC (.int 0)) mNil)))))) :: (((mC (.str "sw")), (mTup (mCons (mC (.str "S")) (mCons (mC (.int 35)) (mCons (mC (.int 2)) (mCons (mC (.int 0)) mNil)))))) :: [])))))
    (sSeq (sDPutM (mVar 0) (mC (.str "jal")) (mTup (mCons (mC (.str "J")) (mCons (mC (.int 111)) (mCons (mC (.int 0)) (mCons (mC (.int 0)) mNil))))))
    (sSeq (sDPutM (mVar 0) (mC (.str "lui")) (mTup (mCons (mC (.str "U")) (mCons (mC (.int 55)) (mCons (mC (.int 0)) (mCons (mC (.int 0)) mNil))))))
    (sSeq (sDPutM (mVar 0) (mC (.str "auipc")) (mTup (mCons (mC (.str "U")) (mCons (mC (.int 23)) (mCons (mC (.int 0)) (mCons (mC (.int 0)) mNil))))))
    (sSeq (sSet 1 (mLst (mCons (mC (.str "add")) (mCons (mC (.str "sll")) (mCons (mC (.str "slt")) (mCons (mC (.str "sltu")) (mCons (mC (.str "xor")) (mCons (mC (.str "srl")) (mCons (mC (.str "or")) (mCons (mC (.str "and")) mNil))))))))))
    (sSeq (sSet 2 (mLst (mCons (mC (.str "mul")) (mCons (mC (.str "mulh")) (mCons (mC (.str "mulhsu")) (mCons (mC (.str "mulhu")) (mCons (mC (.str "div")) (mCons (mC (.str "divu")) (mCons (mC (.str "rem")) (mCons (mC (.str "remu")) mNil))))))))))
    (sSeq (sFor (iRngA (mCons (mC (.int 8)) mNil)) (aName 3) l1__law_table)
    (sSeq (sDPutM (mVar 0) (mC (.str "sub")) (mTup (mCons (mC (.str "R")) (mCons (mC (.int 51)) (mCons (mC (.int 0)) (mCons (mC (.int 32)) mNil))))))
    (sSeq (sDPutM (mVar 0) (mC (.str "sra")) (mTup (mCons (mC (.str "R")) (mCons (mC (.int 51)) (mCons (mC (.int 5)) (mCons (mC (.int 32)) mNil))))))
    (sSeq (sFor (iLst (mLst (mCons (mTup (mCons (mC (.str "addi")) (mCons (mC (.int 0)) mNil))) (mCons (mTup (mCons (mC (.str "slti")) (mCons (mC (.int 2)) mNil))) (mCons (mTup (mCons (mC (.str "sltiu")) (mCons (mC (.int 3)) mNil))) (mCons (mTup (mCons (mC (.str "xori")) (mCons (mC (.int 4)) mNil))) (mCons (mTup (mCons (mC (.str "ori")) (mCons (mC (.int 6)) mNil))) (mCons (mTup (mCons (mC (.str "andi")) (mCons (mC (.int 7)) mNil))) mNil)))))))) (aName 4) l2__law_table)
    (sSeq (sDPutM (mVar 0) (mC (.str "slli")) (mTup (mCons (mC (.str "shift")) (mCons (mC (.int 19)) (mCons (mC (.int 1)) (mCons (mC (.int 0)) mNil))))))
    (sSeq (sDPutM (mVar 0) (mC (.str "srli")) (mTup (mCons (mC (.str "shift")) (mCons (mC (.int 19)) (mCons (mC (.int 5)) (mCons (mC (.int 0)) mNil))))))
    (sSeq (sDPutM (mVar 0) (mC (.str "srai")) (mTup (mCons (mC (.str "shift")) (mCons (mC (.int 19)) (mCons (mC (.int 5)) (mCons (mC (.int 32)) mNil))))))
    (sSeq (sFor (iLst (mLst (mCons (mTup (mCons (mC (.str "beq")) (mCons (mC (.int 0)) mNil))) (mCons (mTup (mCons (mC (.str "bne")) (mCons (mC (.int 1)) mNil))) (mCons (mTup (mCons (mC (.str "blt")) (mCons (mC (.int 4)) mNil))) (mCons (mTup (mCons (mC (.str "bge")) (mCons (mC (.int 5)) mNil))) (mCons (mTup (mCons (mC (.str "bltu")) (mCons (mC (.int 6)) mNil))) (mCons (mTup (mCons (mC (.str "bgeu")) (mCons (mC (.int 7)) mNil))) mNil)))))))) (aName 4) l3__law_table)
    (sFrz 0 (sRet (mVar 0)))))))))))))))))
def m__law_table : List T → AH → Res T := mDef 5 b__law_table
def c1__law_draw : FT := (mAnd (mB (mOp oEq (mOp oIx (mVar 0) (mC (.int 2))) (mC (.int 0)))) (mB (mOp oLt (mOp oIx (mVar 0) (mC (.int 1))) (mCB bLen (mCons (mOp oIx (mVar 0) (mC (.int 0))) mNil)))))
def l1__law_draw : FS := (sSeq (sSetIx (mCB bAbs (mCons (mOp oIx (mOp oIx (mVar 0) (mC (.int 0))) (mOp oIx (mVar 0) (mC (.int 1)))) mNil)) (mVar 0) (mC (.int 2)))
    (sSetIx (mOp oAdd (mOp oIx (mVar 0) (mC (.int 1))) (mC (.int 1))) (mVar 0) (mC (.int 1))))
def b__law_draw : FS := (sSeq (sWhile c1__law_draw l1__law_draw FUEL)
    (sSeq (sIf (mB (mOp oEq (mOp oIx (mVar 0) (mC (.int 2))) (mC (.int 0)))) (sSeq (sSetIx (mOp oAdd (mOp oIx (mVar 0) (mC (.int 3))) (mC (.int 7))) (mVar 0) (mC (.int 3)))
    (sRet (mOp oMod (mCB bInt (mCons (mOp oDiv (mOp oIx (mVar 0) (mC (.int 3))) (mC (.int 3))) mNil)) (mVar 1)))) sSkip)
    (sSeq (sSet 2 (mOp oMod (mCB bInt (mCons (mOp oIx (mVar 0) (mC (.int 2))) mNil)) (mVar 1)))
    (sSeq (sSetIx (mOp oDiv (mCB bInt (mCons (mOp oIx (mVar 0) (mC (.int 2))) mNil)) (mVar 1)) (mVar 0) (mC (.int 2)))
    (sRet (mVar 2))))))
def m__law_draw : List T → AH → Res T := mDef 3 b__law_draw
def b__law_pick : FS := (sFrz 1 (sRet (mOp oIx (mVar 1) (mCall 2 m__law_draw (mCons (mVar 0) (mCons (mCB bLen (mCons (mVar 1) mNil)) mNil))))))
def m__law_pick : List T → AH → Res T := mDef 2 b__law_pick
def b__law_many : FS := (sRet (mCall 2 m__law_pick (mCons (mVar 0) (mCons (mLst (mCons (mC (.int 0)) (mCons (mC (.int 0)) (mCons (mC (.int 0)) (mCons (mC (.int 0)) (mCons (mC (.int 1)) (mCons (mC (.int 1)) (mCons (mC (.int 1)) (mCons (mC (.int 1)) (mCons (mC (.int 1)) (mCons (mC (.int 2)) (mCons (mC (.int 2)) (mCons (mC (.int 2)) (mCons (mC (.int 2)) (mCons (mC (.int 3)) (mCons (mC (.int 3)) (mCons (mC (.int 6)) mNil))))))))))))))))) mNil))))
def m__law_many : List T → AH → Res T := mDef 1 b__law_many
def l1__law_title : FS := (sSet 3 (mOp oAddS (mVar 3) (mOp oIxS (mVar 2) (mCall 2 m__law_draw (mCons (mVar 0) (mCons (mC (.int 36)) mNil))))))
def b__law_title : FS := (sSeq (sIf (mB (mOp oGt (mCall 2 m__law_draw (mCons (mVar 0) (mCons (mC (.int 3)) mNil))) (mC (.int 0)))) (sSeq (sSet 1 (mLst (mCons (mC (.str "g")) (mCons (mC (.str "main")) (mCons (mC (.str "f")) (mCons (mC (.str "x5")) (mCons (mC (.str "call")) (mCons (mC (.str "high")) (mCons (mC (.str "low")) (mCons (mC (.str "need")) (mCons (mC (.str "array")) (mCons (mC (.str "mark")) mNil))))))))))))
    (sFrz 1 (sRet (mCall 2 m__law_pick (mCons (mVar 0) (mCons (mOp oCat (mVar 1) (mLst (mCons (mC (.str "function")) (mCons (mC (.str "add")) (mCons (mC (.str "lw")) (mCons (mC (.str "ecall")) (mCons (mC (.str "a0")) (mCons (mC (.str "abcdefgh")) mNil)))))))) mNil)))))) sSkip)
    (sSeq (sSet 2 (mC (.str "abcdefghijklmnopqrstuvwxyz0123456789")))
    (sSeq (sSet 3 (mOp oIxS (mVar 2) (mCall 2 m__law_draw (mCons (mVar 0) (mCons (mC (.int 26)) mNil)))))
    (sSeq (sFor (iRngA (mCons (mCall 2 m__law_draw (mCons (mVar 0) (mCons (mC (.int 8)) mNil))) mNil)) (aName 4) l1__law_title)
    (sSeq (sIf (mB (mOp oIn (mVar 3) (mTup (mCons (mC (.str "break")) (mCons (mC (.str "continue")) (mCons (mC (.str "else")) (mCons (mC (.str "if")) (mCons (mC (.str "mod")) (mCons (mC (.str "return")) (mCons (mC (.str "tell")) (mCons (mC (.str "use")) (mCons (mC (.str "while")) (mCons (mC (.str "word")) mNil))))))))))))) (sRet (mC (.str "zz"))) sSkip)
    (sRet (mVar 3)))))))
def m__law_title : List T → AH → Res T := mDef 5 b__law_title
def b__law_long : FS := (sRet (mCall 2 m__law_pick (mCons (mVar 0) (mCons (mLst (mCons (mC (.int 1)) (mCons (mC (.int 2)) (mCons (mC (.int 9)) (mCons (mC (.int 10)) (mCons (mC (.int 999)) (mCons (mC (.int 1000)) (mCons (mOp oAdd (mC (.int 1)) (mCall 2 m__law_draw (mCons (mVar 0) (mCons (mC (.int 1000)) mNil)))) mNil)))))))) mNil))))
def m__law_long : List T → AH → Res T := mDef 1 b__law_long
def b__law_want : FS := (sSeq (sSet 1 (mCall 1 m__law_title (mCons (mVar 0) mNil)))
    (sSeq (sSet 2 (mCall 2 m__law_draw (mCons (mVar 0) (mCons (mC (.int 3)) mNil))))
    (sSeq (sIf (mB (mOp oEq (mVar 2) (mC (.int 0)))) (sRet (mTup (mCons (mVar 1) (mCons (mC (.str "word")) (mCons (mC (.int 0)) mNil))))) sSkip)
    (sSeq (sIf (mB (mOp oEq (mVar 2) (mC (.int 1)))) (sRet (mTup (mCons (mVar 1) (mCons (mC (.str "array")) (mCons (mCall 1 m__law_long (mCons (mVar 0) mNil)) mNil))))) sSkip)
    (sRet (mTup (mCons (mVar 1) (mCons (mC (.str "function")) (mCons (mCall 2 m__law_draw (mCons (mVar 0) (mCons (mC (.int 7)) mNil))) mNil)))))))))
def m__law_want : List T → AH → Res T := mDef 3 b__law_want
def b__law_word : FS := (sSeq (sSet 1 (mCall 2 m__law_draw (mCons (mVar 0) (mCons (mC (.int 4)) mNil))))
    (sSeq (sIf (mB (mOp oLt (mVar 1) (mC (.int 2)))) (sRet (mOp oSub (mCall 2 m__law_draw (mCons (mVar 0) (mCons (mC (.int 12)) mNil))) (mC (.int 4)))) sSkip)
    (sSeq (sSet 2 (mLst (mCons (mUn oNeg (mC (.int 2147483648))) (mCons (mUn oNeg (mC (.int 2147483647))) (mCons (mUn oNeg (mC (.int 2049))) (mCons (mUn oNeg (mC (.int 2048))) (mCons (mUn oNeg (mC (.int 1))) (mCons (mC (.int 0)) (mCons (mC (.int 1)) (mCons (mC (.int 31)) (mCons (mC (.int 32)) (mCons (mC (.int 33)) (mCons (mC (.int 2047)) (mCons (mC (.int 2048)) (mCons (mC (.int 4095)) (mCons (mC (.int 2147483647)) mNil))))))))))))))))
    (sSeq (sIf (mB (mOp oEq (mVar 1) (mC (.int 2)))) (sFrz 2 (sRet (mOp oIx (mVar 2) (mCall 2 m__law_draw (mCons (mVar 0) (mCons (mC (.int 14)) mNil)))))) sSkip)
    (sRet (mOp oSub (mCall 2 m__law_draw (mCons (mVar 0) (mCons (mC (.int 4294967296)) mNil))) (mC (.int 2147483648))))))))
def m__law_word : List T → AH → Res T := mDef 3 b__law_word
def b__law_datum : FS := (sSeq (sSet 1 (mCall 1 m__law_title (mCons (mVar 0) mNil)))
    (sSeq (sIf (mB (mOp oEq (mCall 2 m__law_draw (mCons (mVar 0) (mCons (mC (.int 2)) mNil))) (mC (.int 0)))) (sRet (mTup (mCons (mVar 1) (mCons (mC (.int 0)) (mCons (mCall 1 m__law_word (mCons (mVar 0) mNil)) mNil))))) sSkip)
    (sRet (mTup (mCons (mVar 1) (mCons (mCall 1 m__law_long (mCons (mVar 0) mNil)) (mCons (mC (.int 0)) mNil)))))))
def m__law_datum : List T → AH → Res T := mDef 2 b__law_datum
def b__law_open_row : FS := (sSeq (sSet 3 (mCall 2 m__law_draw (mCons (mVar 0) (mCons (mC (.int 5)) mNil))))
    (sSeq (sSet 4 (mCall 2 m__law_draw (mCons (mVar 0) (mCons (mC (.int 32)) mNil))))
    (sSeq (sSet 5 (mCall 2 m__law_draw (mCons (mVar 0) (mCons (mC (.int 32)) mNil))))
    (sSeq (sFrz 1 (sIf (mAnd (mB (mOp oEq (mVar 3) (mC (.int 0)))) (mB (mOp oNe (mVar 1) (mLst mNil)))) (sRet (mTup (mCons (mTup (mCons (mC (.str "jal")) (mCons (mVar 4) (mCons (mC (.int 0)) mNil)))) (mCons (mC (.str "call")) (mCons (mCall 2 m__law_pick (mCons (mVar 0) (mCons (mVar 1) mNil))) mNil))))) sSkip))
    (sSeq (sFrz 2 (sIf (mAnd (mB (mOp oEq (mVar 3) (mC (.int 1)))) (mB (mOp oNe (mVar 2) (mLst mNil)))) (sRet (mTup (mCons (mTup (mCons (mC (.str "lui")) (mCons (mVar 4) (mCons (mC (.int 0)) mNil)))) (mCons (mC (.str "high")) (mCons (mCall 2 m__law_pick (mCons (mVar 0) (mCons (mVar 2) mNil))) mNil))))) sSkip))
    (sSeq (sIf (mAnd (mB (mOp oGt (mVar 3) (mC (.int 1)))) (mB (mOp oNe (mVar 2) (mLst mNil)))) (sSeq (sSet 6 (mOp oIx (mLst (mCons (mC (.str "addi")) (mCons (mC (.str "lw")) (mCons (mC (.str "sw")) mNil)))) (mOp oSub (mVar 3) (mC (.int 2)))))
    (sRet (mTup (mCons (mTup (mCons (mVar 6) (mCons (mVar 4) (mCons (mVar 5) (mCons (mC (.int 0)) mNil))))) (mCons (mC (.str "low")) (mCons (mCall 2 m__law_pick (mCons (mVar 0) (mCons (mVar 2) mNil))) mNil)))))) sSkip)
    (sRet (mTup (mCons (mTup (mCons (mC (.str "addi")) (mCons (mVar 4) (mCons (mVar 5) (mCons (mC (.int 0)) mNil))))) (mCons (mC (.str "")) (mCons (mC (.str "")) mNil)))))))))))
def m__law_open_row : List T → AH → Res T := mDef 7 b__law_open_row
def b__law_edge : FS := (sSeq (sSet 3 (mCall 2 m__law_draw (mCons (mVar 0) (mCons (mC (.int 5)) mNil))))
    (sSeq (sIf (mB (mOp oEq (mVar 3) (mC (.int 0)))) (sRet (mVar 1)) sSkip)
    (sSeq (sIf (mB (mOp oEq (mVar 3) (mC (.int 1)))) (sRet (mVar 2)) sSkip)
    (sSeq (sIf (mB (mOp oEq (mVar 3) (mC (.int 2)))) (sRet (mC (.int 0))) sSkip)
    (sRet (mOp oAdd (mVar 1) (mCall 2 m__law_draw (mCons (mVar 0) (mCons (mOp oAdd (mOp oSub (mVar 2) (mVar 1)) (mC (.int 1))) mNil)))))))))
def m__law_edge : List T → AH → Res T := mDef 4 b__law_edge
def b__law_drawn_row : FS := (sSeq (sFrz 1 (sSet 2 (mCall 2 m__law_pick (mCons (mVar 0) (mCons (mOp oCat (mCB bListD (mCons (mVar 1) mNil)) (mLst (mCons (mC (.str "ecall")) (mCons (mC (.str "ebreak")) mNil)))) mNil)))))
    (sSeq (sIf (mB (mOp oIn (mVar 2) (mTup (mCons (mC (.str "ecall")) (mCons (mC (.str "ebreak")) mNil))))) (sRet (mTup (mCons (mVar 2) mNil))) sSkip)
    (sSeq (sSet 3 (mOp oIx (mDGet (mVar 1) (mVar 2)) (mC (.int 0))))
    (sSeq (sSet 4 (mCall 2 m__law_draw (mCons (mVar 0) (mCons (mC (.int 32)) mNil))))
    (sSeq (sIf (mB (mOp oEq (mVar 3) (mC (.str "U")))) (sRet (mTup (mCons (mVar 2) (mCons (mVar 4) (mCons (mCall 3 m__law_edge (mCons (mVar 0) (mCons (mC (.int 0)) (mCons (mC (.int 1048575)) mNil)))) mNil))))) sSkip)
    (sSeq (sIf (mB (mOp oEq (mVar 3) (mC (.str "J")))) (sRet (mTup (mCons (mVar 2) (mCons (mVar 4) (mCons (mOp oMul (mC (.int 2)) (mCall 3 m__law_edge (mCons (mVar 0) (mCons (mUn oNeg (mC (.int 524288))) (mCons (mC (.int 524287)) mNil))))) mNil))))) sSkip)
    (sSeq (sSet 5 (mCall 2 m__law_draw (mCons (mVar 0) (mCons (mC (.int 32)) mNil))))
    (sSeq (sIf (mB (mOp oEq (mVar 3) (mC (.str "B")))) (sRet (mTup (mCons (mVar 2) (mCons (mVar 4) (mCons (mVar 5) (mCons (mOp oMul (mC (.int 2)) (mCall 3 m__law_edge (mCons (mVar 0) (mCons (mUn oNeg (mC (.int 2048))) (mCons (mC (.int 2047)) mNil))))) mNil)))))) sSkip)
    (sSeq (sIf (mOr (mB (mOp oEq (mVar 3) (mC (.str "I")))) (mB (mOp oEq (mVar 3) (mC (.str "S"))))) (sRet (mTup (mCons (mVar 2) (mCons (mVar 4) (mCons (mVar 5) (mCons (mCall 3 m__law_edge (mCons (mVar 0) (mCons (mUn oNeg (mC (.int 2048))) (mCons (mC (.int 2047)) mNil)))) mNil)))))) sSkip)
    (sRet (mTup (mCons (mVar 2) (mCons (mVar 4) (mCons (mVar 5) (mCons (mCall 2 m__law_draw (mCons (mVar 0) (mCons (mC (.int 32)) mNil))) mNil)))))))))))))))
def m__law_drawn_row : List T → AH → Res T := mDef 6 b__law_drawn_row
def l1__law_chain : FS := (sSeq (sSet 3 (mCall 1 m__law_title (mCons (mVar 0) mNil)))
    (sSeq (sSet 4 (mLst (mCons (mC (.int 0)) (mCons (mC (.int 9)) (mCons (mC (.int 10)) (mCons (mC (.int 199)) (mCons (mCall 2 m__law_draw (mCons (mVar 0) (mCons (mC (.int 200)) mNil))) mNil)))))))
    (sFrz 4 (sDrop (mLM gApp (mVar 1) (mCons (mTup (mCons (mVar 3) (mCons (mCall 2 m__law_pick (mCons (mVar 0) (mCons (mVar 4) mNil))) mNil))) mNil))))))
def b__law_chain : FS := (sSeq (sSet 1 (mLstO mNil))
    (sSeq (sFor (iRngA (mCons (mCall 2 m__law_pick (mCons (mVar 0) (mCons (mLst (mCons (mC (.int 1)) (mCons (mC (.int 1)) (mCons (mC (.int 2)) (mCons (mC (.int 3)) (mCons (mC (.int 8)) mNil)))))) mNil))) mNil)) (aName 2) l1__law_chain)
    (sFrz 1 (sRet (mCB bTuple (mCons (mVar 1) mNil))))))
def m__law_chain : List T → AH → Res T := mDef 5 b__law_chain
def b__law_one_word : FS := (sSeq (sSet 5 (mCB bLen (mCons (mDGet (mVar 2) (mC (.str "rows"))) mNil)))
    (sSeq (sIf (mB (mOp oEq (mCall 2 m__law_draw (mCons (mVar 0) (mCons (mC (.int 3)) mNil))) (mC (.int 0)))) (sSeq (sFrz 3 (sFrz 4 (sSet 6 (mCall 3 m__law_open_row (mCons (mVar 0) (mCons (mVar 3) (mCons (mVar 4) mNil)))))))
    (sSeq (sDrop (mLM gApp (mDGet (mVar 2) (mC (.str "rows"))) (mCons (mOp oIx (mVar 6) (mC (.int 0))) mNil)))
    (sIf (mB (mOp oNe (mOp oIx (mVar 6) (mC (.int 1))) (mC (.str "")))) (sDrop (mLM gApp (mDGet (mVar 2) (mC (.str "open"))) (mCons (mTup (mCons (mVar 5) (mCons (mOp oIx (mVar 6) (mC (.int 1))) (mCons (mOp oIx (mVar 6) (mC (.int 2))) mNil)))) mNil))) sSkip))) (sFrz 1 (sDrop (mLM gApp (mDGet (mVar 2) (mC (.str "rows"))) (mCons (mCall 2 m__law_drawn_row (mCons (mVar 0) (mCons (mVar 1) mNil))) mNil)))))
    (sIf (mB (mOp oEq (mCall 2 m__law_draw (mCons (mVar 0) (mCons (mC (.int 3)) mNil))) (mC (.int 0)))) (sSeq (sSet 7 (mCall 2 m__law_pick (mCons (mVar 0) (mCons (mLst (mCons (mC (.str "tell")) (mCons (mC (.str "call")) (mCons (mC (.str "divide")) (mCons (mC (.str "index")) (mCons (mC (.str "depth")) mNil)))))) mNil))))
    (sDrop (mLM gApp (mDGet (mVar 2) (mC (.str "signs"))) (mCons (mTup (mCons (mVar 5) (mCons (mVar 7) (mCons (mCall 1 m__law_chain (mCons (mVar 0) mNil)) mNil)))) mNil)))) sSkip)))
def m__law_one_word : List T → AH → Res T := mDef 8 b__law_one_word
def l1__law_thing : FS := (sSeq (sSet 4 (mCall 1 m__law_want (mCons (mVar 0) mNil)))
    (sIf (mB (mOp oNinDH (mVar 4) (mDGet (mVar 2) (mC (.str "wants"))))) (sDrop (mLM gApp (mDGet (mVar 2) (mC (.str "wants"))) (mCons (mVar 4) mNil))) sSkip))
def l2__law_thing : FS := (sDrop (mLM gApp (mDGet (mVar 2) (mC (.str "outer"))) (mCons (mCall 1 m__law_datum (mCons (mVar 0) mNil)) mNil)))
def l3__law_thing : FS := (sSeq (sSet 6 (mCall 1 m__law_title (mCons (mVar 0) mNil)))
    (sSeq (sSet 7 (mCall 2 m__law_draw (mCons (mVar 0) (mCons (mC (.int 7)) mNil))))
    (sDrop (mLM gApp (mVar 5) (mCons (mTup (mCons (mVar 6) (mCons (mVar 7) (mCons (mOp oMul (mC (.int 4)) (mOp oAdd (mC (.int 1)) (mCall 2 m__law_draw (mCons (mVar 0) (mCons (mC (.int 511)) mNil))))) mNil)))) mNil)))))
def e4__law_thing : FE := (mOp oIx (mVar 8) (mC (.int 0)))
def e5__law_thing : FE := (mOp oIx (mVar 8) (mC (.int 0)))
def e6__law_thing : FE := (mOp oIx (mVar 8) (mC (.int 0)))
def e7__law_thing : FE := (mOp oIx (mVar 8) (mC (.int 0)))
def l8__law_thing : FS := (sFrz 1 (sFrz 9 (sFrz 10 (sDrop (mCall 5 m__law_one_word (mCons (mVar 0) (mCons (mVar 1) (mCons (mVar 2) (mCons (mVar 9) (mCons (mVar 10) mNil))))))))))
def l9__law_thing : FS := (sSeq (sDrop (mLM gApp (mDGet (mVar 2) (mC (.str "defs"))) (mCons (mTup (mCons (mOp oIx (mVar 8) (mC (.int 0))) (mCons (mCB bLen (mCons (mDGet (mVar 2) (mC (.str "rows"))) mNil)) (mCons (mOp oIx (mVar 8) (mC (.int 1))) (mCons (mOp oIx (mVar 8) (mC (.int 2))) mNil))))) mNil)))
    (sFor (iRngA (mCons (mOp oAdd (mC (.int 1)) (mCall 2 m__law_draw (mCons (mVar 0) (mCons (mC (.int 4)) mNil)))) mNil)) (aName 3) l8__law_thing))
def b__law_thing : FS := (sSeq (sSet 2 (mDisp (((mC (.str "rows")), (mLstO mNil)) :: (((mC (.str "defs")), (mLstO mNil)) :: (((mC (.str "outer")), (mLstO mNil)) :: (((mC (.str "wants")), (mLstO mNil)) :: (((mC (.str "open")), (mLstO mNil)) :: (((mC (.str "signs")), (mLstO mNil)) :: []))))))))
    (sSeq (sFor (iRngA (mCons (mCall 1 m__law_many (mCons (mVar 0) mNil)) mNil)) (aName 3) l1__law_thing)
    (sSeq (sFor (iRngA (mCons (mCall 1 m__law_many (mCons (mVar 0) mNil)) mNil)) (aName 3) l2__law_thing)
    (sSeq (sSet 5 (mLstO mNil))
    (sSeq (sFor (iRngA (mCons (mCall 2 m__law_pick (mCons (mVar 0) (mCons (mLst (mCons (mC (.int 0)) (mCons (mC (.int 1)) (mCons (mC (.int 1)) (mCons (mC (.int 1)) (mCons (mC (.int 1)) (mCons (mC (.int 1)) (mCons (mC (.int 2)) (mCons (mC (.int 2)) (mCons (mC (.int 2)) (mCons (mC (.int 3)) (mCons (mC (.int 3)) (mCons (mC (.int 6)) mNil))))))))))))) mNil))) mNil)) (aName 3) l3__law_thing)
    (sSeq (sFrz 5 (sSet 9 (mLc [8] (iLst (mVar 5)) (aName 8) mYes e4__law_thing)))
    (sSeq (sFrz 9 (sSet 9 (mOp oCat (mVar 9) (mLcV [8] (mDGet (mVar 2) (mC (.str "wants"))) (aName 8) (mB (mOp oEq (mOp oIx (mVar 8) (mC (.int 1))) (mC (.str "function")))) e5__law_thing))))
    (sSeq (sSet 10 (mLcV [8] (mDGet (mVar 2) (mC (.str "outer"))) (aName 8) mYes e6__law_thing))
    (sSeq (sFrz 10 (sSet 10 (mOp oCat (mVar 10) (mLcV [8] (mDGet (mVar 2) (mC (.str "wants"))) (aName 8) (mB (mOp oNe (mOp oIx (mVar 8) (mC (.int 1))) (mC (.str "function")))) e7__law_thing))))
    (sSeq (sFor (iLst (mVar 5)) (aName 8) l9__law_thing)
    (sRet (mVar 2))))))))))))
def m__law_thing : List T → AH → Res T := mDef 11 b__law_thing
def l1__law_like_needs : FS := (sIf (mB (mOp oEq (mCall 2 m__law_draw (mCons (mVar 0) (mCons (mC (.int 2)) mNil))) (mC (.int 0)))) (sSeq (sSet 4 (mVar 3))
    (sSeq (sIf (mAnd (mB (mOp oEq (mOp oIx (mVar 3) (mC (.int 1))) (mC (.str "function")))) (mB (mOp oEq (mCall 2 m__law_draw (mCons (mVar 0) (mCons (mC (.int 3)) mNil))) (mC (.int 0))))) (sSet 4 (mTup (mCons (mOp oIx (mVar 3) (mC (.int 0))) (mCons (mOp oIx (mVar 3) (mC (.int 1))) (mCons (mOp oMod (mCB bInt (mCons (mOp oAdd (mOp oIx (mVar 3) (mC (.int 2))) (mC (.int 1))) mNil)) (mC (.int 7))) mNil))))) sSkip)
    (sIf (mB (mOp oNinDH (mVar 4) (mDGet (mVar 1) (mC (.str "wants"))))) (sSeq (sSet 5 (mCall 2 m__law_draw (mCons (mVar 0) (mCons (mOp oAdd (mCB bLen (mCons (mDGet (mVar 1) (mC (.str "wants"))) mNil)) (mC (.int 1))) mNil))))
    (sDrop (mLM gIns (mDGet (mVar 1) (mC (.str "wants"))) (mCons (mVar 5) (mCons (mVar 4) mNil))))) sSkip))) sSkip)
def b__law_like_needs : FS := (sFrz 2 (sFor (iLst (mVar 2)) (aName 3) l1__law_like_needs))
def m__law_like_needs : List T → AH → Res T := mDef 6 b__law_like_needs
def b__law_encoded : FS := (sSeq (sIf (mB (mOp oEq (mCB bLen (mCons (mVar 1) mNil)) (mC (.int 1)))) (sRet (mIfE (mB (mOp oEq (mOp oIx (mVar 1) (mC (.int 0))) (mC (.str "ecall")))) (mC (.int 115)) (mC (.int 1048691)))) sSkip)
    (sSeq (sFrz 0 (sSet 2 (mDGet (mVar 0) (mOp oIx (mVar 1) (mC (.int 0))))))
    (sSeq (sIf (mB (mOp oEq (mOp oIx (mVar 2) (mC (.int 0))) (mC (.str "U")))) (sRet (mOp oAdd (mOp oAdd (mOp oMul (mOp oIx (mVar 1) (mC (.int 2))) (mC (.int 4096))) (mOp oMul (mOp oIx (mVar 1) (mC (.int 1))) (mC (.int 128)))) (mOp oIx (mVar 2) (mC (.int 1))))) sSkip)
    (sSeq (sIf (mB (mOp oEq (mOp oIx (mVar 2) (mC (.int 0))) (mC (.str "J")))) (sSeq (sSet 3 (mOp oMod (mCB bInt (mCons (mOp oIx (mVar 1) (mC (.int 2))) mNil)) (mC (.int 2097152))))
    (sSeq (sSet 4 (mOp oAdd (mOp oAdd (mOp oMul (mOp oDiv (mVar 3) (mC (.int 1048576))) (mC (.int 524288))) (mOp oMul (mOp oMod (mOp oDiv (mVar 3) (mC (.int 2))) (mC (.int 1024))) (mC (.int 512)))) (mOp oMul (mOp oMod (mOp oDiv (mVar 3) (mC (.int 2048))) (mC (.int 2))) (mC (.int 256)))))
    (sRet (mOp oAdd (mOp oAdd (mOp oMul (mOp oAdd (mVar 4) (mOp oMod (mOp oDiv (mVar 3) (mC (.int 4096))) (mC (.int 256)))) (mC (.int 4096))) (mOp oMul (mOp oIx (mVar 1) (mC (.int 1))) (mC (.int 128)))) (mOp oIx (mVar 2) (mC (.int 1))))))) sSkip)
    (sSeq (sIf (mOr (mB (mOp oEq (mOp oIx (mVar 2) (mC (.int 0))) (mC (.str "R")))) (mB (mOp oEq (mOp oIx (mVar 2) (mC (.int 0))) (mC (.str "shift"))))) (sSeq (sSet 4 (mOp oAdd (mOp oAdd (mOp oMul (mOp oIx (mVar 2) (mC (.int 3))) (mC (.int 33554432))) (mOp oMul (mOp oIx (mVar 1) (mC (.int 3))) (mC (.int 1048576)))) (mOp oMul (mOp oIx (mVar 1) (mC (.int 2))) (mC (.int 32768)))))
    (sRet (mOp oAdd (mOp oAdd (mOp oAdd (mVar 4) (mOp oMul (mOp oIx (mVar 2) (mC (.int 2))) (mC (.int 4096)))) (mOp oMul (mOp oIx (mVar 1) (mC (.int 1))) (mC (.int 128)))) (mOp oIx (mVar 2) (mC (.int 1)))))) sSkip)
    (sSeq (sIf (mB (mOp oEq (mOp oIx (mVar 2) (mC (.int 0))) (mC (.str "I")))) (sSeq (sSet 3 (mOp oMod (mCB bInt (mCons (mOp oIx (mVar 1) (mC (.int 3))) mNil)) (mC (.int 4096))))
    (sRet (mOp oAdd (mOp oAdd (mOp oAdd (mOp oAdd (mOp oMul (mVar 3) (mC (.int 1048576))) (mOp oMul (mOp oIx (mVar 1) (mC (.int 2))) (mC (.int 32768)))) (mOp oMul (mOp oIx (mVar 2) (mC (.int 2))) (mC (.int 4096)))) (mOp oMul (mOp oIx (mVar 1) (mC (.int 1))) (mC (.int 128)))) (mOp oIx (mVar 2) (mC (.int 1)))))) sSkip)
    (sSeq (sIf (mB (mOp oEq (mOp oIx (mVar 2) (mC (.int 0))) (mC (.str "S")))) (sSeq (sSet 3 (mOp oMod (mCB bInt (mCons (mOp oIx (mVar 1) (mC (.int 3))) mNil)) (mC (.int 4096))))
    (sSeq (sSet 4 (mOp oAdd (mOp oAdd (mOp oAdd (mOp oMul (mOp oDiv (mVar 3) (mC (.int 32))) (mC (.int 33554432))) (mOp oMul (mOp oIx (mVar 1) (mC (.int 1))) (mC (.int 1048576)))) (mOp oMul (mOp oIx (mVar 1) (mC (.int 2))) (mC (.int 32768)))) (mOp oMul (mOp oIx (mVar 2) (mC (.int 2))) (mC (.int 4096)))))
    (sRet (mOp oAdd (mOp oAdd (mVar 4) (mOp oMul (mOp oMod (mVar 3) (mC (.int 32))) (mC (.int 128)))) (mOp oIx (mVar 2) (mC (.int 1))))))) sSkip)
    (sSeq (sSet 3 (mOp oMod (mCB bInt (mCons (mOp oIx (mVar 1) (mC (.int 3))) mNil)) (mC (.int 8192))))
    (sSeq (sSet 4 (mOp oAdd (mOp oAdd (mOp oMul (mOp oAdd (mOp oMul (mOp oDiv (mVar 3) (mC (.int 4096))) (mC (.int 64))) (mOp oMod (mOp oDiv (mVar 3) (mC (.int 32))) (mC (.int 64)))) (mC (.int 33554432))) (mOp oMul (mOp oIx (mVar 1) (mC (.int 2))) (mC (.int 1048576)))) (mOp oMul (mOp oIx (mVar 1) (mC (.int 1))) (mC (.int 32768)))))
    (sRet (mOp oAdd (mOp oAdd (mOp oAdd (mVar 4) (mOp oMul (mOp oIx (mVar 2) (mC (.int 2))) (mC (.int 4096)))) (mOp oMul (mOp oAdd (mOp oMul (mOp oMod (mOp oDiv (mVar 3) (mC (.int 2))) (mC (.int 16))) (mC (.int 2))) (mOp oMod (mOp oDiv (mVar 3) (mC (.int 2048))) (mC (.int 2)))) (mC (.int 128)))) (mOp oIx (mVar 2) (mC (.int 1))))))))))))))
def m__law_encoded : List T → AH → Res T := mDef 5 b__law_encoded
def e1__law_parts_of : FE := (mCall 2 m__law_encoded (mCons (mVar 0) (mCons (mVar 4) mNil)))
def e2__law_parts_of : FE := (mCB bTuple (mCons (mDGet (mVar 1) (mVar 5)) mNil))
def b__law_parts_of : FS := (sSeq (sFrz 0 (sFrz 1 (sSet 2 (mCB bTuple (mCons (mLcV [4] (mDGet (mVar 1) (mC (.str "rows"))) (aName 4) mYes e1__law_parts_of) mNil)))))
    (sSeq (sSet 3 (mLc [5] (iLst (mLst (mCons (mC (.str "defs")) (mCons (mC (.str "outer")) (mCons (mC (.str "wants")) (mCons (mC (.str "open")) (mCons (mC (.str "signs")) mNil))))))) (aName 5) mYes e2__law_parts_of))
    (sFrz 3 (sRet (mTup (mCons (mVar 2) (mCons (mOp oIx (mVar 3) (mC (.int 0))) (mCons (mOp oIx (mVar 3) (mC (.int 1))) (mCons (mOp oIx (mVar 3) (mC (.int 2))) (mCons (mOp oIx (mVar 3) (mC (.int 3))) (mCons (mOp oIx (mVar 3) (mC (.int 4))) mNil)))))))))))
def m__law_parts_of : List T → AH → Res T := mDef 6 b__law_parts_of
def b_Object___init__ : FS := (sSeq (sFldM "Object" "words" (mVar 0) (mCB bTuple (mCons (mVar 1) mNil)))
    (sSeq (sFldM "Object" "functions" (mVar 0) (mCB bTuple (mCons (mVar 2) mNil)))
    (sSeq (sFldM "Object" "data" (mVar 0) (mCB bTuple (mCons (mVar 3) mNil)))
    (sSeq (sFldM "Object" "needs" (mVar 0) (mCB bTuple (mCons (mVar 4) mNil)))
    (sSeq (sFldM "Object" "places" (mVar 0) (mCB bTuple (mCons (mVar 5) mNil)))
    (sFldM "Object" "marks" (mVar 0) (mCB bTuple (mCons (mVar 6) mNil))))))))
def m_Object___init__ : List T → AH → Res T := mDef 7 b_Object___init__
def b__law_object : FS := (sRet (mMake "Object" 7 m_Object___init__ true (mCons (mOp oIx (mVar 0) (mC (.int 0))) (mCons (mOp oIx (mVar 0) (mC (.int 1))) (mCons (mOp oIx (mVar 0) (mC (.int 2))) (mCons (mOp oIx (mVar 0) (mC (.int 3))) (mCons (mOp oIx (mVar 0) (mC (.int 4))) (mCons (mOp oIx (mVar 0) (mC (.int 5))) mNil))))))))
def m__law_object : List T → AH → Res T := mDef 1 b__law_object
def e1__law_sum : FE := (mTup (mCons (mOp oIx (mVar 8) (mC (.int 0))) (mCons (mOp oAdd (mOp oIx (mVar 8) (mC (.int 1))) (mVar 2)) (mCons (mOp oIx (mVar 8) (mC (.int 2))) (mCons (mOp oIx (mVar 8) (mC (.int 3))) mNil)))))
def e2__law_sum : FE := (mVar 8)
def e3__law_sum : FE := (mTup (mCons (mOp oAdd (mOp oIx (mVar 8) (mC (.int 0))) (mVar 2)) (mCons (mOp oIx (mVar 8) (mC (.int 1))) (mCons (mOp oIx (mVar 8) (mC (.int 2))) mNil))))
def e4__law_sum : FE := (mTup (mCons (mOp oAdd (mOp oIx (mVar 8) (mC (.int 0))) (mVar 2)) (mCons (mOp oIx (mVar 8) (mC (.int 1))) (mCons (mOp oIx (mVar 8) (mC (.int 2))) mNil))))
def b__law_sum : FS := (sSeq (sSet 2 (mCB bLen (mCons (mOp oIx (mVar 0) (mC (.int 0))) mNil)))
    (sSeq (sSet 3 (mLc [8] (iTupM (mOp oIx (mVar 1) (mC (.int 1)))) (aName 8) mYes e1__law_sum))
    (sSeq (sSet 4 (mLc [8] (iTupM (mOp oIx (mVar 1) (mC (.int 3)))) (aName 8) (mB (mOp oNinT (mVar 8) (mOp oIx (mVar 0) (mC (.int 3))))) e2__law_sum))
    (sSeq (sSet 5 (mLc [8] (iTupM (mOp oIx (mVar 1) (mC (.int 4)))) (aName 8) mYes e3__law_sum))
    (sSeq (sSet 6 (mLc [8] (iTupM (mOp oIx (mVar 1) (mC (.int 5)))) (aName 8) mYes e4__law_sum))
    (sSeq (sFrz 3 (sSet 7 (mTup (mCons (mOp oCatA (mOp oIx (mVar 0) (mC (.int 0))) (mOp oIx (mVar 1) (mC (.int 0)))) (mCons (mOp oCatA (mOp oIx (mVar 0) (mC (.int 1))) (mCB bTuple (mCons (mVar 3) mNil))) (mCons (mOp oCatA (mOp oIx (mVar 0) (mC (.int 2))) (mOp oIx (mVar 1) (mC (.int 2)))) mNil))))))
    (sSeq (sFrz 4 (sSet 7 (mOp oCatA (mVar 7) (mTup (mCons (mOp oCatA (mOp oIx (mVar 0) (mC (.int 3))) (mCB bTuple (mCons (mVar 4) mNil))) mNil)))))
    (sFrz 5 (sFrz 6 (sRet (mOp oCatA (mVar 7) (mTup (mCons (mOp oCatA (mOp oIx (mVar 0) (mC (.int 4))) (mCB bTuple (mCons (mVar 5) mNil))) (mCons (mOp oCatA (mOp oIx (mVar 0) (mC (.int 5))) (mCB bTuple (mCons (mVar 6) mNil))) mNil))))))))))))))
def m__law_sum : List T → AH → Res T := mDef 9 b__law_sum
def e1_Object___add__ : FE := (mTup (mCons (mVar 8) (mCons (mOp oAdd (mVar 9) (mVar 2)) (mCons (mVar 10) (mCons (mVar 11) mNil)))))
def e2_Object___add__ : FE := (mTup (mCons (mOp oAdd (mVar 12) (mVar 2)) (mCons (mVar 13) (mCons (mVar 8) mNil))))
def e3_Object___add__ : FE := (mTup (mCons (mOp oAdd (mVar 12) (mVar 2)) (mCons (mVar 13) (mCons (mVar 14) mNil))))
def k4_Object___add__ : FE := (mVar 15)
def v4_Object___add__ : FE := (mC (.bl true))
def e6_Object___add__ : FE := (mVar 15)
def b_Object___add__ : FS := (sSeq (sFrz 0 (sSet 2 (mCB bLen (mCons (mFld "Object" "words" (mVar 0)) mNil))))
    (sSeq (sFrz 1 (sSet 3 (mLc [8, 9, 10, 11] (iTupM (mFld "Object" "functions" (mVar 1))) (aTup 4 (aCons (aName 8) (aCons (aName 9) (aCons (aName 10) (aCons (aName 11) aNil))))) mYes e1_Object___add__)))
    (sSeq (sSet 4 (mLc [12, 13, 8] (iTupM (mFld "Object" "places" (mVar 1))) (aTup 3 (aCons (aName 12) (aCons (aName 13) (aCons (aName 8) aNil)))) mYes e2_Object___add__))
    (sSeq (sSet 5 (mLc [12, 13, 14] (iTupM (mFld "Object" "marks" (mVar 1))) (aTup 3 (aCons (aName 12) (aCons (aName 13) (aCons (aName 14) aNil)))) mYes e3_Object___add__))
    (sSeq (sSet 6 (mDcT [15] (iTupM (mFld "Object" "needs" (mVar 0))) (aName 15) mYes k4_Object___add__ v4_Object___add__))
    (sSeq (sFrz 6 (sSet 7 (mLc [15] (iTupM (mFld "Object" "needs" (mVar 1))) (aName 15) (mB (mDIn true (mVar 15) (mVar 6))) e6_Object___add__)))
    (sFrz 3 (sFrz 7 (sFrz 4 (sFrz 5 (sRet (mMake "Object" 7 m_Object___init__ true (mCons (mTup (mStar (mFld "Object" "words" (mVar 0)) (mStar (mFld "Object" "words" (mVar 1)) mNil))) (mCons (mTup (mStar (mFld "Object" "functions" (mVar 0)) (mStar (mVar 3) mNil))) (mCons (mTup (mStar (mFld "Object" "data" (mVar 0)) (mStar (mFld "Object" "data" (mVar 1)) mNil))) (mCons (mTup (mStar (mFld "Object" "needs" (mVar 0)) (mStar (mVar 7) mNil))) (mCons (mTup (mStar (mFld "Object" "places" (mVar 0)) (mStar (mVar 4) mNil))) (mCons (mTup (mStar (mFld "Object" "marks" (mVar 0)) (mStar (mVar 5) mNil))) mNil))))))))))))))))))
def m_Object___add__ : List T → AH → Res T := mDef 16 b_Object___add__
def l1__law_alike (m__law_alike : List T → AH → Res T) : FS := (sIf (mNot (mTru (mCall 2 m__law_alike (mCons (mOp oIx (mVar 0) (mVar 2)) (mCons (mOp oIx (mVar 1) (mVar 2)) mNil))))) (sRet (mC (.bl false))) sSkip)
def b__law_alike (m__law_alike : List T → AH → Res T) : FS := (sSeq (sIf (mTru (mIsiT ["tuple", "list"] (mVar 1))) (sSeq (sIf (mAnd (mTru (mIsi "tuple" (mVar 1))) (mNot (mTru (mIsi "tuple" (mVar 0))))) (sRet (mC (.bl false))) sSkip)
    (sSeq (sIf (mAnd (mTru (mIsi "list" (mVar 1))) (mNot (mTru (mIsi "list" (mVar 0))))) (sRet (mC (.bl false))) sSkip)
    (sSeq (sIf (mB (mOp oNe (mCB bLen (mCons (mVar 0) mNil)) (mCB bLen (mCons (mVar 1) mNil)))) (sRet (mC (.bl false))) sSkip)
    (sSeq (sFor (iRngA (mCons (mCB bLen (mCons (mVar 1) mNil)) mNil)) (aName 2) (l1__law_alike m__law_alike))
    (sRet (mC (.bl true))))))) sSkip)
    (sSeq (sIf (mB (mIsN (mVar 1))) (sRet (mIsN (mVar 0))) sSkip)
    (sSeq (sIf (mB (mOp oIsW (mVar 1) (mC (.bl true)))) (sRet (mOp oIsB (mVar 0) (mC (.bl true)))) sSkip)
    (sSeq (sIf (mB (mOp oIsW (mVar 1) (mC (.bl false)))) (sRet (mOp oIsB (mVar 0) (mC (.bl false)))) sSkip)
    (sSeq (sIf (mTru (mIsi "str" (mVar 1))) (sRet (mAndV (mIsi "str" (mVar 0)) (mOp oEq (mVar 0) (mVar 1)))) sSkip)
    (sRet (mAndV (mIsi "int" (mVar 0)) (mAndV (mNotV (mIsi "bool" (mVar 0))) (mOp oEq (mVar 0) (mVar 1))))))))))
def r__law_alike : Nat → List T → AH → Res T
  | 0 => fun _ _ => .bad
  | n + 1 => mDef 3 (b__law_alike (r__law_alike n))
def m__law_alike : List T → AH → Res T := r__law_alike 40
def b_Object_parts : FS := (sFrz 0 (sRet (mTup (mCons (mFld "Object" "words" (mVar 0)) (mCons (mFld "Object" "functions" (mVar 0)) (mCons (mFld "Object" "data" (mVar 0)) (mCons (mFld "Object" "needs" (mVar 0)) (mCons (mFld "Object" "places" (mVar 0)) (mCons (mFld "Object" "marks" (mVar 0)) mNil)))))))))
def m_Object_parts : List T → AH → Res T := mDef 1 b_Object_parts
def b_Object_size : FS := (sFrz 0 (sRet (mCB bLen (mCons (mFld "Object" "words" (mVar 0)) mNil))))
def m_Object_size : List T → AH → Res T := mDef 1 b_Object_size
def b__law_is : FS := (sFrz 0 (sRet (mAndV (mCall 2 m__law_alike (mCons (mMeth "Object" "parts" 1 m_Object_parts (mVar 0) mNil) (mCons (mVar 1) mNil))) (mCall 2 m__law_alike (mCons (mProp "Object" m_Object_size (mVar 0)) (mCons (mCB bLen (mCons (mOp oIx (mVar 1) (mC (.int 0))) mNil)) mNil))))))
def m__law_is : List T → AH → Res T := mDef 2 b__law_is
def e1_law : FE := (mCall 2 m__law_thing (mCons (mVar 1) (mCons (mVar 2) mNil)))
def e2_law : FE := (mCall 2 m__law_parts_of (mCons (mVar 2) (mCons (mVar 12) mNil)))
def b_law : FS := (sSeq (sSet 1 (mCall 1 m__law_pool (mCons (mVar 0) mNil)))
    (sSeq (sSet 2 (mCall 0 m__law_table mNil))
    (sSeq (sFrz 2 (sSet 3 (mLc [11] (iRngA (mCons (mC (.int 3)) mNil)) (aName 11) mYes e1_law)))
    (sSeq (sDrop (mCall 3 m__law_like_needs (mCons (mVar 1) (mCons (mOp oIx (mVar 3) (mC (.int 1))) (mCons (mCB bList (mCons (mDGet (mOp oIx (mVar 3) (mC (.int 0))) (mC (.str "wants"))) mNil)) mNil)))))
    (sSeq (sDrop (mCall 3 m__law_like_needs (mCons (mVar 1) (mCons (mOp oIx (mVar 3) (mC (.int 2))) (mCons (mOp oCat (mDGet (mOp oIx (mVar 3) (mC (.int 0))) (mC (.str "wants"))) (mDGet (mOp oIx (mVar 3) (mC (.int 1))) (mC (.str "wants")))) mNil)))))
    (sSeq (sFrz 3 (sSet 4 (mLc [12] (iLst (mVar 3)) (aName 12) mYes e2_law)))
    (sSeq (sFrz 4 (sSet 5 (mCall 1 m__law_object (mCons (mOp oIx (mVar 4) (mC (.int 0))) mNil))))
    (sSeq (sSet 6 (mCall 1 m__law_object (mCons (mOp oIx (mVar 4) (mC (.int 1))) mNil)))
    (sSeq (sSet 7 (mCall 1 m__law_object (mCons (mOp oIx (mVar 4) (mC (.int 2))) mNil)))
    (sSeq (sSet 8 (mCall 2 m__law_sum (mCons (mOp oIx (mVar 4) (mC (.int 0))) (mCons (mOp oIx (mVar 4) (mC (.int 1))) mNil))))
    (sSeq (sSet 9 (mCall 2 m__law_sum (mCons (mVar 8) (mCons (mOp oIx (mVar 4) (mC (.int 2))) mNil))))
    (sSeq (sFrz 5 (sFrz 6 (sSet 10 (mOp (oOwn "Object" m_Object___add__) (mVar 5) (mVar 6)))))
    (sSeq (sFrz 10 (sFrz 7 (sIf (mOr (mNot (mTru (mCall 2 m__law_is (mCons (mVar 10) (mCons (mVar 8) mNil))))) (mNot (mTru (mCall 2 m__law_is (mCons (mOp (oOwn "Object" m_Object___add__) (mVar 10) (mVar 7)) (mCons (mVar 9) mNil)))))) (sRet (mC (.bl false))) sSkip)))
    (sSeq (sIf (mNot (mTru (mCall 2 m__law_is (mCons (mOp (oOwn "Object" m_Object___add__) (mVar 6) (mVar 7)) (mCons (mCall 2 m__law_sum (mCons (mOp oIx (mVar 4) (mC (.int 1))) (mCons (mOp oIx (mVar 4) (mC (.int 2))) mNil))) mNil))))) (sRet (mC (.bl false))) sSkip)
    (sSeq (sIf (mNot (mTru (mCall 2 m__law_is (mCons (mOp (oOwn "Object" m_Object___add__) (mVar 5) (mOp (oOwn "Object" m_Object___add__) (mVar 6) (mVar 7))) (mCons (mVar 9) mNil))))) (sRet (mC (.bl false))) sSkip)
    (sSeq (sIf (mNot (mTru (mCall 2 m__law_is (mCons (mOp (oOwn "Object" m_Object___add__) (mVar 6) (mVar 6)) (mCons (mCall 2 m__law_sum (mCons (mOp oIx (mVar 4) (mC (.int 1))) (mCons (mOp oIx (mVar 4) (mC (.int 1))) mNil))) mNil))))) (sRet (mC (.bl false))) sSkip)
    (sSeq (sIf (mOr (mNot (mTru (mCall 2 m__law_is (mCons (mVar 10) (mCons (mVar 8) mNil))))) (mNot (mTru (mCall 2 m__law_is (mCons (mOp (oOwn "Object" m_Object___add__) (mVar 5) (mVar 6)) (mCons (mVar 8) mNil)))))) (sRet (mC (.bl false))) sSkip)
    (sRet (mAndV (mCall 2 m__law_is (mCons (mVar 5) (mCons (mOp oIx (mVar 4) (mC (.int 0))) mNil))) (mAndV (mCall 2 m__law_is (mCons (mVar 6) (mCons (mOp oIx (mVar 4) (mC (.int 1))) mNil))) (mCall 2 m__law_is (mCons (mVar 7) (mCons (mOp oIx (mVar 4) (mC (.int 2))) mNil)))))))))))))))))))))))
def m_law : List T → AH → Res T := mDef 13 b_law
/-- what the pool of draws holds -/
structure PS where
  ns : List Int
  i : Nat
  d : Int
  c : Int
def PS.ok (s : PS) : Prop := s.ns.length ≤ 63 ∧ 0 ≤ s.d ∧ 0 ≤ s.c
def poolO (s : PS) : Option O := some (.lst [.lst (s.ns.map .int), .int s.i, .int s.d, .int s.c])
def PoolAt (o : Option O) : Prop := ∃ s, o = poolO s ∧ s.ok
theorem pool_ok {ns : List Int} {h : AH} (hl : ns.length ≤ 63) : ∃ o, PoolAt o ∧ m__law_pool [.rdl (ns.map .int)] h = .ok (.obj h.length) (h ++ [o]) := by
  refine ⟨poolO ⟨ns, 0, 0, 11⟩, ⟨_, rfl, hl, Int.le_refl _, (by decide : (0 : Int) ≤ 11)⟩, ?_⟩
  have e1 : HT.sIx ns.length 0 none = 0 := rfl
  have e2 : HT.sIx ns.length ns.length (some 63) = ns.length := by
    have := HT.sIx_nat ns.length ns.length 63
    rw [show ((63 : Nat) : Int) = 63 from rfl] at this
    rw [this]; omega
  have e3 : (4 : Nat) ≤ sizeLine := by decide
  have e4 : cutT (ns.map T.int) none (some 63) = ns.map T.int := by
    unfold cutT
    rw [List.length_map, e1, e2, List.drop_zero, Nat.sub_zero]
    exact List.take_of_length_le (by rw [List.length_map]; exact Nat.le_refl _)
  simp [m__law_pool, b__law_pool, poolO, cutT, List.length_map, e1, e2, e3]
  exact List.take_of_length_le (by rw [List.length_map]; exact Nat.le_refl _)
theorem PoolAt.lt {o : Option O} {h : AH} {p : Nat} (e : h[p]? = some o) : p < h.length := (List.getElem?_eq_some_iff.mp e).1
theorem at0 {a b c d : T} : atI [a, b, c, d] 0 = some a := rfl
theorem at1 {a b c d : T} : atI [a, b, c, d] 1 = some b := rfl
theorem at2 {a b c d : T} : atI [a, b, c, d] 2 = some c := rfl
theorem at3 {a b c d : T} : atI [a, b, c, d] 3 = some d := rfl
theorem ix0 : ixN 4 0 = some 0 := rfl
theorem ix1 : ixN 4 1 = some 1 := rfl
theorem ix2 : ixN 4 2 = some 2 := rfl
theorem ix3 : ixN 4 3 = some 3 := rfl
theorem atI_nat {α : Type} {l : List α} {i : Nat} : atI l (i : Int) = l[i]? := by
  unfold atI ixN
  rw [if_pos (by omega : (0 : Int) ≤ (i : Int))]
  by_cases h : (i : Int) < l.length
  · rw [if_pos h]; simp
  · rw [if_neg h]
    exact (List.getElem?_eq_none_iff.mpr (by omega)).symm
theorem draw_loop {p : Nat} {many : Int} : ∀ (k n : Nat) (s : PS) (h : AH), s.ok → h[p]? = some (poolO s) → k = s.ns.length - s.i → k < n → ∃ s' : PS, s'.ok ∧ sWhile c1__law_draw l1__law_draw n [some (.obj p), some (.int many), none] h = .ok (.nx [some (.obj p), some (.int many), none]) (h.set p (poolO s')) := by
  intro k
  induction k with
  | zero =>
    intro n s h ok hp hk hn
    obtain ⟨n, rfl⟩ : ∃ m, n = m + 1 := ⟨n - 1, by omega⟩
    refine ⟨s, ok, ?_⟩
    have e : h.set p (poolO s) = h := by
      apply List.ext_getElem?
      intro j
      by_cases z : p = j
      · subst z; rw [List.getElem?_set_self (PoolAt.lt hp), hp]
      · rw [List.getElem?_set_ne z]
    have nl : ¬ s.i < s.ns.length := by omega
    rw [e]
    unfold sWhile c1__law_draw
    have hp' := hp
    unfold poolO at hp'
    by_cases z : s.d = 0
    · simp [hp', at0, at1, at2, at3, z, nl]
    · simp [hp', at0, at1, at2, at3, z]
  | succ k ih =>
    intro n s h ok hp hk hn
    obtain ⟨n, rfl⟩ : ∃ m, n = m + 1 := ⟨n - 1, by omega⟩
    have nl : s.i < s.ns.length := by omega
    have hp' := hp
    unfold poolO at hp'
    have lp := PoolAt.lt hp
    have hs : ∀ o, (h.set p o)[p]? = some o := fun o => List.getElem?_set_self lp
    by_cases z : s.d = 0
    · have hx : (s.ns.map T.int)[s.i]? = some (.int s.ns[s.i]) := by rw [List.getElem?_map, List.getElem?_eq_getElem nl]; rfl
      have ok' : (PS.mk s.ns (s.i + 1) (if s.ns[s.i] < 0 then -s.ns[s.i] else s.ns[s.i]) s.c).ok := ⟨ok.1, by dsimp only; split <;> omega, ok.2.2⟩
      obtain ⟨s', o', e'⟩ := ih n _ (h.set p (poolO (PS.mk s.ns (s.i + 1) (if s.ns[s.i] < 0 then -s.ns[s.i] else s.ns[s.i]) s.c))) ok' (List.getElem?_set_self lp) (by show k = s.ns.length - (s.i + 1); omega) (by omega)
      refine ⟨s', o', ?_⟩
      rw [List.set_set] at e'
      rw [← e']
      refine while_nx (h1 := h) ?_ ?_
      · unfold c1__law_draw
        simp [hp', at0, at1, at2, z, nl]
      · unfold l1__law_draw poolO
        simp [hp', at0, at1, at2, ix1, ix2, atI_nat, hx, hs, List.set_set]
    · refine ⟨s, ok, ?_⟩
      have e : h.set p (poolO s) = h := by
        apply List.ext_getElem?
        intro j
        by_cases z : p = j
        · subst z; rw [List.getElem?_set_self lp, hp]
        · rw [List.getElem?_set_ne z]
      rw [e]
      unfold sWhile c1__law_draw
      simp [hp', at0, at1, at2, at3, z]
/-- a draw: some number below many, and the pool is still one -/
theorem draw_ok {h : AH} {p : Nat} {many : Int} {o : Option O} (hp : h[p]? = some o) (ho : PoolAt o) (m0 : 0 < many) (m1 : many.natAbs.log2 < 9000) : ∃ r o', PoolAt o' ∧ 0 ≤ r ∧ r < many ∧ m__law_draw [.obj p, .int many] h = .ok (.int r) (h.set p o') := by
  obtain ⟨s, rfl, ok⟩ := ho
  obtain ⟨s1, ok1, e1⟩ := draw_loop (many := many) _ FUEL s h ok hp rfl (by have := ok.1; show _ < 1000000; omega)
  have lp := PoolAt.lt hp
  have hs : ∀ o, (h.set p o)[p]? = some o := fun o => List.getElem?_set_self lp
  by_cases z : s1.d = 0
  · refine ⟨(s1.c + 7) / 3 % many, poolO ⟨s1.ns, s1.i, s1.d, s1.c + 7⟩, ⟨_, rfl, ok1.1, ok1.2.1, by have := ok1.2.2; dsimp only; omega⟩, Int.emod_nonneg _ (by omega), Int.emod_lt_of_pos _ m0, ?_⟩
    have c3 : Nat.log2 3 < 9000 := by decide
    simp [m__law_draw, b__law_draw, e1, poolO, hs, at0, at1, at2, at3, ix3, z, List.set_set, m0, c3]
  · refine ⟨s1.d % many, poolO ⟨s1.ns, s1.i, s1.d / many, s1.c⟩, ⟨_, rfl, ok1.1, Int.ediv_nonneg ok1.2.1 (by omega), ok1.2.2⟩, Int.emod_nonneg _ (by omega), Int.emod_lt_of_pos _ m0, ?_⟩
    simp [m__law_draw, b__law_draw, e1, poolO, hs, at0, at1, at2, at3, ix2, z, List.set_set, m0, m1]

/-! the pool stands at p; what a drawing def keeps -/
def Pl (p : Nat) (h : AH) : Prop := ∃ o, h[p]? = some o ∧ PoolAt o
structure Ht (p : Nat) (h h' : AH) : Prop where
  pl : Pl p h'
  len : h.length ≤ h'.length
  keep : ∀ q, q < h.length → q ≠ p → h'[q]? = h[q]?
theorem Ht.trans {p : Nat} {h h1 h2 : AH} (a : Ht p h h1) (b : Ht p h1 h2) : Ht p h h2 := ⟨b.pl, Nat.le_trans a.len b.len, fun q hq n => (b.keep q (Nat.lt_of_lt_of_le hq a.len) n).trans (a.keep q hq n)⟩
theorem Ht.refl {p : Nat} {h : AH} (a : Pl p h) : Ht p h h := ⟨a, Nat.le_refl _, fun _ _ _ => rfl⟩
theorem Pl.lt {p : Nat} {h : AH} (a : Pl p h) : p < h.length := by obtain ⟨o, e, _⟩ := a; exact PoolAt.lt e
/-- a new thing -/
theorem Ht.new {p : Nat} {h : AH} {o : Option O} (a : Pl p h) : Ht p h (h ++ [o]) := by
  obtain ⟨x, e, q⟩ := a
  refine ⟨⟨x, ?_, q⟩, by simp -dsimp, fun j hj _ => List.getElem?_append_left hj⟩
  rw [List.getElem?_append_left (PoolAt.lt e)]; exact e
/-- what is newer than h changes -/
theorem Ht.put {p : Nat} {h h1 : AH} {i : Nat} {o : Option O} (a : Ht p h h1) (hi : h.length ≤ i) (hp : p < h.length) : Ht p h (h1.set i o) := by
  obtain ⟨x, e, q⟩ := a.pl
  refine ⟨⟨x, ?_, q⟩, by rw [List.length_set]; exact a.len, fun j hj n => ?_⟩
  · rw [List.getElem?_set_ne (by omega)]; exact e
  · rw [List.getElem?_set_ne (by omega)]; exact a.keep j hj n
theorem Ht.at {p : Nat} {h h1 : AH} (a : Ht p h h1) {i : Nat} {o : Option O} (e : h[i]? = some o) (n : i ≠ p) : h1[i]? = some o := by
  rw [a.keep i (PoolAt.lt e) n]; exact e
theorem draw_wp {p : Nat} {h : AH} {many : Int} {P : T → AH → Prop} {X : Exc → AH → Prop} (hp : Pl p h) (m0 : 0 < many) (m1 : many < 1099511627776) (k : ∀ r h', 0 ≤ r → r < many → Ht p h h' → P (.int r) h') : Wp (m__law_draw [.obj p, .int many] h) P X := by
  obtain ⟨o, e, q⟩ := hp
  have lg : many.natAbs.log2 < 9000 := (Nat.log2_lt (by omega)).mpr (Nat.lt_of_lt_of_le (by omega : many.natAbs < 2 ^ 40) (Nat.pow_le_pow_right (by decide) (by decide)))
  obtain ⟨r, o', q', r0, r1, e'⟩ := draw_ok e q m0 lg
  refine Wp.of e' (k r _ r0 r1 ⟨⟨o', List.getElem?_set_self (PoolAt.lt e), q'⟩, by simp -dsimp, fun j hj n => List.getElem?_set_ne (Ne.symm n)⟩)
theorem pick_wp {p : Nat} {h : AH} {l : List T} {P : T → AH → Prop} {X : Exc → AH → Prop} (hp : Pl p h) (h0 : 0 < l.length) (h1 : l.length ≤ 1000) (k : ∀ x h', x ∈ l → Ht p h h' → P x h') : Wp (m__law_pick [.obj p, .lst l] h) P X := by
  unfold m__law_pick b__law_pick
  simp -dsimp
  refine draw_wp hp (by omega) (by omega) (fun r h' r0 r1 ht => ?_)
  obtain ⟨i, rfl⟩ : ∃ i : Nat, r = i := ⟨r.toNat, by omega⟩
  have hi : i < l.length := by omega
  have hx : l[i]? = some l[i] := List.getElem?_eq_getElem hi
  simp -dsimp [atI_nat, hx]
  exact k _ _ (List.getElem_mem hi) ht
theorem pool_wp {ns : List Int} (hl : ns.length ≤ 63) {P : T → AH → Prop} {X : Exc → AH → Prop} (k : ∀ h', Pl 0 h' → P (.obj 0) h') : Wp (m__law_pool [.rdl (ns.map .int)] []) P X := by
  obtain ⟨o, q, e⟩ := pool_ok (h := []) hl
  exact Wp.of e (k _ ⟨o, rfl, q⟩)
theorem at_0 {a : T} {l : List T} : atI (a :: l) 0 = some a := atI_nat (i := 0)
theorem at_1 {a b : T} {l : List T} : atI (a :: b :: l) 1 = some b := atI_nat (i := 1)
theorem at_2 {a b c : T} {l : List T} : atI (a :: b :: c :: l) 2 = some c := atI_nat (i := 2)
@[simp] theorem sIx_none {n d : Nat} : HT.sIx n d none = d := rfl
@[simp] theorem sIx_1 {n d : Nat} : HT.sIx n d (some 1) = min 1 n := HT.sIx_nat n d 1
@[simp] theorem sIx_3 {n d : Nat} : HT.sIx n d (some 3) = min 3 n := HT.sIx_nat n d 3
@[simp] theorem sIx_5 {n d : Nat} : HT.sIx n d (some 5) = min 5 n := HT.sIx_nat n d 5
@[simp] theorem sIx_n {n d k : Nat} : HT.sIx n d (some (k : Int)) = min k n := HT.sIx_nat n d k
@[simp] theorem sIx_m1 {n d : Nat} : HT.sIx n d (some (-1)) = n - 1 := by
  unfold HT.sIx
  simp -dsimp
  omega
@[simp] theorem sIx_n1 {n d k : Nat} : HT.sIx n d (some ((k : Int) + 1)) = min (k + 1) n := HT.sIx_nat n d (k + 1)
theorem ixN_nat {n k : Nat} (h : k < n) : ixN n (k : Int) = some k := by
  unfold ixN
  rw [if_pos (by omega : (0 : Int) ≤ (k : Int)), if_pos (by omega)]; simp -dsimp
theorem ixN_nat1 {n k : Nat} (h : k + 1 < n) : ixN n ((k : Int) + 1) = some (k + 1) := ixN_nat (k := k + 1) h
theorem at_3 {a b c d : T} {l : List T} : atI (a :: b :: c :: d :: l) 3 = some d := atI_nat (i := 3)
theorem at_4 {a b c d e : T} {l : List T} : atI (a :: b :: c :: d :: e :: l) 4 = some e := atI_nat (i := 4)

@[simp] theorem sz {n : Nat} (h : n ≤ 5000) : n ≤ sizeLine := Nat.le_trans h (by decide)
theorem szl {n : Nat} (h : n < 5000) : n < sizeLine := Nat.lt_of_lt_of_le h (by decide)
theorem r62_s {i : Int} (h0 : 0 ≤ i) (h1 : i ≤ 1000000) : r62 i = true := r62_ok (by omega) (by omega)
theorem eqF_str {a b : Str} : eqF (.str a) (.str b) = decide (a = b) := by by_cases z : a = b <;> simp -dsimp [eqF, z]
theorem inT_nil {x : T} : inT x [] = false := rfl
theorem inT_cons {x y : T} {l : List T} : inT x (y :: l) = (eqF y x || inT x l) := rfl
theorem bools_map {α : Type} {f : α → Bool} : ∀ {l : List α}, bools (l.map fun x => T.bl (f x)) = some (l.map f)
  | [] => rfl
  | x :: l => by simp -dsimp [bools_map (l := l)]
theorem inT_strs {z : Str} {l : List Str} : inT (.str z) (l.map .str) = decide (z ∈ l) := by
  induction l with
  | nil => rfl
  | cons x l ih =>
    rw [List.map_cons, inT_cons, ih, eqF_str]
    by_cases y : z = x
    · subst y; simp -dsimp
    · have y' : ¬ x = z := fun h => y h.symm
      simp -dsimp [y, y']
theorem flat_ints {is : List Int} : (is.map T.int).all flatT = true := by
  rw [List.all_eq_true]; intro x hx; obtain ⟨i, _, rfl⟩ := List.mem_map.mp hx; rfl
theorem inT_ints {v : Int} {is : List Int} : inT (.int v) (is.map .int) = decide (v ∈ is) := by
  unfold inT
  induction is with
  | nil => rfl
  | cons i is ih =>
    rw [List.map_cons, List.any_cons, ih]
    by_cases z : v = i
    · subst z; simp -dsimp [eqF]
    · have z' : ¬ i = v := fun h => z h.symm
      simp -dsimp [eqF, z, z']
theorem rng_get {m i : Nat} {x : T} (h : ((List.range m).map fun (i : Nat) => T.int (i : Int))[i]? = some x) : x = .int (i : Int) ∧ i < m := by
  rw [List.getElem?_map] at h
  cases e : (List.range m)[i]? with
  | none => rw [e] at h; cases h
  | some j =>
    rw [e] at h
    obtain ⟨hi, hj⟩ := List.getElem?_eq_some_iff.mp e
    simp at hj hi
    subst hj
    simp at h
    exact ⟨h.symm, hi⟩

/-! the common kit: what was there still is; loops; dicts -/
/-- what was there still is -/
structure He (h h' : AH) : Prop where
  len : h.length ≤ h'.length
  keep : ∀ q, q < h.length → h'[q]? = h[q]?
theorem He.refl (h : AH) : He h h := ⟨Nat.le_refl _, fun _ _ => rfl⟩
theorem He.trans {a b c : AH} (x : He a b) (y : He b c) : He a c := ⟨Nat.le_trans x.len y.len, fun q hq => (y.keep q (Nat.lt_of_lt_of_le hq x.len)).trans (x.keep q hq)⟩
theorem He.new {h : AH} {o : Option O} : He h (h ++ [o]) := ⟨by simp, fun q hq => List.getElem?_append_left hq⟩
theorem He.put {h h1 : AH} {i : Nat} {o : Option O} (a : He h h1) (hi : h.length ≤ i) : He h (h1.set i o) := ⟨by rw [List.length_set]; exact a.len, fun q hq => by rw [List.getElem?_set_ne (by omega)]; exact a.keep q hq⟩
theorem He.at {h h1 : AH} (a : He h h1) {i : Nat} {o : Option O} (e : h[i]? = some o) : h1[i]? = some o := by rw [a.keep i (PoolAt.lt e)]; exact e
section
variable {τ : LS} {h : AH} {P : T → AH → Prop} {PF : Fl → AH → Prop} {PL : List T → AH → Prop} {X : Exc → AH → Prop}
theorem for_seq {α : Type} {g : α → T} {xs : List α} {a : FG} {b : FS} (I : Nat → LS → AH → Prop) (h0 : I 0 τ h)
    (hs : ∀ k x τ h, xs[k]? = some x → I k τ h → ∃ τ1, a (g x) τ = some τ1 ∧ Wp (b τ1 h) (fun fl h' => match fl with | .nx τ' => Kp (I (k + 1) τ' h') () | .ct τ' => Kp (I (k + 1) τ' h') () | .bk τ' => PF (.nx τ') h' | .rt t => PF (.rt t) h' | .xc e τ' => PF (.xc e τ') h') X)
    (he : ∀ τ h, I xs.length τ h → PF (.nx τ) h) : Wp (sForL a b (xs.map g) τ h) PF X := by
  refine wp_for (fun l τ h => ∃ k, l = (xs.drop k).map g ∧ I k τ h ∧ k ≤ xs.length) ⟨0, rfl, h0, Nat.zero_le _⟩ ?_ ?_
  · rintro x l τ h ⟨k, e, i, kl⟩
    have lt : k < xs.length := by
      rcases Nat.lt_or_ge k xs.length with z | z
      · exact z
      · rw [List.drop_eq_nil_of_le z] at e; cases e
    rw [List.drop_eq_getElem_cons lt, List.map_cons] at e
    cases e
    obtain ⟨τ1, ha, hb⟩ := hs k xs[k] τ h (List.getElem?_eq_getElem lt) i
    refine ⟨τ1, ha, hb.imp (fun fl h' p => ?_)⟩
    cases fl with
    | nx τ' => exact Kp.mk ⟨k + 1, rfl, p, lt⟩
    | ct τ' => exact Kp.mk ⟨k + 1, rfl, p, lt⟩
    | bk τ' => exact p
    | rt t => exact p
    | xc e τ' => exact p
  · rintro τ h ⟨k, e, i, kl⟩
    have : k = xs.length := by
      rcases Nat.lt_or_ge k xs.length with z | z
      · rw [List.drop_eq_getElem_cons z] at e; cases e
      · omega
    subst this
    exact he τ h i
theorem lc_seq {α : Type} {g f : α → T} {a : FG} {fe : FE} {xs : List α} {n : Nat} (hn : n + xs.length ≤ sizeLine)
    (hf : ∀ x ∈ xs, ∀ h1, He h h1 → ∃ τ', a (g x) τ = some τ' ∧ Wp (fe τ' h1) (fun y h2 => y = f x ∧ He h h2) X)
    (he : ∀ h', He h h' → PL (xs.map f) h') : Wp (mLcL a mYes fe τ n (xs.map g) h) PL X := by
  have gen : ∀ (xs : List α) (n : Nat) (h1 : AH) (Q : List T → AH → Prop), n + xs.length ≤ sizeLine → He h h1 → (∀ x ∈ xs, ∀ h1, He h h1 → ∃ τ', a (g x) τ = some τ' ∧ Wp (fe τ' h1) (fun y h2 => y = f x ∧ He h h2) X) → (∀ h', He h h' → Q (xs.map f) h') → Wp (mLcL a mYes fe τ n (xs.map g) h1) Q X := by
    intro xs
    induction xs with
    | nil => exact fun n h1 Q _ z _ q => q h1 z
    | cons x xs ih =>
      intro n h1 Q hn z hf q
      rw [List.length_cons] at hn
      obtain ⟨τ', ha, hb⟩ := hf x List.mem_cons_self h1 z
      rw [List.map_cons]
      unfold mLcL
      simp only [ha, mYes, bind_ok, if_true, wp_bind]
      refine hb.imp (fun y h2 p => ?_)
      obtain ⟨rfl, z2⟩ := p
      rw [if_pos (by omega), wp_bind]
      exact ih (n + 1) h2 _ (by omega) z2 (fun y hy => hf y (List.mem_cons_of_mem _ hy)) (fun h' z3 => q h' z3)
  exact gen xs n h PL hn (He.refl h) hf he
/-- one that keeps the heap -/
theorem lc_seq' {α : Type} {g f : α → T} {a : FG} {fe : FE} {xs : List α} {n : Nat} (hn : n + xs.length ≤ sizeLine)
    (hf : ∀ x ∈ xs, ∃ τ', a (g x) τ = some τ' ∧ Wp (fe τ' h) (fun y h2 => y = f x ∧ h2 = h) (fun _ _ => False))
    (he : PL (xs.map f) h) : Wp (mLcL a mYes fe τ n (xs.map g) h) PL X := by
  have e : mLcL a mYes fe τ n (xs.map g) h = .ok (xs.map f) h := by
    induction xs generalizing n PL with
    | nil => rfl
    | cons x xs ih =>
      rw [List.length_cons] at hn
      obtain ⟨τ', ha, w⟩ := hf x List.mem_cons_self
      obtain ⟨y, h', e', rfl, rfl⟩ := w.ok
      rw [List.map_cons]
      unfold mLcL
      simp only [ha, mYes, bind_ok, if_true, e']
      rw [if_pos (by omega), ih (PL := fun _ _ => True) (by omega) (fun y hy => hf y (List.mem_cons_of_mem _ hy)) trivial]
      rfl
  exact Wp.of e he
theorem wp_while {f : FT} {b : FS} {n : Nat} (w : Wp (f τ h) (fun c h1 => if c = true then Wp (b τ h1) (fun fl h2 => match fl with | .nx τ' => Wp (sWhile f b n τ' h2) PF X | .ct τ' => Wp (sWhile f b n τ' h2) PF X | .bk τ' => PF (.nx τ') h2 | .rt t => PF (.rt t) h2 | .xc e τ' => PF (.xc e τ') h2) X else PF (.nx τ) h1) (fun e h => PF (.xc e τ) h)) : Wp (sWhile f b (n + 1) τ h) PF X := by
  show Wp (liftE (f τ h) τ fun c h1 => if c = true then (b τ h1).bind _ else .ok (.nx τ) h1) PF X
  rw [wp_lift]
  refine w.imp (fun c h1 p => ?_)
  by_cases z : c = true
  · rw [if_pos z] at p ⊢
    rw [wp_bind]
    refine p.imp (fun fl h2 q => ?_)
    cases fl <;> exact q
  · rw [if_neg z] at p ⊢; exact p
end
theorem zipT {κ : Type} {m : List (κ × T)} : (m.map (·.1)).zip (m.map (·.2)) = m := by
  induction m with
  | nil => rfl
  | cons x m ih => rw [List.map_cons, List.map_cons, List.zip_cons_cons, ih]
theorem getT_putT {κ : Type} [DecidableEq κ] {m : List (κ × T)} {k k' : κ} {v : T} : getT (putT m k v) k' = if k' = k then some v else getT m k' := by
  unfold putT
  by_cases a : (m.any fun kv => decide (kv.1 = k)) = true
  · rw [if_pos a]
    unfold getT
    by_cases z : k' = k
    · subst z
      rw [if_pos rfl]
      induction m with
      | nil => simp at a
      | cons x m ih =>
        obtain ⟨k1, v1⟩ := x
        by_cases y : k1 = k'
        · subst y; simp
        · have a' : (m.any fun kv => decide (kv.1 = k')) = true := by simpa [y] using a
          have := ih a'
          simp only [List.map_cons, if_neg y]
          rw [List.find?_cons_of_neg (by simpa using y)]
          exact this
    · rw [if_neg z]
      clear a
      induction m with
      | nil => rfl
      | cons x m ih =>
        obtain ⟨k1, v1⟩ := x
        by_cases y : k1 = k
        · subst y
          have z' : ¬ k1 = k' := fun e => z e.symm
          simp only [List.map_cons, if_true]
          rw [List.find?_cons_of_neg (by simpa using z'), List.find?_cons_of_neg (by simpa using z')]
          exact ih
        · simp only [List.map_cons, if_neg y]
          by_cases w : k1 = k'
          · subst w; simp
          · rw [List.find?_cons_of_neg (by simpa using w), List.find?_cons_of_neg (by simpa using w)]
            exact ih
  · rw [if_neg a]
    unfold getT
    rw [List.find?_append]
    by_cases z : k' = k
    · subst z
      rw [if_pos rfl]
      have : m.find? (fun kv => decide (kv.1 = k')) = none := by
        rw [List.find?_eq_none]
        intro x hx y
        exact a (List.any_eq_true.mpr ⟨x, hx, y⟩)
      rw [this]
      simp
    · have z' : ¬ k = k' := fun e => z e.symm
      rw [if_neg z]
      simp [z']
section
variable {τ : LS} {h : AH} {P : T → AH → Prop} {PF : Fl → AH → Prop} {PL : List T → AH → Prop} {X : Exc → AH → Prop}
theorem wp_lk {i : Nat} {g : FS} {ks : List Key} {l : List T} (ht : τ[i]? = some (some (.dct ks l))) (w : Wp (g τ h) (fun fl h' => match fl with | .nx τ' => PF (.nx τ') h' | .ct τ' => PF (.ct τ') h' | .bk τ' => PF (.bk τ') h' | .rt t => PF (.rt t) h' | .xc e τ' => False) X) : Wp (sLk i g τ h) PF X := by
  unfold sLk
  rw [ht]
  dsimp only
  revert w
  cases g τ h with
  | bad => exact id
  | exc e h' => exact id
  | ok fl h' => cases fl <;> intro w <;> first | exact w | exact w.elim
theorem wp_lkO {i j : Nat} {gm : List (Key × T) → FS} {m : List (Key × T)} (ht : τ[i]? = some (some (.obj j))) (hj : h[j]? = some (some (.dct m)))
    (w : Wp (gm m τ (h.set j none)) (fun fl h' => h'[j]? = some none ∧ match fl with | .nx τ' => PF (.nx τ') (h'.set j (some (.dct m))) | .ct τ' => PF (.ct τ') (h'.set j (some (.dct m))) | .bk τ' => PF (.bk τ') (h'.set j (some (.dct m))) | .rt t => PF (.rt t) (h'.set j (some (.dct m))) | .xc e τ' => False) (fun _ _ => False)) : Wp (sLkO i gm τ h) PF X := by
  unfold sLkO
  rw [ht]
  dsimp only
  rw [hj]
  dsimp only
  revert w
  cases gm m τ (h.set j none) with
  | bad => exact id
  | exc e h' => exact False.elim
  | ok fl h' =>
    intro w
    obtain ⟨w1, w2⟩ := w
    cases fl with
    | xc e τ' => exact w2.elim
    | _ => dsimp only; rw [w1]; exact w2
@[simp ↓] theorem w_dpop1 {fd fy : FE} : Wp (mDPop1 fd fy τ h) P X = Wp (fd τ h) (fun x h1 => if isD x h1 = true then Wp (fy τ h1) (fun y h2 => Wp (match x with
  | .obj i => match h2[i]? with
    | some (some (.dct m)) => match M.keyOf y with
      | some k => match getT m k with
        | some t => .ok t (h2.set i (some (.dct (dropT m k))))
        | none => .bad
      | none => .bad
    | _ => .bad
  | _ => (.bad : Res T)) P X) X else False) X := by
  unfold mDPop1; rw [wp_bind]
  refine congrArg (fun Q => Wp (fd τ h) Q X) (funext fun x => funext fun h1 => ?_)
  by_cases z : isD x h1 = true
  · rw [if_pos z, if_pos z, wp_bind] <;> rfl
  · rw [if_neg z, if_neg z] <;> rfl
@[simp ↓] theorem w_daug {g : T → T → AH → Res T} {fd fy fv : FE} : Wp (sDAugM g fd fy fv τ h) PF X = Wp (fd τ h) (fun x h1 => Wp (fy τ h1) (fun y h2 => Wp (match x, M.keyOf y with
  | .obj i, some kk => match h2[i]? with
    | some (some (.dct m)) => (match getT m kk with
      | some a => liftE (fv τ h2) τ fun y2 h3 => liftE (g a y2 h3) τ fun z h4 => match h4[i]? with
        | some (some (.dct m2)) => if m2.length < sizeLine then .ok (.nx τ) (h4.set i (some (.dct (putT m2 kk z)))) else .bad
        | _ => .bad
      | none => .bad)
    | _ => .bad
  | _, _ => (.bad : Res Fl)) PF X) (fun e h => PF (.xc e τ) h)) (fun e h => PF (.xc e τ) h) := by
  unfold sDAugM; rw [wp_lift]
  refine congrArg (fun Q => Wp (fd τ h) Q _) (funext fun x => funext fun h1 => ?_)
  rw [wp_lift] <;> rfl
@[simp ↓] theorem w_forO {fo : FE} {a : FG} {b : FS} : Wp (sForO fo a b τ h) PF X = Wp (fo τ h) (fun x h1 => Wp (sForX a b x τ h1) PF X) (fun e h => PF (.xc e τ) h) := by simp only [sForO, wp_lift]
/-- a walk over a tracked list that the walk leaves alone -/
theorem wp_forX {α : Type} {g : α → T} {xs : List α} {a : FG} {b : FS} {j : Nat} (hl : xs.length < 100000) (I : Nat → LS → AH → Prop) (h0 : I 0 τ h) (hj : ∀ k τ h, I k τ h → h[j]? = some (some (.lst (xs.map g))))
    (hs : ∀ k x τ h, xs[k]? = some x → I k τ h → ∃ τ1, a (g x) τ = some τ1 ∧ Wp (b τ1 h) (fun fl h' => match fl with | .nx τ' => Kp (I (k + 1) τ' h') () | .ct τ' => Kp (I (k + 1) τ' h') () | .bk τ' => PF (.nx τ') h' | .rt t => PF (.rt t) h' | .xc e τ' => PF (.xc e τ') h') X)
    (he : ∀ τ h, I xs.length τ h → PF (.nx τ) h) : Wp (sForX a b (.obj j) τ h) PF X := by
  show Wp (sForLv a b j LIVE 0 τ h) PF X
  have gen : ∀ (n k : Nat) (τ : LS) (h : AH), xs.length - k < n → k ≤ xs.length → I k τ h → Wp (sForLv a b j n k τ h) PF X := by
    intro n
    induction n with
    | zero => intro k τ h hn; omega
    | succ n ih =>
      intro k τ h hn hk i
      unfold sForLv
      rw [hj k τ h i]
      dsimp only
      cases e : xs[k]? with
      | none =>
        have : (xs.map g)[k]? = none := by rw [List.getElem?_map, e]; rfl
        rw [this]
        have : k = xs.length := by have := List.getElem?_eq_none_iff.mp e; omega
        subst this
        exact he τ h i
      | some x =>
        have q : (xs.map g)[k]? = some (g x) := by rw [List.getElem?_map, e]; rfl
        rw [q]
        dsimp only
        obtain ⟨τ1, ha, hb⟩ := hs k x τ h e i
        rw [ha]
        dsimp only
        rw [wp_bind]
        have kl := (List.getElem?_eq_some_iff.mp e).1
        refine hb.imp (fun fl h' p => ?_)
        cases fl with
        | nx τ' => exact ih (k + 1) τ' h' (by omega) (by omega) p
        | ct τ' => exact ih (k + 1) τ' h' (by omega) (by omega) p
        | bk τ' => exact p
        | rt t => exact p
        | xc e τ' => exact p
  exact gen LIVE 0 τ h (by unfold LIVE; omega) (Nat.zero_le _) h0
end
theorem putT_new {κ : Type} [DecidableEq κ] {m : List (κ × T)} {k : κ} {v : T} (h : ∀ kv ∈ m, kv.1 ≠ k) : putT m k v = m ++ [(k, v)] := by
  unfold putT
  rw [if_neg]
  intro a
  obtain ⟨x, hx, e⟩ := List.any_eq_true.mp a
  exact h x hx (of_decide_eq_true e)
theorem putT_len {κ : Type} [DecidableEq κ] {m : List (κ × T)} {k : κ} {v : T} : (putT m k v).length ≤ m.length + 1 := by
  unfold putT; split <;> simp
theorem putT_len' {κ : Type} [DecidableEq κ] {m : List (κ × T)} {k : κ} {v u : T} (h : getT m k = some u) : (putT m k v).length = m.length := by
  unfold putT
  rw [if_pos, List.length_map]
  unfold getT at h
  obtain ⟨x, hx, e⟩ := Option.map_eq_some_iff.mp h
  have q : decide (x.1 = k) = true := by simpa using List.find?_some hx
  rw [List.any_eq_true]
  exact ⟨x, List.mem_of_find?_eq_some hx, by simpa using q⟩

theorem mem_nats {x : T} {l : List Nat} (h : x ∈ l.map fun (n : Nat) => T.int (n : Int)) : ∃ n ∈ l, x = .int (n : Int) := by
  obtain ⟨n, a, rfl⟩ := List.mem_map.mp h; exact ⟨n, a, rfl⟩
theorem mem_strs {x : T} {l : List Str} (h : x ∈ l.map T.str) : ∃ n ∈ l, x = .str n := by
  obtain ⟨n, a, rfl⟩ := List.mem_map.mp h; exact ⟨n, a, rfl⟩
section
variable {p : Nat} {h : AH} {P : T → AH → Prop} {X : Exc → AH → Prop}
theorem picks_wp {l : List Str} (hp : Pl p h) (h0 : 0 < l.length) (h1 : l.length ≤ 1000) (k : ∀ z h', z ∈ l → Ht p h h' → P (.str z) h') : Wp (m__law_pick [.obj p, .lst (l.map .str)] h) P X := by
  refine pick_wp hp (by rw [List.length_map]; exact h0) (by rw [List.length_map]; exact h1) fun x h' hx ht => ?_
  obtain ⟨z, hz, rfl⟩ := mem_strs hx
  exact k z h' hz ht
theorem pickn_wp {l : List Nat} (hp : Pl p h) (h0 : 0 < l.length) (h1 : l.length ≤ 1000) (k : ∀ (n : Nat) h', n ∈ l → Ht p h h' → P (.int n) h') : Wp (m__law_pick [.obj p, .lst (l.map fun (n : Nat) => T.int (n : Int))] h) P X := by
  refine pick_wp hp (by rw [List.length_map]; exact h0) (by rw [List.length_map]; exact h1) fun x h' hx ht => ?_
  obtain ⟨z, hz, rfl⟩ := mem_nats hx
  exact k z h' hz ht
theorem many_wp (hp : Pl p h) (k : ∀ (n : Nat) h', n ≤ 6 → Ht p h h' → P (.int n) h') : Wp (m__law_many [.obj p] h) P X := by
  unfold m__law_many b__law_many
  simp -dsimp
  exact pickn_wp (l := [0, 0, 0, 0, 1, 1, 1, 1, 1, 2, 2, 2, 2, 3, 3, 6]) hp (by decide) (by decide) fun n h' hn ht => k n h' ((by decide : ∀ n ∈ [0, 0, 0, 0, 1, 1, 1, 1, 1, 2, 2, 2, 2, 3, 3, 6], n ≤ 6) n hn) ht
theorem long_wp (hp : Pl p h) (k : ∀ (n : Nat) h', n ≤ 1000 → Ht p h h' → P (.int n) h') : Wp (m__law_long [.obj p] h) P X := by
  unfold m__law_long b__law_long
  simp -dsimp
  refine draw_wp hp (by decide) (by decide) fun r h1 r0 r1 ht => ?_
  simp -dsimp
  obtain ⟨i, rfl⟩ : ∃ i : Nat, r = i := ⟨r.toNat, by omega⟩
  refine pickn_wp (l := [1, 2, 9, 10, 999, 1000, 1 + i]) ht.pl (by simp -dsimp) (by simp -dsimp) fun n h' hn ht' => k n h' ?_ (ht.trans ht')
  simp only [List.mem_cons, List.not_mem_nil, or_false] at hn
  omega
theorem word_wp (hp : Pl p h) (k : ∀ r h', -2147483648 ≤ r → r ≤ 2147483647 → Ht p h h' → P (.int r) h') : Wp (m__law_word [.obj p] h) P X := by
  unfold m__law_word b__law_word
  simp -dsimp
  refine draw_wp hp (by decide) (by decide) fun r h1 r0 r1 ht => ?_
  simp -dsimp
  by_cases z : r < 2
  · simp -dsimp [z]
    refine draw_wp ht.pl (by decide) (by decide) fun r2 h2 a b ht2 => ?_
    simp -dsimp
    exact k _ _ (by omega) (by omega) (ht.trans ht2)
  · simp -dsimp [z]
    by_cases y : r = 2
    · simp -dsimp [y]
      refine draw_wp ht.pl (by decide) (by decide) fun r2 h2 a b ht2 => ?_
      simp -dsimp
      obtain ⟨i, rfl⟩ : ∃ i : Nat, r2 = i := ⟨r2.toNat, by omega⟩
      rw [atI_nat]
      have hi : i < 14 := by omega
      have key : ∀ i : Nat, i < 14 → ∃ w : Int, ([-2147483648, -2147483647, -2049, -2048, -1, 0, 1, 31, 32, 33, 2047, 2048, 4095, 2147483647] : List Int)[i]? = some w ∧ -2147483648 ≤ w ∧ w ≤ 2147483647 := by decide +revert
      obtain ⟨w, hw, w0, w1⟩ := key i hi
      have e : (([-2147483648, -2147483647, -2049, -2048, -1, 0, 1, 31, 32, 33, 2047, 2048, 4095, 2147483647] : List Int).map T.int)[i]? = some (.int w) := by rw [List.getElem?_map, hw]; rfl
      simp only [List.map] at e
      simp -dsimp [e]
      exact k _ _ w0 w1 (ht.trans ht2)
    · simp -dsimp [y]
      refine draw_wp ht.pl (by decide) (by decide) fun r2 h2 a b ht2 => ?_
      simp -dsimp
      exact k _ _ (by omega) (by omega) (ht.trans ht2)
end

theorem alpha_ix {i : Nat} (h : i < 36) : ∃ c, c < 0x110000 ∧ atI (Str.ofString "abcdefghijklmnopqrstuvwxyz0123456789").cps.toList (i : Int) = some c := by
  rw [atI_nat]
  have e : (Str.ofString "abcdefghijklmnopqrstuvwxyz0123456789").cps.toList.length = 36 := by decide
  have a : ∀ c ∈ (Str.ofString "abcdefghijklmnopqrstuvwxyz0123456789").cps.toList, c < 0x110000 := by decide
  exact ⟨_, a _ (List.getElem_mem (by rw [e]; exact h)), List.getElem?_eq_getElem (by rw [e]; exact h)⟩
theorem ok_one {c : Nat} (h : c < 0x110000) : PyData.strOk { cps := #[c] } = true := by simp [PyData.strOk, h]
theorem ok_app {z : Str} {c : Nat} (h : c < 0x110000) (hz : PyData.strOk z = true) : PyData.strOk (z ++ ({ cps := #[c] } : Str)) = true := by
  show (z.cps ++ #[c]).all (· < 0x110000) = true
  unfold PyData.strOk at hz
  rw [Array.all_append, hz]; simp [h]
theorem alpha_len : (Str.ofString "abcdefghijklmnopqrstuvwxyz0123456789").length ≤ sizeLine := by decide
section
variable {p : Nat} {h : AH} {P : T → AH → Prop} {X : Exc → AH → Prop}
theorem title_wp (hp : Pl p h) (k : ∀ z h', PyData.strOk z = true → Ht p h h' → P (.str z) h') : Wp (m__law_title [.obj p] h) P X := by
  unfold m__law_title b__law_title
  simp -dsimp
  refine draw_wp hp (by decide) (by decide) fun r h1 r0 r1 ht => ?_
  simp -dsimp
  by_cases z : 0 < r
  · simp -dsimp [z]
    exact picks_wp (l := ["g", "main", "f", "x5", "call", "high", "low", "need", "array", "mark", "function", "add", "lw", "ecall", "a0", "abcdefgh"]) ht.pl (by decide) (by decide) fun z h' hz ht' => k z h' ((by decide +kernel : ∀ z ∈ (["g", "main", "f", "x5", "call", "high", "low", "need", "array", "mark", "function", "add", "lw", "ecall", "a0", "abcdefgh"] : List Str), PyData.strOk z = true) z hz) (ht.trans ht')
  · simp -dsimp [z]
    refine draw_wp ht.pl (by decide) (by decide) fun r2 h2 a b ht2 => ?_
    obtain ⟨i, rfl⟩ : ∃ i : Nat, r2 = i := ⟨r2.toNat, by omega⟩
    obtain ⟨c, oc, hc⟩ := alpha_ix (i := i) (by omega)
    simp -dsimp [alpha_len, hc]
    refine draw_wp ht2.pl (by decide) (by decide) fun r3 h3 a3 b3 ht3 => ?_
    obtain ⟨n, rfl⟩ : ∃ n : Nat, r3 = n := ⟨r3.toNat, by omega⟩
    simp -dsimp [r62_s (i := (n : Int)) (by omega) (by omega)]
    refine for_seq (fun j τ h4 => ∃ (z : Str) (x4 : Option T), τ = [some (.obj p), none, some (.str "abcdefghijklmnopqrstuvwxyz0123456789"), some (.str z), x4] ∧ Ht p h h4 ∧ z.length = 1 + j ∧ PyData.strOk z = true) ⟨_, none, rfl, (ht.trans ht2).trans ht3, rfl, ok_one oc⟩ ?_ ?_
    · rintro j x τ h4 hx ⟨z, x4, rfl, t4, hz, oz⟩
      have jl : j < n := by have := (List.getElem?_eq_some_iff.mp hx).1; simpa using this
      refine ⟨_, rfl, ?_⟩
      unfold l1__law_title
      simp -dsimp
      refine draw_wp t4.pl (by decide) (by decide) fun r5 h5 a5 b5 ht5 => ?_
      obtain ⟨i5, rfl⟩ : ∃ i : Nat, r5 = i := ⟨r5.toNat, by omega⟩
      obtain ⟨c5, oc5, hc5⟩ := alpha_ix (i := i5) (by omega)
      have l1 : ({ cps := #[c5] } : Str).length = 1 := rfl
      have l2 : (z ++ ({ cps := #[c5] } : Str)).length = z.length + 1 := by
        show (z.cps ++ #[c5]).size = z.cps.size + 1
        simp
      simp -dsimp [alpha_len, hc5, l1, show z.length + 1 ≤ sizeLine from sz (by omega)]
      refine Kp.mk ⟨_, _, rfl, t4.trans ht5, by rw [l2]; omega, ok_app oc5 oz⟩
    · rintro τ h4 ⟨z, x4, rfl, t4, hz, oz⟩
      simp -dsimp
      generalize inT (T.str z) _ = b
      cases b
      · simp -dsimp
        exact k _ _ oz t4
      · simp -dsimp
        exact k _ _ (by decide +kernel) t4
theorem want_wp (hp : Pl p h) (k : ∀ (z kd : Str) (n : Nat) h', PyData.strOk z = true → PyData.strOk kd = true → n ≤ 1000 → Ht p h h' → P (.tup [.str z, .str kd, .int n]) h') : Wp (m__law_want [.obj p] h) P X := by
  unfold m__law_want b__law_want
  simp -dsimp
  refine title_wp hp fun z h1 oz t1 => ?_
  simp -dsimp
  refine draw_wp t1.pl (by decide) (by decide) fun r h2 r0 r1 t2 => ?_
  simp -dsimp
  by_cases z0 : r = 0
  · simp -dsimp [z0]
    exact k z "word" 0 _ oz (by decide +kernel) (by omega) (t1.trans t2)
  · simp -dsimp [z0]
    by_cases z1 : r = 1
    · simp -dsimp [z1]
      refine long_wp t2.pl fun n h3 hn t3 => ?_
      simp -dsimp
      exact k z "array" n _ oz (by decide +kernel) hn ((t1.trans t2).trans t3)
    · simp -dsimp [z1]
      refine draw_wp t2.pl (by decide) (by decide) fun r3 h3 a b t3 => ?_
      simp -dsimp
      obtain ⟨i, rfl⟩ : ∃ i : Nat, r3 = i := ⟨r3.toNat, by omega⟩
      exact k z "function" i _ oz (by decide +kernel) (by omega) ((t1.trans t2).trans t3)
theorem datum_wp (hp : Pl p h) (k : ∀ (z : Str) (a b : Int) h', PyData.strOk z = true → Ht p h h' → P (.tup [.str z, .int a, .int b]) h') : Wp (m__law_datum [.obj p] h) P X := by
  unfold m__law_datum b__law_datum
  simp -dsimp
  refine title_wp hp fun z h1 oz t1 => ?_
  simp -dsimp
  refine draw_wp t1.pl (by decide) (by decide) fun r h2 r0 r1 t2 => ?_
  simp -dsimp
  by_cases z0 : r = 0
  · simp -dsimp [z0]
    refine word_wp t2.pl fun w h3 _ _ t3 => ?_
    simp -dsimp
    exact k z 0 w _ oz ((t1.trans t2).trans t3)
  · simp -dsimp [z0]
    refine long_wp t2.pl fun n h3 hn t3 => ?_
    simp -dsimp
    exact k z n 0 _ oz ((t1.trans t2).trans t3)
theorem edge_wp {lo hi : Int} (hp : Pl p h) (h0 : -10000000 ≤ lo) (h1 : lo ≤ 0) (h2 : 0 ≤ hi) (h3 : hi ≤ 10000000) (k : ∀ (w : Int) h', lo ≤ w → w ≤ hi → Ht p h h' → P (.int w) h') : Wp (m__law_edge [.obj p, .int lo, .int hi] h) P X := by
  unfold m__law_edge b__law_edge
  simp -dsimp
  refine draw_wp hp (by decide) (by decide) fun r h1' r0 r1 t1 => ?_
  simp -dsimp
  by_cases z0 : r = 0
  · simp -dsimp [z0]
    exact k _ _ (by omega) (by omega) t1
  · simp -dsimp [z0]
    by_cases z1 : r = 1
    · simp -dsimp [z1]
      exact k _ _ (by omega) (by omega) t1
    · simp -dsimp [z1]
      by_cases z2 : r = 2
      · simp -dsimp [z2]
        exact k _ _ (by omega) (by omega) t1
      · simp -dsimp [z2]
        refine draw_wp t1.pl (by omega) (by omega) fun r3 h3 a b t3 => ?_
        simp -dsimp
        exact k _ _ (by omega) (by omega) (t1.trans t3)
end

abbrev Wt := Str × Str × Int
def wtT : Wt → T := fun x => .tup [.str x.1, .str x.2.1, .int x.2.2]
def wtD : Wt → PyData := fun x => .tuple [.str x.1, .str x.2.1, .int x.2.2]
theorem toD_wtT {x : Wt} : toD (wtT x) = some (wtD x) := rfl
theorem toDL_wtT {l : List Wt} : toDL (l.map wtT) = some (l.map wtD) := by
  induction l with
  | nil => rfl
  | cons x l ih =>
    rw [List.map_cons, List.map_cons]
    unfold toDL
    rw [toD_wtT, ih]
def WOk (x : Wt) : Prop := PyData.strOk x.1 = true ∧ PyData.strOk x.2.1 = true
theorem wtD_lay {x : Wt} (ok : WOk x) : (wtD x).canLay0 = true := by simp [wtD, PyData.canLay0, PyData.canLayAll0, ok.1, ok.2]
theorem wtD_depth {x : Wt} : (wtD x).depth = 1 := by simp [wtD, PyData.depth, PyData.depthAll]
theorem wtDs_lay {l : List Wt} (ok : ∀ x ∈ l, WOk x) : PyData.canLayAll0 (l.map wtD) = true := by
  induction l with
  | nil => simp [PyData.canLayAll0]
  | cons x l ih => simp [PyData.canLayAll0, wtD_lay (ok x List.mem_cons_self), ih fun z hz => ok z (List.mem_cons_of_mem _ hz)]
theorem wtDs_depth {l : List Wt} : PyData.depthAll (l.map wtD) ≤ 1 := by
  induction l with
  | nil => simp [PyData.depthAll]
  | cons x l ih => simp [PyData.depthAll, wtD_depth]; omega
theorem wtD_eqv {x y : Wt} : PyData.eqv (wtD x) (wtD y) = decide (x = y) := by
  obtain ⟨a, b, c⟩ := x
  obtain ⟨u, v, w⟩ := y
  have e : PyData.eqv (wtD (a, b, c)) (wtD (u, v, w)) = ((a == u) && ((b == v) && ((c == w) && true))) := by
    simp [wtD, PyData.eqv, PyData.eqvAll]
  rw [e]
  by_cases z : a = u
  · by_cases y : b = v
    · by_cases x : c = w
      · subst z; subst y; subst x; simp
      · simp [z, y, x]
    · simp [z, y]
  · simp [z]
theorem wt_shaped {x : Wt} (ok : WOk x) : SeqAt.shaped (wtD x) = true := by unfold SeqAt.shaped; rw [wtD_lay ok, wtD_depth]; rfl
theorem wts_any {x : Wt} {l : List Wt} : ((l.map wtD).any fun z => PyData.eqv z (wtD x)) = decide (x ∈ l) := by
  rw [List.any_map]
  rw [Bool.eq_iff_iff, List.any_eq_true, decide_eq_true_iff]
  constructor
  · rintro ⟨y, hy, e⟩
    have e : PyData.eqv (wtD y) (wtD x) = true := e
    rw [wtD_eqv] at e
    have := of_decide_eq_true e
    subst this; exact hy
  · intro hx
    refine ⟨x, hx, ?_⟩
    show PyData.eqv (wtD x) (wtD x) = true
    rw [wtD_eqv]; exact decide_eq_true rfl
theorem wts_shapedL {l : List Wt} (ok : ∀ x ∈ l, WOk x) : SeqAt.shaped (.list (l.map wtD)) = true := by
  unfold SeqAt.shaped
  have e1 : PyData.canLay0 (.list (l.map wtD)) = true := by simp [PyData.canLay0, wtDs_lay ok]
  have e2 : PyData.depth (.list (l.map wtD)) ≤ 64 := by
    have := wtDs_depth (l := l)
    simp [PyData.depth]; omega
  rw [e1, decide_eq_true e2]; rfl
theorem wts_shapedT {l : List Wt} (ok : ∀ x ∈ l, WOk x) : SeqAt.shaped (.tuple (l.map wtD)) = true := by
  unfold SeqAt.shaped
  have e1 : PyData.canLay0 (.tuple (l.map wtD)) = true := by simp [PyData.canLay0, wtDs_lay ok]
  have e2 : PyData.depth (.tuple (l.map wtD)) ≤ 64 := by
    have := wtDs_depth (l := l)
    simp [PyData.depth]; omega
  rw [e1, decide_eq_true e2]; rfl
/-- not in a tracked list of needs -/
theorem wt_ninH {x : Wt} {l : List Wt} {h : AH} {i : Nat} (ox : WOk x) (ok : ∀ x ∈ l, WOk x) (e : h[i]? = some (some (.lst (l.map wtT)))) : gInDH true (wtT x) (.obj i) h = some (.bl (!decide (x ∈ l))) := by
  have e3 : toDO (.obj i) h = some (.list (l.map wtD)) := by
    unfold toDO
    simp only [e, toDL_wtT]
    rfl
  unfold gInDH
  rw [toD_wtT, e3]
  dsimp only
  rw [if_pos ⟨wt_shaped ox, wts_shapedL ok⟩, wts_any]
  rfl
theorem wt_ninT {x : Wt} {l : List Wt} (ox : WOk x) (ok : ∀ x ∈ l, WOk x) : gInT true (wtT x) (.tup (l.map wtT)) = some (.bl (!decide (x ∈ l))) := by
  have e3 : toD (.tup (l.map wtT)) = some (.tuple (l.map wtD)) := by
    show (toDL (l.map wtT)).map PyData.tuple = _
    rw [toDL_wtT]; rfl
  unfold gInT
  rw [toD_wtT, e3]
  dsimp only
  rw [if_pos ⟨wt_shaped ox, wts_shapedT ok⟩, wts_any]
  rfl

/-- the table's rows: a name, its form, three numbers -/
def tb0 : List (Str × Str × Int × Int × Int) := [("jalr", "I", 103, 0, 0), ("lw", "I", 3, 2, 0), ("sw", "S", 35, 2, 0), ("jal", "J", 111, 0, 0), ("lui", "U", 55, 0, 0), ("auipc", "U", 23, 0, 0), ("add", "R", 51, 0, 0), ("mul", "R", 51, 0, 1), ("sll", "R", 51, 1, 0), ("mulh", "R", 51, 1, 1)]
def tb1 : List (Str × Str × Int × Int × Int) := [("slt", "R", 51, 2, 0), ("mulhsu", "R", 51, 2, 1), ("sltu", "R", 51, 3, 0), ("mulhu", "R", 51, 3, 1), ("xor", "R", 51, 4, 0), ("div", "R", 51, 4, 1), ("srl", "R", 51, 5, 0), ("divu", "R", 51, 5, 1), ("or", "R", 51, 6, 0), ("rem", "R", 51, 6, 1)]
def tb2 : List (Str × Str × Int × Int × Int) := [("and", "R", 51, 7, 0), ("remu", "R", 51, 7, 1), ("sub", "R", 51, 0, 32), ("sra", "R", 51, 5, 32), ("addi", "I", 19, 0, 0), ("slti", "I", 19, 2, 0), ("sltiu", "I", 19, 3, 0), ("xori", "I", 19, 4, 0), ("ori", "I", 19, 6, 0), ("andi", "I", 19, 7, 0)]
def tb3 : List (Str × Str × Int × Int × Int) := [("slli", "shift", 19, 1, 0), ("srli", "shift", 19, 5, 0), ("srai", "shift", 19, 5, 32), ("beq", "B", 99, 0, 0), ("bne", "B", 99, 1, 0), ("blt", "B", 99, 4, 0), ("bge", "B", 99, 5, 0), ("bltu", "B", 99, 6, 0), ("bgeu", "B", 99, 7, 0)]
def tb : List (Str × Str × Int × Int × Int) := tb0 ++ (tb1 ++ (tb2 ++ tb3))
def tfT (x : Str × Int × Int × Int) : T := .tup [.str x.1, .int x.2.1, .int x.2.2.1, .int x.2.2.2]
def tbK : List Key := tb.map fun x => Sum.inr x.1
def tbL : List T := tb.map fun x => tfT x.2
theorem table_ok {o : Option O} : m__law_table [] [o] = .ok (.dct tbK tbL) [o, none] := by kernel_rfl
def names : List Str := tb.map (·.1)
def fm (z : Str) : Option (Str × Int × Int × Int) := (tb.find? fun x => decide (x.1 = z)).map (·.2)
theorem tb_get {z : Str} : getT (tbK.zip tbL) (Sum.inr z) = (fm z).map tfT := by
  have gen : ∀ l : List (Str × Str × Int × Int × Int), getT ((l.map fun x => (Sum.inr x.1 : Key)).zip (l.map fun x => tfT x.2)) (Sum.inr z) = ((l.find? fun x => decide (x.1 = z)).map (·.2)).map tfT := by
    intro l
    induction l with
    | nil => rfl
    | cons x l ih =>
      rw [List.map_cons, List.map_cons, List.zip_cons_cons]
      unfold getT at ih ⊢
      by_cases e : x.1 = z
      · rw [List.find?_cons_of_pos (by simp [e]), List.find?_cons_of_pos (by simp [e])]; rfl
      · rw [List.find?_cons_of_neg (by simp [e]), List.find?_cons_of_neg (by simp [e])]; exact ih
  exact gen tb
theorem fm_some {z : Str} (h : z ∈ names) : ∃ v, fm z = some v := by
  obtain ⟨x, hx, rfl⟩ := List.mem_map.mp h
  unfold fm
  cases e : tb.find? fun y => decide (y.1 = x.1) with
  | none => exact absurd (List.find?_eq_none.mp e x hx) (by simp)
  | some v => exact ⟨v.2, rfl⟩
def goodF (v : Str × Int × Int × Int) : Bool := (["U", "J", "B", "I", "S", "R", "shift"] : List Str).any (fun f => decide (v.1 = f)) && decide (0 ≤ v.2.1 ∧ v.2.1 ≤ 127 ∧ 0 ≤ v.2.2.1 ∧ v.2.2.1 ≤ 7 ∧ 0 ≤ v.2.2.2 ∧ v.2.2.2 ≤ 32)
theorem tb_good : (tb.all fun x => goodF x.2) = true := by decide +kernel
theorem fm_good {z : Str} {v : Str × Int × Int × Int} (h : fm z = some v) : (v.1 = "U" ∨ v.1 = "J" ∨ v.1 = "B" ∨ v.1 = "I" ∨ v.1 = "S" ∨ v.1 = "R" ∨ v.1 = "shift") ∧ 0 ≤ v.2.1 ∧ v.2.1 ≤ 127 ∧ 0 ≤ v.2.2.1 ∧ v.2.2.1 ≤ 7 ∧ 0 ≤ v.2.2.2 ∧ v.2.2.2 ≤ 32 := by
  unfold fm at h
  obtain ⟨x, hx, rfl⟩ := Option.map_eq_some_iff.mp h
  have g := List.all_eq_true.mp tb_good x (List.mem_of_find?_eq_some hx)
  unfold goodF at g
  simp only [Bool.and_eq_true, decide_eq_true_iff, List.any_cons, List.any_nil, Bool.or_eq_true, Bool.or_false] at g
  exact g
/-- a row that the table knows, its entries in bounds -/
inductive Rk : T → Prop
  | alone {z : Str} : Rk (.tup [.str z])
  | three {z : Str} {a b x y c : Int} {f : Str} (h : fm z = some (f, x, y, c)) (hf : f = "U" ∨ f = "J") (a0 : 0 ≤ a) (a1 : a ≤ 31) (b0 : -10000000 ≤ b) (b1 : b ≤ 10000000) : Rk (.tup [.str z, .int a, .int b])
  | four {z : Str} {a b d x y c : Int} {f : Str} (h : fm z = some (f, x, y, c)) (hf : f = "B" ∨ f = "I" ∨ f = "S" ∨ f = "R" ∨ f = "shift") (a0 : 0 ≤ a) (a1 : a ≤ 31) (b0 : 0 ≤ b) (b1 : b ≤ 31) (d0 : -10000 ≤ d) (d1 : d ≤ 10000) : Rk (.tup [.str z, .int a, .int b, .int d])
theorem op_if {C : Prop} [Decidable C] {v : T} {f : T → Prop} (hc : C) (q : f v) : Op (if C then some v else none) f := by rw [if_pos hc]; exact q
theorem lg2 {n m : Nat} (hn : n < 1099511627776) (hm : m < 1099511627776) : n.log2 + m.log2 < 1000000 := by
  have a : n.log2 ≤ 40 := by
    rcases Nat.eq_zero_or_pos n with z | z
    · subst z; decide
    · exact Nat.le_of_lt ((Nat.log2_lt (by omega)).mpr (by omega : n < 2 ^ 40))
  have b : m.log2 ≤ 40 := by
    rcases Nat.eq_zero_or_pos m with z | z
    · subst z; decide
    · exact Nat.le_of_lt ((Nat.log2_lt (by omega)).mpr (by omega : m < 2 ^ 40))
  omega
theorem lg1 {n : Nat} (hn : n < 1099511627776) : n.log2 < 9000 := by
  have := lg2 hn (m := 0) (by decide)
  rcases Nat.eq_zero_or_pos n with z | z
  · subst z; decide
  · exact Nat.lt_of_lt_of_le ((Nat.log2_lt (by omega)).mpr (by omega : n < 2 ^ 40)) (by decide)
section
variable {p : Nat} {h : AH} {P : T → AH → Prop} {X : Exc → AH → Prop}
theorem keys_strs : (tbK.zip tbL).map (fun kv => keyT kv.1) = names.map T.str := by kernel_rfl
theorem drawn_row_wp (hp : Pl p h) (k : ∀ (w : T) h', Rk w → Ht p h h' → P w h') : Wp (m__law_drawn_row [.obj p, .dct tbK tbL] h) P X := by
  have l1 : tbK.length = 39 := by decide +kernel
  have l2 : tbL.length = 39 := by decide +kernel
  have sv : (39 + 2 : Nat) ≤ sizeLine := by decide
  have nl : (names ++ (["ecall", "ebreak"] : List Str)).length = 41 := by decide +kernel
  have e0 : names.map T.str ++ [T.str "ecall", T.str "ebreak"] = (names ++ (["ecall", "ebreak"] : List Str)).map T.str := by rw [List.map_append]; rfl
  unfold m__law_drawn_row b__law_drawn_row
  have n0 : names.length = 39 := by decide +kernel
  simp -dsimp [l1, l2, keys_strs, n0]
  rw [e0]
  refine picks_wp hp (by rw [nl]; decide) (by rw [nl]; decide) fun z h1 hz t1 => ?_
  simp -dsimp [inT_cons, inT_nil, eqF_str]
  by_cases z0 : Str.ofString "ecall" = z ∨ Str.ofString "ebreak" = z
  · have cb : (decide (Str.ofString "ecall" = z) || decide (Str.ofString "ebreak" = z)) = true := by
      rcases z0 with e | e <;> simp [e]
    simp -dsimp [cb]
    exact k _ _ .alone t1
  · rw [not_or] at z0
    have cb : (decide (Str.ofString "ecall" = z) || decide (Str.ofString "ebreak" = z)) = false := by
      rw [decide_eq_false z0.1, decide_eq_false z0.2]; rfl
    simp -dsimp [cb]
    have hz : z ∈ names := by
      rcases List.mem_append.mp hz with q | q
      · exact q
      · rcases List.mem_cons.mp q with q | q
        · exact absurd q.symm z0.1
        · exact absurd (List.mem_singleton.mp q).symm z0.2
    obtain ⟨⟨f, x, y, c⟩, hv⟩ := fm_some hz
    have g := (fm_good hv).1
    dsimp only at g
    have gv : getT (tbK.zip tbL) (Sum.inr z) = some (.tup [.str f, .int x, .int y, .int c]) := by rw [tb_get, hv]; rfl
    simp -dsimp [gv, at_0]
    refine draw_wp t1.pl (by decide) (by decide) fun a h2 a0 a1 t2 => ?_
    simp -dsimp
    have t12 := t1.trans t2
    rcases g with rfl | rfl | rfl | rfl | rfl | rfl | rfl
    · simp -dsimp
      refine edge_wp t2.pl (by decide) (by decide) (by decide) (by decide) fun w h3 w0 w1 t3 => ?_
      simp -dsimp
      exact k _ _ (.three hv (.inl rfl) (by omega) (by omega) (by omega) (by omega)) (t12.trans t3)
    · simp -dsimp
      refine edge_wp t2.pl (by decide) (by decide) (by decide) (by decide) fun w h3 w0 w1 t3 => ?_
      simp -dsimp
      refine op_if (lg2 (by omega) (by omega)) ?_
      simp -dsimp
      exact k _ _ (.three hv (.inr rfl) (by omega) (by omega) (by omega) (by omega)) (t12.trans t3)
    all_goals
      simp -dsimp
      refine draw_wp t2.pl (by decide) (by decide) fun b h3 b0 b1 t3 => ?_
      simp -dsimp
    · refine edge_wp t3.pl (by decide) (by decide) (by decide) (by decide) fun w h4 w0 w1 t4 => ?_
      simp -dsimp
      refine op_if (lg2 (by omega) (by omega)) ?_
      simp -dsimp
      exact k _ _ (.four hv (by simp) (by omega) (by omega) (by omega) (by omega) (by omega) (by omega)) ((t12.trans t3).trans t4)
    · refine edge_wp t3.pl (by decide) (by decide) (by decide) (by decide) fun w h4 w0 w1 t4 => ?_
      simp -dsimp
      exact k _ _ (.four hv (by simp) (by omega) (by omega) (by omega) (by omega) (by omega) (by omega)) ((t12.trans t3).trans t4)
    · refine edge_wp t3.pl (by decide) (by decide) (by decide) (by decide) fun w h4 w0 w1 t4 => ?_
      simp -dsimp
      exact k _ _ (.four hv (by simp) (by omega) (by omega) (by omega) (by omega) (by omega) (by omega)) ((t12.trans t3).trans t4)
    · refine draw_wp t3.pl (by decide) (by decide) fun w h4 w0 w1 t4 => ?_
      simp -dsimp
      exact k _ _ (.four hv (by simp) (by omega) (by omega) (by omega) (by omega) (by omega) (by omega)) ((t12.trans t3).trans t4)
    · refine draw_wp t3.pl (by decide) (by decide) fun w h4 w0 w1 t4 => ?_
      simp -dsimp
      exact k _ _ (.four hv (by simp) (by omega) (by omega) (by omega) (by omega) (by omega) (by omega)) ((t12.trans t3).trans t4)
/-- a row's word -/
theorem encoded_wp {w : T} (hw : Rk w) (k : ∀ i : Int, P (.int i) h) : Wp (m__law_encoded [.dct tbK tbL, w] h) P X := by
  unfold m__law_encoded b__law_encoded
  cases hw with
  | @alone z =>
    simp -dsimp [at_0]
    by_cases e : Str.ofString "ecall" = z
    · simp -dsimp [e]
      exact k _
    · have e' : ¬ z = Str.ofString "ecall" := fun q => e q.symm
      simp -dsimp [e']
      exact k _
  | @three z a b x y c f hv hf a0 a1 b0 b1 =>
    have gv : getT (tbK.zip tbL) (Sum.inr z) = some (.tup [.str f, .int x, .int y, .int c]) := by rw [tb_get, hv]; rfl
    have g := (fm_good hv).2
    dsimp only at g
    rcases hf with rfl | rfl
    · simp -dsimp [gv, at_0, at_1, at_2]
      repeat (refine op_if (by first | exact lg2 (by omega) (by omega) | exact lg1 (by omega)) ?_; simp -dsimp [at_1, at_2])
      exact k _
    · simp -dsimp [gv, at_0, at_1, at_2]
      repeat (refine op_if (by first | exact lg2 (by omega) (by omega) | exact lg1 (by omega)) ?_; simp -dsimp [at_1, at_2])
      exact k _
  | @four z a b d x y c f hv hf a0 a1 b0 b1 d0 d1 =>
    have gv : getT (tbK.zip tbL) (Sum.inr z) = some (.tup [.str f, .int x, .int y, .int c]) := by rw [tb_get, hv]; rfl
    have g := (fm_good hv).2
    dsimp only at g
    rcases hf with rfl | rfl | rfl | rfl | rfl
    all_goals
      simp -dsimp [gv, at_0, at_1, at_2, at_3]
      repeat (refine op_if (by first | exact lg2 (by omega) (by omega) | exact lg1 (by omega)) ?_; simp -dsimp [at_1, at_2, at_3])
      exact k _
end

theorem fm_addi : fm "addi" = some (("I" : Str), (19 : Int), (0 : Int), (0 : Int)) := by decide +kernel
theorem fm_jal : fm "jal" = some (("J" : Str), (111 : Int), (0 : Int), (0 : Int)) := by decide +kernel
theorem fm_lui : fm "lui" = some (("U" : Str), (55 : Int), (0 : Int), (0 : Int)) := by decide +kernel
theorem fm_lw : fm "lw" = some (("I" : Str), (3 : Int), (2 : Int), (0 : Int)) := by decide +kernel
theorem fm_sw : fm "sw" = some (("S" : Str), (35 : Int), (2 : Int), (0 : Int)) := by decide +kernel
def siT : Str × Int → T := fun x => .tup [.str x.1, .int x.2]
section
variable {p : Nat} {h : AH} {P : T → AH → Prop} {X : Exc → AH → Prop}
theorem chain_wp (hp : Pl p h) (k : ∀ (l : List (Str × Int)) h', l.length ≤ 8 → Ht p h h' → P (.tup (l.map siT)) h') : Wp (m__law_chain [.obj p] h) P X := by
  unfold m__law_chain b__law_chain
  simp -dsimp
  refine pickn_wp (l := [1, 1, 2, 3, 8]) (Ht.new hp).pl (by decide) (by decide) fun n h1 hn t1 => ?_
  have hn8 : n ≤ 8 := (by decide : ∀ n ∈ [1, 1, 2, 3, 8], n ≤ 8) n hn
  have pl := hp.lt
  simp -dsimp [r62_s (i := (n : Int)) (by omega) (by omega)]
  refine for_seq (fun j τ h4 => ∃ (l : List (Str × Int)) (x2 x3 x4 : Option T), τ = [some (.obj p), some (.obj h.length), x2, x3, x4] ∧ Ht p h h4 ∧ l.length = j ∧ h4[h.length]? = some (some (.lst (l.map siT)))) ⟨[], none, none, none, rfl, (Ht.new hp).trans t1, rfl, t1.at get_new (by omega)⟩ ?_ ?_
  · rintro j x τ h4 hx ⟨l, x2, x3, x4, rfl, t4, hl, hg⟩
    have jl : j < n := by have := (List.getElem?_eq_some_iff.mp hx).1; simpa using this
    refine ⟨_, rfl, ?_⟩
    unfold l1__law_chain
    simp -dsimp
    refine title_wp t4.pl fun z h5 _ t5 => ?_
    simp -dsimp
    refine draw_wp t5.pl (by decide) (by decide) fun r h6 r0 r1 t6 => ?_
    have g6 := t6.at (t5.at hg (by omega)) (by omega)
    simp -dsimp [g6]
    refine pick_wp (p := p) (l := [.int 0, .int 9, .int 10, .int 199, .int r]) t6.pl (Nat.le_of_ble_eq_true rfl) (Nat.le_of_ble_eq_true rfl) fun y h7 hy t7 => ?_
    obtain ⟨w, rfl⟩ : ∃ w, y = .int w := by
      simp at hy; rcases hy with rfl | rfl | rfl | rfl | rfl <;> exact ⟨_, rfl⟩
    have g7 := t7.at g6 (by omega)
    simp -dsimp [g7, szl (n := l.length) (by omega)]
    refine Kp.mk ⟨l ++ [(z, w)], _, _, _, rfl, (t4.trans (t5.trans (t6.trans t7))).put (Nat.le_refl _) pl, by simp; omega, ?_⟩
    rw [List.getElem?_set_self (PoolAt.lt g7)]; simp -dsimp [siT]
  · rintro τ h4 ⟨l, x2, x3, x4, rfl, t4, hl, hg⟩
    simp at hl
    have f : frz 8 h4 (.obj h.length) = (.lst (l.map siT), h4.set h.length none) := frz_lst hg (by
      intro t ht; obtain ⟨x, _, rfl⟩ := List.mem_map.mp ht; rfl)
    simp -dsimp [f]
    exact k l _ (by omega) (t4.put (Nat.le_refl _) pl)
end
theorem toDL_strs : ∀ {l : List Str}, toDL (l.map .str) = some (l.map .str)
  | [] => rfl
  | z :: l => by rw [List.map_cons, toDL, toDL_strs (l := l)]; rfl
theorem strs_lay {l : List Str} (ok : ∀ z ∈ l, PyData.strOk z = true) : PyData.canLayAll0 (l.map PyData.str) = true := by
  induction l with
  | nil => simp [PyData.canLayAll0]
  | cons x l ih => simp [PyData.canLayAll0, PyData.canLay0, ih fun z hz => ok z (List.mem_cons_of_mem _ hz), ok x List.mem_cons_self]
theorem strs_depth {l : List Str} : PyData.depthAll (l.map PyData.str) = 0 := by
  induction l with
  | nil => simp [PyData.depthAll]
  | cons x l ih => simp [PyData.depthAll, PyData.depth, ih]
theorem sh_strs {l : List Str} (ok : ∀ z ∈ l, PyData.strOk z = true) : SeqAt.shaped (.list (l.map .str)) = true := by
  unfold SeqAt.shaped
  have e1 : PyData.canLay0 (.list (l.map PyData.str)) = true := by simp [PyData.canLay0, strs_lay ok]
  have e2 : PyData.depth (.list (l.map PyData.str)) ≤ 64 := by simp [PyData.depth, strs_depth]
  rw [e1, decide_eq_true e2]; rfl
theorem eq_nil {l : List Str} (ok : ∀ z ∈ l, PyData.strOk z = true) : M.eqT (.lst (l.map .str)) (.lst []) = some (decide (l = [])) := by
  have e1 : toD (.lst (l.map T.str)) = some (.list (l.map .str)) := by
    show (toDL (l.map T.str)).map PyData.list = _
    rw [toDL_strs]; rfl
  have e2 : toD (.lst []) = some (.list []) := rfl
  unfold M.eqT
  simp only [e1, e2]
  rw [if_pos ⟨sh_strs ok, sh_strs (l := []) (by simp)⟩]
  cases l <;> simp [PyData.eqv, PyData.eqvAll]
section
variable {p : Nat} {h : AH} {P : T → AH → Prop} {X : Exc → AH → Prop}
/-- a row with something open, or a plain one -/
theorem open_row_wp {cs os : List Str} (hp : Pl p h) (hc : cs.length ≤ 900) (ho : os.length ≤ 900) (kc : ∀ z ∈ cs, PyData.strOk z = true) (ko : ∀ z ∈ os, PyData.strOk z = true) (k : ∀ (w : T) (kd z : Str) h', Rk w → Ht p h h' → P (.tup [w, .str kd, .str z]) h') : Wp (m__law_open_row [.obj p, .lst (cs.map .str), .lst (os.map .str)] h) P X := by
  unfold m__law_open_row b__law_open_row
  simp -dsimp
  refine draw_wp hp (by decide) (by decide) fun r h1 r0 r1 t1 => ?_
  simp -dsimp
  refine draw_wp t1.pl (by decide) (by decide) fun a h2 a0 a1 t2 => ?_
  simp -dsimp
  refine draw_wp t2.pl (by decide) (by decide) fun b h3 b0 b1 t3 => ?_
  simp -dsimp
  have last : P (.tup [.tup [.str "addi", .int a, .int b, .int 0], .str "", .str ""]) h3 := k _ "" "" _ (.four fm_addi (.inr (.inl rfl)) a0 (by omega) b0 (by omega) (by decide) (by decide)) ((t1.trans t2).trans t3)
  have nc : ∀ {l : List Str}, l ≠ [] → 0 < (l.map T.str).length := fun h => by rw [List.length_map]; exact List.length_pos_iff.mpr h
  have pc : ∀ {l : List Str} {h1 : AH} {P : T → AH → Prop}, l.length ≤ 900 → l ≠ [] → Pl p h1 → (∀ z h', Ht p h1 h' → P (.str z) h') → Wp (m__law_pick [.obj p, .lst (l.map .str)] h1) P X := fun hl hn hp k => picks_wp hp (List.length_pos_iff.mpr hn) (by omega) fun z h' _ t => k z h' t
  by_cases z0 : r = 0
  · simp -dsimp [z0, eq_nil kc, eq_nil ko]
    by_cases y : cs = []
    · subst y
      simp -dsimp [z0]
      exact last
    · simp -dsimp [y]
      refine pc hc y t3.pl fun z h4 t4 => ?_
      simp -dsimp
      exact k _ _ _ _ (.three fm_jal (.inr rfl) a0 (by omega) (by decide) (by decide)) (((t1.trans t2).trans t3).trans t4)
  · simp -dsimp [z0]
    by_cases z1 : r = 1
    · simp -dsimp [z1, eq_nil kc, eq_nil ko]
      by_cases y : os = []
      · subst y
        simp -dsimp [z1]
        exact last
      · simp -dsimp [y]
        refine pc ho y t3.pl fun z h4 t4 => ?_
        simp -dsimp
        exact k _ _ _ _ (.three fm_lui (.inl rfl) a0 (by omega) (by decide) (by decide)) (((t1.trans t2).trans t3).trans t4)
    · simp -dsimp [z1, show 1 < r by omega, eq_nil ko]
      by_cases y : os = []
      · subst y
        simp -dsimp
        exact last
      · simp -dsimp [y]
        obtain ⟨i, hi⟩ : ∃ i : Nat, r - 2 = i := ⟨(r - 2).toNat, by omega⟩
        have i3 : i < 3 := by omega
        obtain ⟨w, f, x', y', c', hw, fw, hf⟩ : ∃ w f x y c, ([.str "addi", .str "lw", .str "sw"] : List T)[i]? = some (.str w) ∧ fm w = some (f, x, y, c) ∧ (f = "B" ∨ f = "I" ∨ f = "S" ∨ f = "R" ∨ f = "shift") := by
          rcases i with _ | _ | _ | i
          · exact ⟨_, _, _, _, _, rfl, fm_addi, .inr (.inl rfl)⟩
          · exact ⟨_, _, _, _, _, rfl, fm_lw, .inr (.inl rfl)⟩
          · exact ⟨_, _, _, _, _, rfl, fm_sw, .inr (.inr (.inl rfl))⟩
          · omega
        simp -dsimp [hi, atI_nat, hw]
        refine pc ho y t3.pl fun z h4 t4 => ?_
        simp -dsimp
        exact k _ _ _ _ (.four fw hf a0 (by omega) b0 (by omega) (by decide) (by decide)) (((t1.trans t2).trans t3).trans t4)
end

/-! a thing: six lists that change, held by a dict that changes no more -/
structure Tg where
  rows : List T
  defs : List (Str × Int × Int × Int)
  outer : List (Str × Int × Int)
  wants : List Wt
  opn : List (Int × Str × Str)
  signs : List (Int × Str × List (Str × Int))
def dfT : Str × Int × Int × Int → T := tfT
def otT : Str × Int × Int → T := fun x => .tup [.str x.1, .int x.2.1, .int x.2.2]
def opT : Int × Str × Str → T := fun x => .tup [.int x.1, .str x.2.1, .str x.2.2]
def sgT : Int × Str × List (Str × Int) → T := fun x => .tup [.int x.1, .str x.2.1, .tup (x.2.2.map siT)]
structure TgAt (b : Nat) (h : AH) (t : Tg) : Prop where
  r : h[b]? = some (some (.lst t.rows))
  d : h[b + 1]? = some (some (.lst (t.defs.map dfT)))
  o : h[b + 2]? = some (some (.lst (t.outer.map otT)))
  w : h[b + 3]? = some (some (.lst (t.wants.map wtT)))
  p : h[b + 4]? = some (some (.lst (t.opn.map opT)))
  s : h[b + 5]? = some (some (.lst (t.signs.map sgT)))
  rk : ∀ x ∈ t.rows, Rk x
  wk : ∀ x ∈ t.wants, WOk x
  ok : ∀ x ∈ t.outer, PyData.strOk x.1 = true
  sg : ∀ x ∈ t.signs, x.2.2.length ≤ 8
  pl : t.opn.length ≤ t.rows.length
  sl : t.signs.length ≤ t.rows.length
def thT (b : Nat) : T := .dct [Sum.inr "rows", Sum.inr "defs", Sum.inr "outer", Sum.inr "wants", Sum.inr "open", Sum.inr "signs"] [.obj b, .obj (b + 1), .obj (b + 2), .obj (b + 3), .obj (b + 4), .obj (b + 5)]
theorem th_r {b : Nat} {h : AH} : lookD (thT b) (.str "rows") h = some (some (.obj b)) := by kernel_rfl
theorem th_d {b : Nat} {h : AH} : lookD (thT b) (.str "defs") h = some (some (.obj (b + 1))) := by kernel_rfl
theorem th_o {b : Nat} {h : AH} : lookD (thT b) (.str "outer") h = some (some (.obj (b + 2))) := by kernel_rfl
theorem th_w {b : Nat} {h : AH} : lookD (thT b) (.str "wants") h = some (some (.obj (b + 3))) := by kernel_rfl
theorem th_p {b : Nat} {h : AH} : lookD (thT b) (.str "open") h = some (some (.obj (b + 4))) := by kernel_rfl
theorem th_s {b : Nat} {h : AH} : lookD (thT b) (.str "signs") h = some (some (.obj (b + 5))) := by kernel_rfl
/-- what a def keeps that draws and writes the thing at b -/
structure Hb (p b : Nat) (h h' : AH) : Prop where
  pl : Pl p h'
  len : h.length ≤ h'.length
  keep : ∀ q, q < h.length → q ≠ p → (q < b ∨ b + 6 ≤ q) → h'[q]? = h[q]?
theorem Hb.trans {p b : Nat} {h h1 h2 : AH} (x : Hb p b h h1) (y : Hb p b h1 h2) : Hb p b h h2 := ⟨y.pl, Nat.le_trans x.len y.len, fun q hq n z => (y.keep q (Nat.lt_of_lt_of_le hq x.len) n z).trans (x.keep q hq n z)⟩
theorem Ht.hb {p b : Nat} {h h1 : AH} (x : Ht p h h1) : Hb p b h h1 := ⟨x.pl, x.len, fun q hq n _ => x.keep q hq n⟩
theorem Hb.put {p b : Nat} {h h1 : AH} {i : Nat} {o : Option O} (a : Hb p b h h1) (hi : b ≤ i) (hi2 : i < b + 6) (pb : p < b) : Hb p b h (h1.set i o) := by
  obtain ⟨x, e, q⟩ := a.pl
  refine ⟨⟨x, ?_, q⟩, by rw [List.length_set]; exact a.len, fun j hj n z => ?_⟩
  · rw [List.getElem?_set_ne (by omega)]; exact e
  · rw [List.getElem?_set_ne (by omega)]; exact a.keep j hj n z
theorem TgAt.ht {p b : Nat} {h h1 : AH} {t : Tg} (a : TgAt b h t) (x : Ht p h h1) (pb : p < b) : TgAt b h1 t :=
  ⟨x.at a.r (by omega), x.at a.d (by omega), x.at a.o (by omega), x.at a.w (by omega), x.at a.p (by omega), x.at a.s (by omega), a.rk, a.wk, a.ok, a.sg, a.pl, a.sl⟩
theorem TgAt.lt {b : Nat} {h : AH} {t : Tg} (a : TgAt b h t) : b + 6 ≤ h.length := PoolAt.lt a.s
theorem TgAt.row {b : Nat} {h : AH} {t : Tg} (a : TgAt b h t) {w : T} (hw : Rk w) : TgAt b (h.set b (some (.lst (t.rows ++ [w])))) { t with rows := t.rows ++ [w] } := by
  have l := a.lt
  refine ⟨List.getElem?_set_self (by omega), ?_, ?_, ?_, ?_, ?_, fun x hx => ?_, a.wk, a.ok, a.sg, ?_, ?_⟩
  · rw [List.getElem?_set_ne (by omega)]; exact a.d
  · rw [List.getElem?_set_ne (by omega)]; exact a.o
  · rw [List.getElem?_set_ne (by omega)]; exact a.w
  · rw [List.getElem?_set_ne (by omega)]; exact a.p
  · rw [List.getElem?_set_ne (by omega)]; exact a.s
  · rcases List.mem_append.mp hx with q | q
    · exact a.rk x q
    · rw [List.mem_singleton.mp q]; exact hw
  · have := a.pl; simp only [List.length_append, List.length_singleton]; omega
  · have := a.sl; simp only [List.length_append, List.length_singleton]; omega
theorem TgAt.opn' {b : Nat} {h : AH} {t : Tg} (a : TgAt b h t) {w : Int × Str × Str} (hl : t.opn.length < t.rows.length) : TgAt b (h.set (b + 4) (some (.lst (t.opn.map opT ++ [opT w])))) { t with opn := t.opn ++ [w] } := by
  have l := a.lt
  refine ⟨?_, ?_, ?_, ?_, ?_, ?_, a.rk, a.wk, a.ok, a.sg, ?_, a.sl⟩
  · rw [List.getElem?_set_ne (by omega)]; exact a.r
  · rw [List.getElem?_set_ne (by omega)]; exact a.d
  · rw [List.getElem?_set_ne (by omega)]; exact a.o
  · rw [List.getElem?_set_ne (by omega)]; exact a.w
  · rw [List.getElem?_set_self (by omega), List.map_append]; rfl
  · rw [List.getElem?_set_ne (by omega)]; exact a.s
  · simp only [List.length_append, List.length_singleton]; omega
theorem TgAt.sign' {b : Nat} {h : AH} {t : Tg} (a : TgAt b h t) {w : Int × Str × List (Str × Int)} (hl : t.signs.length < t.rows.length) (h8 : w.2.2.length ≤ 8) : TgAt b (h.set (b + 5) (some (.lst (t.signs.map sgT ++ [sgT w])))) { t with signs := t.signs ++ [w] } := by
  have l := a.lt
  refine ⟨?_, ?_, ?_, ?_, ?_, ?_, a.rk, a.wk, a.ok, fun x hx => ?_, a.pl, ?_⟩
  · rw [List.getElem?_set_ne (by omega)]; exact a.r
  · rw [List.getElem?_set_ne (by omega)]; exact a.d
  · rw [List.getElem?_set_ne (by omega)]; exact a.o
  · rw [List.getElem?_set_ne (by omega)]; exact a.w
  · rw [List.getElem?_set_ne (by omega)]; exact a.p
  · rw [List.getElem?_set_self (by omega), List.map_append]; rfl
  · rcases List.mem_append.mp hx with q | q
    · exact a.sg x q
    · rw [List.mem_singleton.mp q]; exact h8
  · simp only [List.length_append, List.length_singleton]; omega
theorem TgAt.want' {b : Nat} {h : AH} {t : Tg} (a : TgAt b h t) {w : Wt} (hw : WOk w) : TgAt b (h.set (b + 3) (some (.lst (t.wants.map wtT ++ [wtT w])))) { t with wants := t.wants ++ [w] } := by
  have l := a.lt
  refine ⟨?_, ?_, ?_, ?_, ?_, ?_, a.rk, fun x hx => ?_, a.ok, a.sg, a.pl, a.sl⟩
  · rw [List.getElem?_set_ne (by omega)]; exact a.r
  · rw [List.getElem?_set_ne (by omega)]; exact a.d
  · rw [List.getElem?_set_ne (by omega)]; exact a.o
  · rw [List.getElem?_set_self (by omega), List.map_append]; rfl
  · rw [List.getElem?_set_ne (by omega)]; exact a.p
  · rw [List.getElem?_set_ne (by omega)]; exact a.s
  · rcases List.mem_append.mp hx with q | q
    · exact a.wk x q
    · rw [List.mem_singleton.mp q]; exact hw
theorem TgAt.wants' {b : Nat} {h : AH} {t : Tg} (a : TgAt b h t) {l : List Wt} (hw : ∀ x ∈ l, WOk x) : TgAt b (h.set (b + 3) (some (.lst (l.map wtT)))) { t with wants := l } := by
  have l' := a.lt
  refine ⟨?_, ?_, ?_, ?_, ?_, ?_, a.rk, hw, a.ok, a.sg, a.pl, a.sl⟩
  · rw [List.getElem?_set_ne (by omega)]; exact a.r
  · rw [List.getElem?_set_ne (by omega)]; exact a.d
  · rw [List.getElem?_set_ne (by omega)]; exact a.o
  · rw [List.getElem?_set_self (by omega)]
  · rw [List.getElem?_set_ne (by omega)]; exact a.p
  · rw [List.getElem?_set_ne (by omega)]; exact a.s
theorem TgAt.outer' {b : Nat} {h : AH} {t : Tg} (a : TgAt b h t) {w : Str × Int × Int} (hw : PyData.strOk w.1 = true) : TgAt b (h.set (b + 2) (some (.lst (t.outer.map otT ++ [otT w])))) { t with outer := t.outer ++ [w] } := by
  have l := a.lt
  refine ⟨?_, ?_, ?_, ?_, ?_, ?_, a.rk, a.wk, fun x hx => ?_, a.sg, a.pl, a.sl⟩
  · rw [List.getElem?_set_ne (by omega)]; exact a.r
  · rw [List.getElem?_set_ne (by omega)]; exact a.d
  · rw [List.getElem?_set_self (by omega), List.map_append]; rfl
  · rw [List.getElem?_set_ne (by omega)]; exact a.w
  · rw [List.getElem?_set_ne (by omega)]; exact a.p
  · rw [List.getElem?_set_ne (by omega)]; exact a.s
  · rcases List.mem_append.mp hx with q | q
    · exact a.ok x q
    · rw [List.mem_singleton.mp q]; exact hw
theorem TgAt.def' {b : Nat} {h : AH} {t : Tg} (a : TgAt b h t) {w : Str × Int × Int × Int} : TgAt b (h.set (b + 1) (some (.lst (t.defs.map dfT ++ [dfT w])))) { t with defs := t.defs ++ [w] } := by
  have l := a.lt
  refine ⟨?_, ?_, ?_, ?_, ?_, ?_, a.rk, a.wk, a.ok, a.sg, a.pl, a.sl⟩
  · rw [List.getElem?_set_ne (by omega)]; exact a.r
  · rw [List.getElem?_set_self (by omega), List.map_append]; rfl
  · rw [List.getElem?_set_ne (by omega)]; exact a.o
  · rw [List.getElem?_set_ne (by omega)]; exact a.w
  · rw [List.getElem?_set_ne (by omega)]; exact a.p
  · rw [List.getElem?_set_ne (by omega)]; exact a.s
section
variable {p b : Nat} {h : AH} {P : T → AH → Prop} {X : Exc → AH → Prop}
theorem one_word_wp {t : Tg} {cs os : List Str} (hp : Pl p h) (ht : TgAt b h t) (pb : p < b) (hr : t.rows.length ≤ 1000) (hc : cs.length ≤ 900) (ho : os.length ≤ 900) (kc : ∀ z ∈ cs, PyData.strOk z = true) (ko : ∀ z ∈ os, PyData.strOk z = true)
    (k : ∀ t' h', TgAt b h' t' → Hb p b h h' → t'.defs = t.defs → t'.outer = t.outer → t'.wants = t.wants → t'.rows.length = t.rows.length + 1 → P .non h') : Wp (m__law_one_word [.obj p, .dct tbK tbL, thT b, .lst (cs.map .str), .lst (os.map .str)] h) P X := by
  unfold m__law_one_word
  rw [w_def]
  unfold b__law_one_word
  refine wp_cut (fun τ h1 => h = h1 ∧ τ = [some (.obj p), some (.dct tbK tbL), some (thT b), some (.lst (cs.map .str)), some (.lst (os.map .str)), some (.int (t.rows.length : Int)), none, none]) ?_ ?_
  · simp -dsimp [-lookD, -dctK, -dctTT, th_r, ht.r]
    exact Kp.mk ⟨rfl, rfl⟩
  rintro τ h1 ⟨rfl, rfl⟩
  refine wp_cut (fun τ h1 => ∃ x6 t', τ = [some (.obj p), some (.dct tbK tbL), some (thT b), some (.lst (cs.map .str)), some (.lst (os.map .str)), some (.int (t.rows.length : Int)), x6, none] ∧ TgAt b h1 t' ∧ Hb p b h h1 ∧ t'.defs = t.defs ∧ t'.outer = t.outer ∧ t'.wants = t.wants ∧ t'.signs = t.signs ∧ t'.rows.length = t.rows.length + 1) ?_ ?_
  · simp -dsimp
    refine draw_wp hp (by decide) (by decide) fun r h1 r0 r1 t1 => ?_
    have a1 := ht.ht t1 pb
    simp -dsimp
    by_cases z : r = 0
    · simp -dsimp [z]
      refine open_row_wp t1.pl hc ho kc ko fun w kd q h2 hw t2 => ?_
      have a2 := a1.ht t2 pb
      have a3 := a2.row hw
      have b3 := ((t1.trans t2).hb (b := b)).put (i := b) (o := some (.lst (t.rows ++ [w]))) (Nat.le_refl _) (by omega) pb
      simp -dsimp [-lookD, -dctK, -dctTT, th_r, a2.r, at_0, at_1, at_2]
      refine ⟨szl (by omega), ?_⟩
      by_cases y : kd = Str.ofString ""
      · simp -dsimp [y]
        exact Kp.mk ⟨_, _, rfl, a3, b3, rfl, rfl, rfl, rfl, by simp⟩
      · have a4 := a3.opn' (w := ((t.rows.length : Int), kd, q)) (by have := ht.pl; simp; omega)
        have b4 := b3.put (i := b + 4) (o := some (.lst (t.opn.map opT ++ [opT ((t.rows.length : Int), kd, q)]))) (by omega) (by omega) pb
        have l4 := ht.pl
        simp -dsimp [-lookD, -dctK, -dctTT, th_p, a3.p, at_0, at_1, at_2, y]
        refine ⟨szl (by omega), ?_⟩
        exact Kp.mk ⟨_, _, rfl, a4, b4, rfl, rfl, rfl, rfl, by simp⟩
    · simp -dsimp [-lookD, -dctK, -dctTT, th_r, a1.r, z]
      refine drawn_row_wp t1.pl fun w h2 hw t2 => ?_
      have a2 := a1.ht t2 pb
      have a3 := a2.row hw
      have b3 := ((t1.trans t2).hb (b := b)).put (i := b) (o := some (.lst (t.rows ++ [w]))) (Nat.le_refl _) (by omega) pb
      simp -dsimp [-lookD, -dctK, -dctTT, th_r, a2.r]
      refine ⟨szl (by omega), ?_⟩
      exact Kp.mk ⟨_, _, rfl, a3, b3, rfl, rfl, rfl, rfl, by simp⟩
  · rintro τ h1 ⟨x6, t', rfl, a1, b1, e1, e2, e3, e4, e5⟩
    simp -dsimp
    refine draw_wp b1.pl (by decide) (by decide) fun r h2 r0 r1 t2 => ?_
    have a2 := a1.ht t2 pb
    simp -dsimp
    by_cases z : r = 0
    · simp -dsimp [z]
      refine picks_wp (l := ["tell", "call", "divide", "index", "depth"]) t2.pl (by decide) (by decide) fun kd h3 _ t3 => ?_
      simp -dsimp [-lookD, -dctK, -dctTT, th_s, (a2.ht t3 pb).s]
      refine chain_wp t3.pl fun l h4 hl t4 => ?_
      have a4 := (a2.ht t3 pb).ht t4 pb
      have l5 := ht.sl
      have l6 : t'.signs.length = t.signs.length := by rw [e4]
      have a5 := a4.sign' (w := ((t.rows.length : Int), kd, l)) (by omega) hl
      have b5 := (b1.trans ((t2.trans (t3.trans t4)).hb (b := b))).put (i := b + 5) (o := some (.lst (t'.signs.map sgT ++ [sgT ((t.rows.length : Int), kd, l)]))) (by omega) (by omega) pb
      simp -dsimp [-lookD, -dctK, -dctTT, th_s, a4.s]
      refine ⟨szl (by omega), ?_⟩
      exact k _ _ a5 b5 e1 e2 e3 e5
    · simp -dsimp [z]
      exact k _ _ a2 (b1.trans (t2.hb)) e1 e2 e3 e5
end

section
variable {p b : Nat} {h : AH} {P : T → AH → Prop} {X : Exc → AH → Prop}
theorem Hb.at {p b : Nat} {h h1 : AH} (a : Hb p b h h1) {i : Nat} {o : Option O} (e : h[i]? = some o) (n : i ≠ p) (z : i < b ∨ b + 6 ≤ i) : h1[i]? = some o := by
  rw [a.keep i (PoolAt.lt e) n z]; exact e
theorem TgAt.set' {b i : Nat} {h : AH} {t : Tg} {o : Option O} (a : TgAt b h t) (hi : b + 6 ≤ i) : TgAt b (h.set i o) t :=
  ⟨by rw [List.getElem?_set_ne (by omega)]; exact a.r, by rw [List.getElem?_set_ne (by omega)]; exact a.d, by rw [List.getElem?_set_ne (by omega)]; exact a.o, by rw [List.getElem?_set_ne (by omega)]; exact a.w, by rw [List.getElem?_set_ne (by omega)]; exact a.p, by rw [List.getElem?_set_ne (by omega)]; exact a.s, a.rk, a.wk, a.ok, a.sg, a.pl, a.sl⟩
theorem Hb.set' {p b i : Nat} {h h1 : AH} {o : Option O} (a : Hb p b h h1) (hi : h.length ≤ i) (pb : p < i) : Hb p b h (h1.set i o) := by
  obtain ⟨x, e, q⟩ := a.pl
  refine ⟨⟨x, ?_, q⟩, by rw [List.length_set]; exact a.len, fun j hj n z => ?_⟩
  · rw [List.getElem?_set_ne (by omega)]; exact e
  · rw [List.getElem?_set_ne (by omega)]; exact a.keep j hj n z
def hdT : Str × Int × Int → T := otT
def six : AH := [some (.lst []), some (.lst []), some (.lst []), some (.lst []), some (.lst []), some (.lst [])]
theorem six_at {h : AH} {i : Nat} (hi : i < 6) : (h ++ six)[h.length + i]? = some (some (.lst [])) := by
  rw [List.getElem?_append_right (by omega), Nat.add_sub_cancel_left]
  rcases i with _ | _ | _ | _ | _ | _ | i <;> first | rfl | omega
theorem mer {x0 x1 x2 x3 x4 x5 : T} : mergeT [] [((Sum.inr (Str.ofString "rows") : Key), x0), (Sum.inr (Str.ofString "defs"), x1), (Sum.inr (Str.ofString "outer"), x2), (Sum.inr (Str.ofString "wants"), x3), (Sum.inr (Str.ofString "open"), x4), (Sum.inr (Str.ofString "signs"), x5)] = [(Sum.inr (Str.ofString "rows"), x0), (Sum.inr (Str.ofString "defs"), x1), (Sum.inr (Str.ofString "outer"), x2), (Sum.inr (Str.ofString "wants"), x3), (Sum.inr (Str.ofString "open"), x4), (Sum.inr (Str.ofString "signs"), x5)] := by kernel_rfl
theorem thing_wp (hp : Pl p h) (k : ∀ t h', TgAt h.length h' t → Ht p h h' → t.rows.length ≤ 100 → t.wants.length ≤ 6 → t.outer.length ≤ 6 → t.defs.length ≤ 6 → P (thT h.length) h') : Wp (m__law_thing [.obj p, .dct tbK tbL] h) P X := by
  have pb := hp.lt
  unfold m__law_thing
  rw [w_def]
  unfold b__law_thing
  refine wp_cut (fun τ h1 => h1 = h ++ six ∧ τ = [some (.obj p), some (.dct tbK tbL), some (thT h.length), none, none, none, none, none, none, none, none]) ?_ ?_
  · simp -dsimp
    rw [mer]
    exact Kp.mk ⟨by simp [six], by simp [thT]⟩
  rintro τ h1 ⟨e1, rfl⟩
  have t0 : TgAt h.length h1 ⟨[], [], [], [], [], []⟩ := by
    subst e1
    exact ⟨six_at (i := 0) (by omega), six_at (by omega), six_at (by omega), six_at (by omega), six_at (by omega), six_at (by omega), by simp, by simp, by simp, by simp, Nat.le_refl _, Nat.le_refl _⟩
  have b0 : Hb p h.length h h1 := by
    subst e1
    obtain ⟨o, e, q⟩ := hp
    exact ⟨⟨o, by rw [List.getElem?_append_left pb]; exact e, q⟩, by simp, fun q hq _ _ => List.getElem?_append_left hq⟩
  clear e1
  -- wants
  refine wp_cut (fun τ h2 => ∃ x3 x4 ws, τ = [some (.obj p), some (.dct tbK tbL), some (thT h.length), x3, x4, none, none, none, none, none, none] ∧ TgAt h.length h2 ⟨[], [], [], ws, [], []⟩ ∧ ws.length ≤ 6 ∧ Hb p h.length h h2) ?_ ?_
  · simp -dsimp
    refine many_wp b0.pl fun n h2 hn t2 => ?_
    simp -dsimp [r62_s (i := (n : Int)) (by omega) (by omega)]
    refine for_seq (fun j τ h3 => ∃ x3 x4 ws, τ = [some (.obj p), some (.dct tbK tbL), some (thT h.length), x3, x4, none, none, none, none, none, none] ∧ TgAt h.length h3 ⟨[], [], [], ws, [], []⟩ ∧ ws.length ≤ j ∧ Hb p h.length h h3) ⟨_, _, _, rfl, t0.ht t2 pb, Nat.le_refl _, b0.trans t2.hb⟩ ?_ ?_
    · rintro j x τ h3 hx ⟨x3, x4, ws, rfl, a3, hw, b3⟩
      have jl : j < n := by have := (List.getElem?_eq_some_iff.mp hx).1; simpa using this
      refine ⟨_, rfl, ?_⟩
      unfold l1__law_thing
      simp -dsimp
      refine want_wp b3.pl fun z kd n h4 oz ok hn t4 => ?_
      have a4 := a3.ht t4 pb
      have wo : WOk (z, kd, (n : Int)) := ⟨oz, ok⟩
      have nin : gInDH true (.tup [.str z, .str kd, .int (n : Int)]) (.obj (h.length + 3)) h4 = some (.bl (!decide ((z, kd, (n : Int)) ∈ ws))) := wt_ninH wo a4.wk a4.w
      simp -dsimp [-lookD, -dctK, -dctTT, th_w, nin]
      by_cases y : (z, kd, (n : Int)) ∈ ws
      · simp -dsimp [y]
        exact Kp.mk ⟨_, _, _, rfl, a4, by omega, b3.trans t4.hb⟩
      · have a5 := a4.want' wo
        have b5 := (b3.trans (t4.hb (b := h.length))).put (i := h.length + 3) (o := some (.lst (ws.map wtT ++ [wtT (z, kd, (n : Int))]))) (by omega) (by omega) pb
        simp -dsimp [-lookD, -dctK, -dctTT, th_w, a4.w, y]
        refine ⟨szl (by omega), ?_⟩
        exact Kp.mk ⟨_, _, _, rfl, a5, by simp; omega, b5⟩
    · rintro τ h3 ⟨x3, x4, ws, rfl, a3, hw, b3⟩
      simp at hw
      exact Kp.mk ⟨_, _, _, rfl, a3, by omega, b3⟩
  rintro τ h2 ⟨x3, x4, ws, rfl, a2, hws, b2⟩
  -- data
  refine wp_cut (fun τ h2 => ∃ x3 os, τ = [some (.obj p), some (.dct tbK tbL), some (thT h.length), x3, x4, none, none, none, none, none, none] ∧ TgAt h.length h2 ⟨[], [], os, ws, [], []⟩ ∧ os.length ≤ 6 ∧ Hb p h.length h h2) ?_ ?_
  · simp -dsimp
    refine many_wp b2.pl fun n h3 hn t3 => ?_
    simp -dsimp [r62_s (i := (n : Int)) (by omega) (by omega)]
    refine for_seq (fun j τ h3 => ∃ x3 os, τ = [some (.obj p), some (.dct tbK tbL), some (thT h.length), x3, x4, none, none, none, none, none, none] ∧ TgAt h.length h3 ⟨[], [], os, ws, [], []⟩ ∧ os.length ≤ j ∧ Hb p h.length h h3) ⟨_, _, rfl, a2.ht t3 pb, Nat.le_refl _, b2.trans t3.hb⟩ ?_ ?_
    · rintro j x τ h3 hx ⟨x3, os, rfl, a3, hw, b3⟩
      have jl : j < n := by have := (List.getElem?_eq_some_iff.mp hx).1; simpa using this
      refine ⟨_, rfl, ?_⟩
      unfold l2__law_thing
      simp -dsimp [-lookD, -dctK, -dctTT, th_o, a3.o]
      refine datum_wp b3.pl fun z a c h4 oz t4 => ?_
      have a4 := a3.ht t4 pb
      have a5 := a4.outer' (w := (z, a, c)) oz
      have b5 := (b3.trans (t4.hb (b := h.length))).put (i := h.length + 2) (o := some (.lst (os.map otT ++ [otT (z, a, c)]))) (by omega) (by omega) pb
      simp -dsimp [-lookD, -dctK, -dctTT, th_o, a4.o]
      refine ⟨szl (by omega), ?_⟩
      exact Kp.mk ⟨_, _, rfl, a5, by simp; omega, b5⟩
    · rintro τ h3 ⟨x3, os, rfl, a3, hw, b3⟩
      simp at hw
      exact Kp.mk ⟨_, _, rfl, a3, by omega, b3⟩
  rintro τ h3 ⟨x3, os, rfl, a3, hos, b3⟩
  -- heads
  refine wp_cut (fun τ h4 => h4 = h3 ++ [some (.lst [])] ∧ τ = [some (.obj p), some (.dct tbK tbL), some (thT h.length), x3, x4, some (.obj h3.length), none, none, none, none, none]) ?_ ?_
  · simp -dsimp
    exact Kp.mk ⟨rfl, rfl⟩
  rintro τ h4 ⟨e4, rfl⟩
  have lt3 := a3.lt
  have n4 : Ht p h3 h4 := by rw [e4]; exact Ht.new b3.pl
  have g4 : h4[h3.length]? = some (some (.lst ([] : List T))) := by rw [e4]; exact get_new
  have l4 : h4.length = h3.length + 1 := by rw [e4]; simp
  clear e4
  have a4 := a3.ht n4 pb
  have b4 := b3.trans (n4.hb (b := h.length))
  refine wp_cut (fun τ h5 => ∃ (x3 x6 x7 : Option T) (hs : List (Str × Int × Int)), τ = [some (.obj p), some (.dct tbK tbL), some (thT h.length), x3, x4, some (.obj h3.length), x6, x7, none, none, none] ∧ TgAt h.length h5 ⟨[], [], os, ws, [], []⟩ ∧ Hb p h.length h h5 ∧ h5[h3.length]? = some (some (.lst (hs.map hdT))) ∧ hs.length ≤ 6 ∧ ∀ x ∈ hs, PyData.strOk x.1 = true) ?_ ?_
  · simp -dsimp
    refine pickn_wp (l := [0, 1, 1, 1, 1, 1, 2, 2, 2, 3, 3, 6]) b4.pl (by decide) (by decide) fun n h5 hn t5 => ?_
    have hn6 : n ≤ 6 := (by decide : ∀ n ∈ [0, 1, 1, 1, 1, 1, 2, 2, 2, 3, 3, 6], n ≤ 6) n hn
    simp -dsimp [r62_s (i := (n : Int)) (by omega) (by omega)]
    refine for_seq (fun j τ h5 => ∃ (x3 x6 x7 : Option T) (hs : List (Str × Int × Int)), τ = [some (.obj p), some (.dct tbK tbL), some (thT h.length), x3, x4, some (.obj h3.length), x6, x7, none, none, none] ∧ TgAt h.length h5 ⟨[], [], os, ws, [], []⟩ ∧ Hb p h.length h h5 ∧ h5[h3.length]? = some (some (.lst (hs.map hdT))) ∧ hs.length ≤ j ∧ ∀ x ∈ hs, PyData.strOk x.1 = true) ⟨_, _, _, [], rfl, a4.ht t5 pb, b4.trans t5.hb, t5.at g4 (by omega), Nat.le_refl _, by simp⟩ ?_ ?_
    · rintro j x τ h6 hx ⟨x3, x6, x7, hs, rfl, a6, b6, g6, hh, oh⟩
      have jl : j < n := by have := (List.getElem?_eq_some_iff.mp hx).1; simpa using this
      refine ⟨_, rfl, ?_⟩
      unfold l3__law_thing
      simp -dsimp
      refine title_wp b6.pl fun z h7 oz t7 => ?_
      simp -dsimp
      refine draw_wp t7.pl (by decide) (by decide) fun r h8 r0 r1 t8 => ?_
      have g8 := t8.at (t7.at g6 (by omega)) (by omega)
      simp -dsimp [g8]
      refine draw_wp t8.pl (by decide) (by decide) fun r2 h9 _ _ t9 => ?_
      have g9 := t9.at g8 (by omega)
      have a9 := ((a6.ht t7 pb).ht t8 pb).ht t9 pb
      have b9 := b6.trans ((t7.trans (t8.trans t9)).hb (b := h.length))
      simp -dsimp [g9]
      refine op_if (by first | exact lg2 (by omega) (by omega) | exact lg2 (by decide) (by omega)) ?_
      simp -dsimp [g9]
      refine ⟨szl (by omega), ?_⟩
      have g10 : (h9.set h3.length (some (.lst (hs.map hdT ++ [.tup [.str z, .int r, .int (4 * (1 + r2))]]))))[h3.length]? = some (some (.lst ((hs ++ [(z, r, 4 * (1 + r2))]).map hdT))) := by
        rw [List.getElem?_set_self (PoolAt.lt g9), List.map_append]; rfl
      refine Kp.mk ⟨_, _, _, hs ++ [(z, r, 4 * (1 + r2))], rfl, a9.set' (by omega), b9.set' (by omega) (by omega), g10, by simp; omega, fun x hx => ?_⟩
      rcases List.mem_append.mp hx with q | q
      · exact oh x q
      · rw [List.mem_singleton.mp q]; exact oz
    · rintro τ h6 ⟨x3, x6, x7, hs, rfl, a6, b6, g6, hh, oh⟩
      simp at hh
      exact Kp.mk ⟨_, _, _, hs, rfl, a6, b6, g6, by omega, oh⟩
  rintro τ h5 ⟨x3, x6, x7, hs, rfl, a5, b5, g5, hh, oh⟩
  have fz : frz 8 h5 (.obj h3.length) = (.lst (hs.map hdT), h5.set h3.length none) := frz_lst g5 (by
    intro t ht; obtain ⟨x, _, rfl⟩ := List.mem_map.mp ht; rfl)
  have a6 := a5.set' (i := h3.length) (o := none) (by omega)
  have b6 := b5.set' (i := h3.length) (o := none) (by omega) (by omega)
  generalize h5.set h3.length none = h6 at fz a6 b6
  -- calls
  refine wp_cut (fun τ h7 => h6 = h7 ∧ ∃ cs : List Str, τ = [some (.obj p), some (.dct tbK tbL), some (thT h.length), x3, x4, some (.lst (hs.map hdT)), x6, x7, none, some (.lst (cs.map .str)), none] ∧ cs.length ≤ 6 ∧ ∀ z ∈ cs, PyData.strOk z = true) ?_ ?_
  · simp -dsimp [fz]
    refine lc_seq' (f := fun x : Str × Int × Int => T.str x.1) (by rw [Nat.zero_add]; exact sz (by omega)) (fun x hx => ⟨_, rfl, by unfold e4__law_thing; simp -dsimp [wipeT, hdT, otT, at_0]⟩) ?_
    exact Kp.mk ⟨rfl, hs.map (·.1), by simp -dsimp [fz, wipeT], by simp; omega, by intro z hz; obtain ⟨x, hx, rfl⟩ := List.mem_map.mp hz; exact oh x hx⟩
  rintro τ h7 ⟨rfl, c0, rfl, lc0, oc0⟩
  refine wp_cut (fun τ h7 => h6 = h7 ∧ ∃ cs : List Str, τ = [some (.obj p), some (.dct tbK tbL), some (thT h.length), x3, x4, some (.lst (hs.map hdT)), x6, x7, none, some (.lst (cs.map .str)), none] ∧ cs.length ≤ 12 ∧ ∀ z ∈ cs, PyData.strOk z = true) ?_ ?_
  · simp -dsimp [-lookD, -dctK, -dctTT, th_w]
    refine Wp.of (lcv_eq (g := wtT) (f := fun x : Wt => T.str x.1) (c := fun x : Wt => decide (x.2.1 = "function")) a6.w (by dsimp only; omega) (fun x hx => ⟨_, rfl, by simp [wipeT, wtT, at_1], fun _ => by simp [wipeT, e5__law_thing, wtT, at_0]⟩)) ?_
    have lf : (ws.filter fun x : Wt => decide (x.2.1 = "function")).length ≤ 6 := Nat.le_trans (List.length_filter_le _ _) hws
    have of : ∀ x ∈ (ws.filter fun x : Wt => decide (x.2.1 = "function")), PyData.strOk x.1 = true := fun x hx => (a6.wk x (List.mem_filter.mp hx).1).1
    dsimp only
    generalize (ws.filter fun x : Wt => decide (x.2.1 = "function")) = fs at lf of
    simp -dsimp [show c0.length + fs.length ≤ sizeLine from sz (by omega)]
    exact Kp.mk ⟨rfl, c0 ++ fs.map (·.1), by simp -dsimp, by simp; omega, by
      intro z hz
      rcases List.mem_append.mp hz with q | q
      · exact oc0 z q
      · obtain ⟨x, hx, rfl⟩ := List.mem_map.mp q; exact of x hx⟩
  rintro τ h7 ⟨rfl, cs, rfl, lc, oc⟩
  refine wp_cut (fun τ h7 => h6 = h7 ∧ ∃ ot : List Str, τ = [some (.obj p), some (.dct tbK tbL), some (thT h.length), x3, x4, some (.lst (hs.map hdT)), x6, x7, none, some (.lst (cs.map .str)), some (.lst (ot.map .str))] ∧ ot.length ≤ 6 ∧ ∀ z ∈ ot, PyData.strOk z = true) ?_ ?_
  · simp -dsimp [-lookD, -dctK, -dctTT, th_o]
    refine Wp.of (lcv_eq (g := otT) (f := fun x : Str × Int × Int => T.str x.1) (c := fun _ => true) a6.o (by dsimp only; omega) (fun x hx => ⟨_, rfl, rfl, fun _ => by simp [wipeT, e6__law_thing, otT, at_0]⟩)) ?_
    rw [List.filter_eq_self.mpr (fun _ _ => rfl)]
    exact Kp.mk ⟨rfl, os.map (·.1), by simp -dsimp, by simp; omega, by intro z hz; obtain ⟨x, hx, rfl⟩ := List.mem_map.mp hz; exact a6.ok x hx⟩
  rintro τ h7 ⟨rfl, o0, rfl, lo0, oo0⟩
  refine wp_cut (fun τ h7 => h6 = h7 ∧ ∃ ot : List Str, τ = [some (.obj p), some (.dct tbK tbL), some (thT h.length), x3, x4, some (.lst (hs.map hdT)), x6, x7, none, some (.lst (cs.map .str)), some (.lst (ot.map .str))] ∧ ot.length ≤ 12 ∧ ∀ z ∈ ot, PyData.strOk z = true) ?_ ?_
  · simp -dsimp [-lookD, -dctK, -dctTT, th_w]
    refine Wp.of (lcv_eq (g := wtT) (f := fun x : Wt => T.str x.1) (c := fun x : Wt => !decide (x.2.1 = "function")) a6.w (by dsimp only; omega) (fun x hx => ⟨_, rfl, by simp [wipeT, wtT, at_1], fun _ => by simp [wipeT, e7__law_thing, wtT, at_0]⟩)) ?_
    have lf : (ws.filter fun x : Wt => !decide (x.2.1 = "function")).length ≤ 6 := Nat.le_trans (List.length_filter_le _ _) hws
    have of : ∀ x ∈ (ws.filter fun x : Wt => !decide (x.2.1 = "function")), PyData.strOk x.1 = true := fun x hx => (a6.wk x (List.mem_filter.mp hx).1).1
    dsimp only
    generalize (ws.filter fun x : Wt => !decide (x.2.1 = "function")) = fs at lf of
    simp -dsimp [show o0.length + fs.length ≤ sizeLine from sz (by omega)]
    exact Kp.mk ⟨rfl, o0 ++ fs.map (·.1), by simp -dsimp, by simp; omega, by
      intro z hz
      rcases List.mem_append.mp hz with q | q
      · exact oo0 z q
      · obtain ⟨x, hx, rfl⟩ := List.mem_map.mp q; exact of x hx⟩
  rintro τ h7 ⟨rfl, ot, rfl, lo, oo⟩
  -- the words
  refine wp_cut (fun τ h7 => (∃ x3 x8, τ = [some (.obj p), some (.dct tbK tbL), some (thT h.length), x3, x4, some (.lst (hs.map hdT)), x6, x7, x8, some (.lst (cs.map .str)), some (.lst (ot.map .str))]) ∧ ∃ t, TgAt h.length h7 t ∧ Hb p h.length h h7 ∧ t.wants = ws ∧ t.rows.length ≤ 100 ∧ t.outer.length ≤ 6 ∧ t.defs.length ≤ 6) ?_ ?_
  · simp -dsimp
    refine for_seq (fun j τ h7 => (∃ x3 x8, τ = [some (.obj p), some (.dct tbK tbL), some (thT h.length), x3, x4, some (.lst (hs.map hdT)), x6, x7, x8, some (.lst (cs.map .str)), some (.lst (ot.map .str))]) ∧ ∃ t, TgAt h.length h7 t ∧ Hb p h.length h h7 ∧ t.wants = ws ∧ t.rows.length ≤ 5 * j ∧ t.defs.length ≤ j ∧ t.outer.length ≤ 6) ⟨⟨_, _, rfl⟩, _, a6, b6, rfl, Nat.le_refl _, Nat.le_refl _, hos⟩ ?_ ?_
    · rintro j x τ h7 hx ⟨⟨x3, x8, rfl⟩, t, a7, b7, ew, lr, ld, lo6⟩
      have jl : j < hs.length := (List.getElem?_eq_some_iff.mp hx).1
      refine ⟨_, rfl, ?_⟩
      unfold l9__law_thing
      simp -dsimp [-lookD, -dctK, -dctTT, th_d, th_r, a7.d, a7.r, hdT, otT, at_0, at_1, at_2]
      have a8 := a7.def' (w := (x.1, (t.rows.length : Int), x.2.1, x.2.2))
      have b8 := b7.put (i := h.length + 1) (o := some (.lst (t.defs.map dfT ++ [dfT (x.1, (t.rows.length : Int), x.2.1, x.2.2)]))) (by omega) (by omega) pb
      refine ⟨szl (by omega), ?_⟩
      refine draw_wp b8.pl (by decide) (by decide) fun r h8 r0 r1 t8 => ?_
      have a9 := a8.ht t8 pb
      have b9 := b8.trans t8.hb
      simp -dsimp [r62_s (i := 1 + r) (by omega) (by omega)]
      refine for_seq (fun i τ h9 => (∃ x3, τ = [some (.obj p), some (.dct tbK tbL), some (thT h.length), x3, x4, some (.lst (hs.map hdT)), x6, x7, some (hdT x), some (.lst (cs.map .str)), some (.lst (ot.map .str))]) ∧ ∃ t', TgAt h.length h9 t' ∧ Hb p h.length h h9 ∧ t'.wants = ws ∧ t'.rows.length ≤ 5 * j + i ∧ t'.defs.length ≤ j + 1 ∧ t'.outer.length ≤ 6) ⟨⟨_, rfl⟩, _, a9, b9, ew, by dsimp only; omega, by simp; omega, lo6⟩ ?_ ?_
      · rintro i y τ h9 hy ⟨⟨x3, rfl⟩, t', a10, b10, ew', lr', ld', lo'⟩
        have il : i < (1 + r).toNat := by have := (List.getElem?_eq_some_iff.mp hy).1; simpa using this
        refine ⟨_, rfl, ?_⟩
        unfold l8__law_thing
        simp -dsimp
        refine one_word_wp b10.pl a10 pb (by omega) (by omega) (by omega) oc oo fun t2 h10 a11 b11 e1 e2 e3 e4 => ?_
        simp -dsimp
        exact Kp.mk ⟨⟨_, rfl⟩, t2, a11, b10.trans b11, by rw [e3]; exact ew', by omega, by rw [e1]; exact ld', by rw [e2]; exact lo'⟩
      · rintro τ h9 ⟨⟨x3, rfl⟩, t', a10, b10, ew', lr', ld', lo'⟩
        simp at lr'
        exact Kp.mk ⟨⟨_, _, rfl⟩, t', a10, b10, ew', by omega, by omega, lo'⟩
    · rintro τ h7 ⟨q, t, a7, b7, ew, lr, ld, lo6⟩
      exact Kp.mk ⟨q, t, a7, b7, ew, by omega, lo6, by omega⟩
  rintro τ h7 ⟨⟨x3, x8, rfl⟩, t, a7, b7, ew, lr, lo6, ld6⟩
  simp -dsimp
  refine k t h7 a7 ⟨b7.pl, b7.len, fun q hq n => b7.keep q hq n (.inl hq)⟩ lr (by rw [ew]; exact hws) lo6 ld6
end

section
variable {p b : Nat} {h : AH} {P : T → AH → Prop} {X : Exc → AH → Prop}
theorem TgAt.hb {p b b' : Nat} {h h1 : AH} {t : Tg} (a : TgAt b' h t) (x : Hb p b h h1) (pb : p < b') (d : b' + 6 ≤ b ∨ b + 6 ≤ b') : TgAt b' h1 t :=
  ⟨x.at a.r (by omega) (by omega), x.at a.d (by omega) (by omega), x.at a.o (by omega) (by omega), x.at a.w (by omega) (by omega), x.at a.p (by omega) (by omega), x.at a.s (by omega) (by omega), a.rk, a.wk, a.ok, a.sg, a.pl, a.sl⟩
theorem lg60 {n : Nat} (hn : n < 1099511627776) : n.log2 < 60 := by
  rcases Nat.eq_zero_or_pos n with z | z
  · subst z; decide
  · exact Nat.lt_of_lt_of_le ((Nat.log2_lt (by omega)).mpr (by omega : n < 2 ^ 40)) (by decide)
theorem like_wp {t : Tg} {l : List Wt} (hp : Pl p h) (ht : TgAt b h t) (pb : p < b) (hw : t.wants.length ≤ 100) (hl : l.length ≤ 100) (ol : ∀ x ∈ l, WOk x)
    (k : ∀ ws h', TgAt b h' { t with wants := ws } → Hb p b h h' → ws.length ≤ t.wants.length + l.length → P .non h') : Wp (m__law_like_needs [.obj p, thT b, .lst (l.map wtT)] h) P X := by
  unfold m__law_like_needs b__law_like_needs
  simp -dsimp
  refine for_seq (fun j τ h1 => (∃ x3 x4 x5, τ = [some (.obj p), some (thT b), some (.lst (l.map wtT)), x3, x4, x5]) ∧ ∃ ws, TgAt b h1 { t with wants := ws } ∧ Hb p b h h1 ∧ ws.length ≤ t.wants.length + j) ⟨⟨_, _, _, rfl⟩, t.wants, ht, ⟨hp, Nat.le_refl _, fun _ _ _ _ => rfl⟩, Nat.le_refl _⟩ ?_ ?_
  · rintro j x τ h1 hx ⟨⟨x3, x4, x5, rfl⟩, ws, a1, b1, lw⟩
    obtain ⟨jl, ej⟩ := List.getElem?_eq_some_iff.mp hx
    have ox : WOk x := ol x (by rw [← ej]; exact List.getElem_mem jl)
    refine ⟨_, rfl, ?_⟩
    unfold l1__law_like_needs
    simp -dsimp
    refine draw_wp b1.pl (by decide) (by decide) fun r h2 r0 r1 t2 => ?_
    have a2 := a1.ht t2 pb
    have b2 := b1.trans (t2.hb (b := b))
    simp -dsimp
    by_cases z : r = 0
    · rw [decide_eq_true z]
      rw [show ∀ {p q : Prop}, Cd true p q = p from rfl]
      refine wp_cut (fun τ h3 => h2 = h3 ∧ τ = [some (.obj p), some (thT b), some (.lst (l.map wtT)), some (wtT x), some (wtT x), x5]) ?_ ?_
      · simp -dsimp
        exact Kp.mk ⟨rfl, rfl⟩
      rintro τ h3 ⟨rfl, rfl⟩
      refine wp_cut (fun τ h3 => (∃ y, WOk y ∧ τ = [some (.obj p), some (thT b), some (.lst (l.map wtT)), some (wtT x), some (wtT y), x5]) ∧ TgAt b h3 { t with wants := ws } ∧ Hb p b h h3) ?_ ?_
      · simp -dsimp [wtT, at_0, at_1, at_2]
        by_cases y : x.2.1 = Str.ofString "function"
        · simp -dsimp [y]
          refine draw_wp b2.pl (by decide) (by decide) fun r3 h3 _ _ t3 => ?_
          have a3 := a2.ht t3 pb
          have b3 := b2.trans (t3.hb (b := b))
          simp -dsimp
          by_cases z3 : r3 = 0
          · simp -dsimp [z3, at_0, at_1, at_2]
            exact Kp.mk ⟨⟨(x.1, x.2.1, (x.2.2 + 1) % 7), ⟨ox.1, ox.2⟩, by simp [wtT, y]⟩, a3, b3⟩
          · simp -dsimp [z3]
            exact Kp.mk ⟨⟨x, ox, by simp [wtT, y]⟩, a3, b3⟩
        · simp -dsimp [y]
          exact Kp.mk ⟨⟨x, ox, rfl⟩, a2, b2⟩
      · rintro τ h3 ⟨⟨y, oy, rfl⟩, a3, b3⟩
        have nin := wt_ninH oy a3.wk a3.w
        simp -dsimp [-lookD, -dctK, -dctTT, th_w, nin]
        by_cases my : y ∈ ws
        · simp -dsimp [my]
          exact Kp.mk ⟨⟨_, _, _, rfl⟩, ws, a3, b3, by omega⟩
        · simp -dsimp [-lookD, -dctK, -dctTT, th_w, a3.w, my]
          refine draw_wp b3.pl (by omega) (by omega) fun r4 h4 r40 r41 t4 => ?_
          have a4 := a3.ht t4 pb
          have b4 := b3.trans (t4.hb (b := b))
          have e5 : (ws.map wtT).take r4.toNat ++ wtT y :: (ws.map wtT).drop r4.toNat = (ws.take r4.toNat ++ [y] ++ ws.drop r4.toNat).map wtT := by simp
          have a5 := a4.wants' (l := ws.take r4.toNat ++ [y] ++ ws.drop r4.toNat) (by
            intro x hx
            rcases List.mem_append.mp hx with q | q
            · rcases List.mem_append.mp q with q | q
              · exact a4.wk x (List.mem_of_mem_take q)
              · rw [List.mem_singleton.mp q]; exact oy
            · exact a4.wk x (List.mem_of_mem_drop q))
          have b5 := b4.put (i := b + 3) (o := some (.lst ((ws.take r4.toNat ++ [y] ++ ws.drop r4.toNat).map wtT))) (by omega) (by omega) pb
          have l5 : (ws.take r4.toNat ++ [y] ++ ws.drop r4.toNat).length = ws.length + 1 := by simp; omega
          rw [← e5] at a5 b5
          simp -dsimp [-lookD, -dctK, -dctTT, th_w, a4.w]
          exact ⟨⟨szl (by omega), r40, lg60 (by omega)⟩, Kp.mk ⟨⟨_, _, _, rfl⟩, _, a5, b5, by omega⟩⟩
    · simp -dsimp [z]
      exact Kp.mk ⟨⟨_, _, _, rfl⟩, ws, a2, b2, by omega⟩
  · rintro τ h1 ⟨_, ws, a1, b1, lw⟩
    simp -dsimp
    exact k ws h1 a1 b1 lw
end

/-- an object's six parts -/
structure Pt where
  w : List Int
  f : List (Str × Int × Int × Int)
  d : List (Str × Int × Int)
  n : List Wt
  p : List (Int × Str × Str)
  m : List (Int × Str × List (Str × Int))
def Pt.enc (x : Pt) : T := .tup [.tup (x.w.map .int), .tup (x.f.map dfT), .tup (x.d.map otT), .tup (x.n.map wtT), .tup (x.p.map opT), .tup (x.m.map sgT)]
/-- what sums of three at most keep -/
structure Pt.ok (c : Nat) (x : Pt) : Prop where
  n : ∀ y ∈ x.n, WOk y
  m8 : ∀ y ∈ x.m, y.2.2.length ≤ 8
  lw : x.w.length ≤ c
  lf : x.f.length ≤ c
  ld : x.d.length ≤ c
  ln : x.n.length ≤ c
  lp : x.p.length ≤ c
  lm : x.m.length ≤ c
def wordOf (h : AH) (x : T) : Int := match m__law_encoded [.dct tbK tbL, x] h with | .ok (.int i) _ => i | _ => 0
def ptOf (h : AH) (t : Tg) : Pt := ⟨t.rows.map (wordOf h), t.defs, t.outer, t.wants, t.opn, t.signs⟩
section
variable {p b : Nat} {h : AH} {P : T → AH → Prop} {X : Exc → AH → Prop}
theorem sfz_no {i : Nat} {g : FS} {τ : LS} {t : T} (e : τ[i]? = some (some t)) (n : M.isObj t = false) : sFrz i g τ h = g τ h := by
  unfold sFrz
  rw [e]
  cases t <;> first | rfl | cases n
theorem encoded_eq {w : T} (hw : Rk w) : m__law_encoded [.dct tbK tbL, w] h = .ok (.int (wordOf h w)) h := by
  obtain ⟨t, h', e, i, rfl, rfl⟩ := (encoded_wp (h := h) hw (P := fun t h' => ∃ i, t = .int i ∧ h' = h) (X := fun _ _ => False) fun i => ⟨i, rfl, rfl⟩).ok
  unfold wordOf
  rw [e]
theorem parts_wp {t : Tg} (ht : TgAt b h t) (hr : t.rows.length ≤ 200) (k : P (ptOf h t).enc h) : Wp (m__law_parts_of [.dct tbK tbL, thT b] h) P X := by
  unfold m__law_parts_of
  rw [w_def]
  unfold b__law_parts_of
  refine wp_cut (fun τ h1 => h = h1 ∧ τ = [some (.dct tbK tbL), some (thT b), some (.tup ((t.rows.map (wordOf h)).map .int)), none, none, none]) ?_ ?_
  · rw [sfz_no (t := .dct tbK tbL) rfl rfl, sfz_no (t := thT b) rfl rfl]
    simp -dsimp [-lookD, -dctK, -dctTT, th_r]
    have e0 : h[b]? = some (some (.lst (t.rows.map id))) := by rw [List.map_id]; exact ht.r
    refine Wp.of (lcv_eq (g := id) (f := fun x : T => T.int (wordOf h x)) (c := fun _ => true) e0 (by omega) (fun x hx => ⟨_, rfl, rfl, fun _ => by simp [wipeT, e1__law_parts_of, encoded_eq (ht.rk x hx)]⟩)) ?_
    rw [List.filter_eq_self.mpr (fun _ _ => rfl)]
    simp -dsimp
    exact Kp.mk ⟨rfl, by simp⟩
  rintro τ h1 ⟨rfl, rfl⟩
  refine wp_cut (fun τ h1 => h = h1 ∧ τ = [some (.dct tbK tbL), some (thT b), some (.tup ((t.rows.map (wordOf h)).map .int)), some (.lst [.tup (t.defs.map dfT), .tup (t.outer.map otT), .tup (t.wants.map wtT), .tup (t.opn.map opT), .tup (t.signs.map sgT)]), none, none]) ?_ ?_
  · simp -dsimp [-lookD, -dctK, -dctTT]
    have s0 : (0 : Nat) < sizeLine := szl (by omega)
    have s1 : (1 : Nat) < sizeLine := szl (by omega)
    have s2 : (2 : Nat) < sizeLine := szl (by omega)
    have s3 : (3 : Nat) < sizeLine := szl (by omega)
    have s4 : (4 : Nat) < sizeLine := szl (by omega)
    simp -dsimp [-lookD, -dctK, -dctTT, mLcL, wipeT, e2__law_parts_of, th_d, th_o, th_w, th_p, th_s, ht.d, ht.o, ht.w, ht.p, ht.s, s0, s1, s2, s3, s4]
    exact Kp.mk ⟨rfl, rfl⟩
  rintro τ h1 ⟨rfl, rfl⟩
  simp -dsimp [at_0, at_1, at_2, at_3, at_4]
  simp only [ptOf, Pt.enc, List.map_map] at k
  exact k
end

theorem at_5 {a b c d e f : T} {l : List T} : atI (a :: b :: c :: d :: e :: f :: l) 5 = some f := atI_nat (i := 5)
def shF (n : Int) (y : Str × Int × Int × Int) : Str × Int × Int × Int := (y.1, y.2.1 + n, y.2.2.1, y.2.2.2)
def shP (n : Int) (y : Int × Str × Str) : Int × Str × Str := (y.1 + n, y.2)
def shM (n : Int) (y : Int × Str × List (Str × Int)) : Int × Str × List (Str × Int) := (y.1 + n, y.2)
def Sm (a b : Pt) : Pt := ⟨a.w ++ b.w, a.f ++ b.f.map (shF a.w.length), a.d ++ b.d, a.n ++ b.n.filter (fun y => !decide (y ∈ a.n)), a.p ++ b.p.map (shP a.w.length), a.m ++ b.m.map (shM a.w.length)⟩
theorem Pt.eq {x y : Pt} (a : x.w = y.w) (b : x.f = y.f) (c : x.d = y.d) (d : x.n = y.n) (e : x.p = y.p) (f : x.m = y.m) : x = y := by
  cases x; cases y; cases a; cases b; cases c; cases d; cases e; cases f; rfl
theorem Sm_assoc {a b c : Pt} : Sm (Sm a b) c = Sm a (Sm b c) := by
  have e : ((a.w ++ b.w).length : Int) = (a.w.length : Int) + (b.w.length : Int) := by simp
  refine Pt.eq ?_ ?_ ?_ ?_ ?_ ?_
  · exact List.append_assoc _ _ _
  · show (a.f ++ b.f.map (shF a.w.length)) ++ c.f.map (shF ((a.w ++ b.w).length : Int)) = a.f ++ (b.f ++ c.f.map (shF b.w.length)).map (shF a.w.length)
    rw [List.append_assoc, List.map_append, List.map_map, e]
    congr 2
    refine List.map_congr_left fun y _ => ?_
    simp [shF]; omega
  · exact List.append_assoc _ _ _
  · show (a.n ++ b.n.filter (fun y => !decide (y ∈ a.n))) ++ c.n.filter (fun y => !decide (y ∈ a.n ++ b.n.filter (fun y => !decide (y ∈ a.n)))) = a.n ++ (b.n ++ c.n.filter (fun y => !decide (y ∈ b.n))).filter (fun y => !decide (y ∈ a.n))
    rw [List.append_assoc, List.filter_append, List.filter_filter]
    congr 2
    refine List.filter_congr fun y _ => ?_
    by_cases h1 : y ∈ a.n <;> by_cases h2 : y ∈ b.n <;> simp [h1, h2]
  · show (a.p ++ b.p.map (shP a.w.length)) ++ c.p.map (shP ((a.w ++ b.w).length : Int)) = a.p ++ (b.p ++ c.p.map (shP b.w.length)).map (shP a.w.length)
    rw [List.append_assoc, List.map_append, List.map_map, e]
    congr 2
    refine List.map_congr_left fun y _ => ?_
    simp [shP]; omega
  · show (a.m ++ b.m.map (shM a.w.length)) ++ c.m.map (shM ((a.w ++ b.w).length : Int)) = a.m ++ (b.m ++ c.m.map (shM b.w.length)).map (shM a.w.length)
    rw [List.append_assoc, List.map_append, List.map_map, e]
    congr 2
    refine List.map_congr_left fun y _ => ?_
    simp [shM]; omega
theorem Sm_ok {k m : Nat} {a b : Pt} (x : a.ok k) (y : b.ok m) : (Sm a b).ok (k + m) := by
  have l1 := List.length_filter_le (fun y => !decide (y ∈ a.n)) b.n
  have := x.lw; have := y.lw; have := x.lf; have := y.lf; have := x.ld; have := y.ld; have := x.ln; have := y.ln; have := x.lp; have := y.lp; have := x.lm; have := y.lm
  refine ⟨fun z hz => ?_, fun z hz => ?_, ?_, ?_, ?_, ?_, ?_, ?_⟩
  · rcases List.mem_append.mp hz with q | q
    · exact x.n z q
    · exact y.n z (List.mem_filter.mp q).1
  · rcases List.mem_append.mp hz with q | q
    · exact x.m8 z q
    · obtain ⟨u, hu, rfl⟩ := List.mem_map.mp q; exact y.m8 u hu
  all_goals (simp [Sm]; omega)
def obT (x : Pt) : T := .inst "Object" ["words", "functions", "data", "needs", "places", "marks"] [.tup (x.w.map .int), .tup (x.f.map dfT), .tup (x.d.map otT), .tup (x.n.map wtT), .tup (x.p.map opT), .tup (x.m.map sgT)]
section
variable {h : AH} {P : T → AH → Prop} {X : Exc → AH → Prop}
theorem frz_ins {i : Nat} {cl : Str} {m : List (Str × T)} (hi : h[i]? = some (some (.ins cl m))) (hl : ∀ t ∈ m.map (·.2), M.isObj t = false) : frz 8 h (.obj i) = (.inst cl (m.map (·.1)) (m.map (·.2)), h.set i none) := by
  show frz (7 + 1) h (.obj i) = _
  unfold frz
  dsimp only
  rw [hi]
  dsimp only
  rw [frzL_no hl]
theorem noObj {α : Type} {g : α → T} {l : List α} : M.isObj (.tup (l.map g)) = false := rfl
theorem object_wp {x : Pt} (k : P (obT x) (h ++ [none])) : Wp (m__law_object [x.enc] h) P X := by
  unfold m__law_object b__law_object Pt.enc
  simp -dsimp [at_0, at_1, at_2, at_3, at_4, at_5]
  unfold m_Object___init__ b_Object___init__
  simp -dsimp
  rw [frz_ins get_new (by intro t ht; simp at ht; rcases ht with rfl | rfl | rfl | rfl | rfl | rfl <;> rfl), set_new]
  exact k
end
theorem tl_i {i : Int} {h : AH} : ((tyOf (.int i) h).bind fun a => kitL a ["tuple", "list"]) = some false := by kernel_rfl
theorem tl_s {i : Str} {h : AH} : ((tyOf (.str i) h).bind fun a => kitL a ["tuple", "list"]) = some false := by kernel_rfl
theorem tl_t {i : List T} {h : AH} : ((tyOf (.tup i) h).bind fun a => kitL a ["tuple", "list"]) = some true := by kernel_rfl
theorem tb_t {i : List T} {h : AH} : ((tyOf (.tup i) h).bind fun a => kitB a "tuple") = some true := by kernel_rfl
theorem tb_l {i : List T} {h : AH} : ((tyOf (.tup i) h).bind fun a => kitB a "list") = some false := by kernel_rfl
theorem is_s {i : Str} {h : AH} : ((tyOf (.str i) h).bind fun a => kitB a "str") = some true := by kernel_rfl
theorem ii_s {i : Int} {h : AH} : ((tyOf (.int i) h).bind fun a => kitB a "str") = some false := by kernel_rfl
theorem ii_i {i : Int} {h : AH} : ((tyOf (.int i) h).bind fun a => kitB a "int") = some true := by kernel_rfl
theorem ii_b {i : Int} {h : AH} : ((tyOf (.int i) h).bind fun a => kitB a "bool") = some false := by kernel_rfl
/-- plain trees -/
inductive Al : Nat → T → Prop
  | int {n : Nat} {i : Int} : Al n (.int i)
  | str {n : Nat} {z : Str} : Al n (.str z)
  | tup {n : Nat} {l : List T} (h : ∀ x ∈ l, Al n x) (s : l.length ≤ 5000) : Al (n + 1) (.tup l)
theorem alike_wp : ∀ (m n : Nat) (t : T) (h : AH) (P : T → AH → Prop) (X : Exc → AH → Prop), Al n t → n < m → P (.bl true) h → Wp (r__law_alike m [t, t] h) P X := by
  intro m
  induction m with
  | zero => intro n t h P X _ hn; omega
  | succ m ih =>
    intro n t h P X al hn k
    unfold r__law_alike
    rw [w_def]
    unfold b__law_alike
    cases al with
    | @int n i =>
      simp -dsimp [tl_i, ii_s, ii_i, ii_b]
      exact k
    | @str n z =>
      simp -dsimp [tl_s, is_s]
      exact k
    | @tup n l hl hs =>
      simp -dsimp [tl_t, tb_t, tb_l, r62_s (i := (l.length : Int)) (by omega) (by omega)]
      refine for_seq (fun j τ h1 => (∃ x2, τ = [some (.tup l), some (.tup l), x2]) ∧ h1 = h) ⟨⟨_, rfl⟩, rfl⟩ ?_ ?_
      · rintro j x τ h1 hx ⟨⟨x2, rfl⟩, rfl⟩
        obtain ⟨jl, ej⟩ := List.getElem?_eq_some_iff.mp hx
        simp at jl ej
        subst ej
        refine ⟨_, rfl, ?_⟩
        unfold l1__law_alike
        simp -dsimp [atI_nat, List.getElem?_eq_getElem jl]
        refine ih n _ _ _ _ (hl _ (List.getElem_mem jl)) (by omega) ?_
        simp -dsimp
        exact Kp.mk ⟨⟨_, rfl⟩, rfl⟩
      · rintro τ h1 ⟨⟨x2, rfl⟩, rfl⟩
        simp -dsimp
        exact k

section
variable {h : AH} {P : T → AH → Prop} {X : Exc → AH → Prop}
theorem lcf_eq {α : Type} {g f : α → T} {c : α → Bool} {xs : List α} {a : FG} {tt : FT} {fe : FE} {τ : LS} {n : Nat} (hn : n + xs.length ≤ sizeLine)
    (hf : ∀ x ∈ xs, ∃ τ', a (g x) τ = some τ' ∧ tt τ' h = .ok (c x) h ∧ (c x = true → fe τ' h = .ok (f x) h)) : mLcL a tt fe τ n (xs.map g) h = .ok ((xs.filter c).map f) h := by
  induction xs generalizing n with
  | nil => rfl
  | cons x xs ih =>
    rw [List.length_cons] at hn
    obtain ⟨τ', ha, h1, h2⟩ := hf x List.mem_cons_self
    rw [List.map_cons]
    unfold mLcL
    simp only [ha, h1, bind_ok]
    by_cases hc : c x = true
    · rw [if_pos hc, h2 hc, bind_ok, if_pos (by omega), ih (by omega) (fun y hy => hf y (List.mem_cons_of_mem _ hy)), bind_ok, List.filter_cons_of_pos hc, List.map_cons]
    · rw [if_neg hc, ih (by omega) (fun y hy => hf y (List.mem_cons_of_mem _ hy)), List.filter_cons_of_neg hc]
theorem sum_wp {a b : Pt} (oa : a.ok 1000) (ob : b.ok 1000) (k : P (Sm a b).enc h) : Wp (m__law_sum [a.enc, b.enc] h) P X := by
  have := oa.lw; have := oa.lf; have := oa.ld; have := oa.ln; have := oa.lp; have := oa.lm; have := ob.lw; have := ob.lf; have := ob.ld; have := ob.ln; have := ob.lp; have := ob.lm
  unfold m__law_sum
  rw [w_def]
  unfold b__law_sum
  refine wp_cut (fun τ h1 => h = h1 ∧ τ = [some a.enc, some b.enc, some (.int (a.w.length : Int)), none, none, none, none, none, none]) ?_ ?_
  · unfold Pt.enc; simp -dsimp [at_0]; exact Kp.mk ⟨rfl, rfl⟩
  rintro τ h1 ⟨rfl, rfl⟩
  refine wp_cut (fun τ h1 => h = h1 ∧ τ = [some a.enc, some b.enc, some (.int (a.w.length : Int)), some (.lst (b.f.map (fun y => dfT (shF a.w.length y)))), none, none, none, none, none]) ?_ ?_
  · unfold Pt.enc; simp -dsimp [at_1]
    refine lc_seq' (f := fun y => dfT (shF a.w.length y)) (by rw [Nat.zero_add]; exact sz (by omega)) (fun x hx => ⟨_, rfl, by unfold e1__law_sum; simp -dsimp [wipeT, dfT, tfT, shF, at_0, at_1, at_2, at_3]⟩) ?_
    exact Kp.mk ⟨rfl, rfl⟩
  rintro τ h1 ⟨rfl, rfl⟩
  refine wp_cut (fun τ h1 => h = h1 ∧ τ = [some a.enc, some b.enc, some (.int (a.w.length : Int)), some (.lst (b.f.map (fun y => dfT (shF a.w.length y)))), some (.lst ((b.n.filter (fun y => !decide (y ∈ a.n))).map wtT)), none, none, none, none]) ?_ ?_
  · have nin : ∀ y ∈ b.n, gInT true (wtT y) (.tup (a.n.map wtT)) = some (.bl (!decide (y ∈ a.n))) := fun y hy => wt_ninT (ob.n y hy) oa.n
    unfold Pt.enc; simp -dsimp [at_3]
    refine Wp.of (lcf_eq (g := wtT) (f := wtT) (c := fun y => !decide (y ∈ a.n)) (by rw [Nat.zero_add]; exact sz (by omega)) (fun x hx => ⟨_, rfl, by simp [wipeT, at_3, nin x hx], fun _ => by simp [wipeT, e2__law_sum]⟩)) ?_
    exact Kp.mk ⟨rfl, rfl⟩
  rintro τ h1 ⟨rfl, rfl⟩
  refine wp_cut (fun τ h1 => h = h1 ∧ τ = [some a.enc, some b.enc, some (.int (a.w.length : Int)), some (.lst (b.f.map (fun y => dfT (shF a.w.length y)))), some (.lst ((b.n.filter (fun y => !decide (y ∈ a.n))).map wtT)), some (.lst (b.p.map (fun y => opT (shP a.w.length y)))), none, none, none]) ?_ ?_
  · unfold Pt.enc; simp -dsimp [at_4]
    refine lc_seq' (f := fun y => opT (shP a.w.length y)) (by rw [Nat.zero_add]; exact sz (by omega)) (fun x hx => ⟨_, rfl, by unfold e3__law_sum; simp -dsimp [wipeT, opT, shP, at_0, at_1, at_2, at_3]⟩) ?_
    exact Kp.mk ⟨rfl, rfl⟩
  rintro τ h1 ⟨rfl, rfl⟩
  refine wp_cut (fun τ h1 => h = h1 ∧ τ = [some a.enc, some b.enc, some (.int (a.w.length : Int)), some (.lst (b.f.map (fun y => dfT (shF a.w.length y)))), some (.lst ((b.n.filter (fun y => !decide (y ∈ a.n))).map wtT)), some (.lst (b.p.map (fun y => opT (shP a.w.length y)))), some (.lst (b.m.map (fun y => sgT (shM a.w.length y)))), none, none]) ?_ ?_
  · unfold Pt.enc; simp -dsimp [at_5]
    refine lc_seq' (f := fun y => sgT (shM a.w.length y)) (by rw [Nat.zero_add]; exact sz (by omega)) (fun x hx => ⟨_, rfl, by unfold e4__law_sum; simp -dsimp [wipeT, sgT, shM, at_0, at_1, at_2, at_3]⟩) ?_
    exact Kp.mk ⟨rfl, rfl⟩
  rintro τ h1 ⟨rfl, rfl⟩
  have lf := List.length_filter_le (fun y => !decide (y ∈ a.n)) b.n
  have kk : (Sm a b).enc = .tup [.tup (a.w.map .int ++ b.w.map .int), .tup (a.f.map dfT ++ b.f.map (fun y => dfT (shF a.w.length y))), .tup (a.d.map otT ++ b.d.map otT), .tup (a.n.map wtT ++ (b.n.filter (fun y => !decide (y ∈ a.n))).map wtT), .tup (a.p.map opT ++ b.p.map (fun y => opT (shP a.w.length y))), .tup (a.m.map sgT ++ b.m.map (fun y => sgT (shM a.w.length y)))] := by
    simp only [Sm, Pt.enc, List.map_append, List.map_map]; rfl
  rw [kk] at k
  generalize (b.n.filter (fun y => !decide (y ∈ a.n))) = bn at lf k
  unfold Pt.enc
  simp -dsimp [at_0, at_1, at_2, at_3, at_4, at_5, show a.w.length + b.w.length ≤ sizeLine from sz (by omega), show a.f.length + b.f.length ≤ sizeLine from sz (by omega), show a.d.length + b.d.length ≤ sizeLine from sz (by omega), show a.n.length + bn.length ≤ sizeLine from sz (by omega), show a.p.length + b.p.length ≤ sizeLine from sz (by omega), show a.m.length + b.m.length ≤ sizeLine from sz (by omega)]
  exact k
end

def wk (y : Wt) : List Key := [Sum.inr y.1, Sum.inr y.2.1, Sum.inl y.2.2]
theorem wk_inj {x y : Wt} (h : wk x = wk y) : x = y := by
  obtain ⟨a, b, c⟩ := x
  obtain ⟨d, e, f⟩ := y
  simp [wk] at h
  obtain ⟨rfl, rfl, rfl⟩ := h
  rfl
def hadM (l : List Wt) : List (List Key × T) := l.foldl (fun m x => putT m (wk x) (.bl true)) []
theorem had_get {y : Wt} : ∀ (l : List Wt) (m : List (List Key × T)), getT (l.foldl (fun m x => putT m (wk x) (.bl true)) m) (wk y) = if y ∈ l then some (.bl true) else getT m (wk y)
  | [], m => by simp
  | x :: l, m => by
    rw [List.foldl_cons, had_get l, getT_putT]
    by_cases h : y ∈ l
    · simp [h]
    · by_cases e : y = x
      · subst e; simp
      · have e' : ¬ wk y = wk x := fun q => e (wk_inj q)
        simp [h, e, e']
theorem had_look {l : List Wt} {y : Wt} {h : AH} : lookD (.dctT ((hadM l).map (·.1)) ((hadM l).map (·.2))) (wtT y) h = some (if y ∈ l then some (.bl true) else none) := by
  have e : keysOf (wtT y) = some (wk y) := rfl
  have g := had_get (y := y) l []
  have n : getT ([] : List (List Key × T)) (wk y) = none := rfl
  rw [n] at g
  unfold lookD
  simp only [dctK, dctTT, e, zipT]
  exact congrArg some g
section
variable {h : AH} {P : T → AH → Prop} {X : Exc → AH → Prop}
theorem lk_w {x0 x1 x2 x3 x4 x5 : T} : List.lookup (Str.ofString "words") [(Str.ofString "words", x0), (Str.ofString "functions", x1), (Str.ofString "data", x2), (Str.ofString "needs", x3), (Str.ofString "places", x4), (Str.ofString "marks", x5)] = some x0 := by kernel_rfl
theorem lk_f {x0 x1 x2 x3 x4 x5 : T} : List.lookup (Str.ofString "functions") [(Str.ofString "words", x0), (Str.ofString "functions", x1), (Str.ofString "data", x2), (Str.ofString "needs", x3), (Str.ofString "places", x4), (Str.ofString "marks", x5)] = some x1 := by kernel_rfl
theorem lk_d {x0 x1 x2 x3 x4 x5 : T} : List.lookup (Str.ofString "data") [(Str.ofString "words", x0), (Str.ofString "functions", x1), (Str.ofString "data", x2), (Str.ofString "needs", x3), (Str.ofString "places", x4), (Str.ofString "marks", x5)] = some x2 := by kernel_rfl
theorem lk_n {x0 x1 x2 x3 x4 x5 : T} : List.lookup (Str.ofString "needs") [(Str.ofString "words", x0), (Str.ofString "functions", x1), (Str.ofString "data", x2), (Str.ofString "needs", x3), (Str.ofString "places", x4), (Str.ofString "marks", x5)] = some x3 := by kernel_rfl
theorem lk_p {x0 x1 x2 x3 x4 x5 : T} : List.lookup (Str.ofString "places") [(Str.ofString "words", x0), (Str.ofString "functions", x1), (Str.ofString "data", x2), (Str.ofString "needs", x3), (Str.ofString "places", x4), (Str.ofString "marks", x5)] = some x4 := by kernel_rfl
theorem lk_m {x0 x1 x2 x3 x4 x5 : T} : List.lookup (Str.ofString "marks") [(Str.ofString "words", x0), (Str.ofString "functions", x1), (Str.ofString "data", x2), (Str.ofString "needs", x3), (Str.ofString "places", x4), (Str.ofString "marks", x5)] = some x5 := by kernel_rfl
theorem add_wp {a b : Pt} (oa : a.ok 1000) (ob : b.ok 1000) (k : P (obT (Sm a b)) (h ++ [none])) : Wp (m_Object___add__ [obT a, obT b] h) P X := by
  have := oa.lw; have := oa.lf; have := oa.ld; have := oa.ln; have := oa.lp; have := oa.lm; have := ob.lw; have := ob.lf; have := ob.ld; have := ob.ln; have := ob.lp; have := ob.lm
  unfold m_Object___add__
  rw [w_def]
  unfold b_Object___add__
  refine wp_cut (fun τ h1 => h = h1 ∧ τ = [some (obT a), some (obT b), some (.int (a.w.length : Int)), none, none, none, none, none, none, none, none, none, none, none, none, none]) ?_ ?_
  · unfold obT; simp -dsimp; exact Kp.mk ⟨rfl, rfl⟩
  rintro τ h1 ⟨rfl, rfl⟩
  refine wp_cut (fun τ h1 => h = h1 ∧ τ = [some (obT a), some (obT b), some (.int (a.w.length : Int)), some (.lst (b.f.map (fun y => dfT (shF a.w.length y)))), none, none, none, none, none, none, none, none, none, none, none, none]) ?_ ?_
  · unfold obT; simp -dsimp
    refine lc_seq' (f := fun y => dfT (shF a.w.length y)) (by rw [Nat.zero_add]; exact sz (by omega)) (fun x hx => ⟨_, rfl, by unfold e1_Object___add__; simp -dsimp [wipeT, dfT, tfT, shF]⟩) ?_
    exact Kp.mk ⟨rfl, rfl⟩
  rintro τ h1 ⟨rfl, rfl⟩
  refine wp_cut (fun τ h1 => h = h1 ∧ τ = [some (obT a), some (obT b), some (.int (a.w.length : Int)), some (.lst (b.f.map (fun y => dfT (shF a.w.length y)))), some (.lst (b.p.map (fun y => opT (shP a.w.length y)))), none, none, none, none, none, none, none, none, none, none, none]) ?_ ?_
  · unfold obT; simp -dsimp
    refine lc_seq' (f := fun y => opT (shP a.w.length y)) (by rw [Nat.zero_add]; exact sz (by omega)) (fun x hx => ⟨_, rfl, by unfold e2_Object___add__; simp -dsimp [wipeT, opT, shP]⟩) ?_
    exact Kp.mk ⟨rfl, rfl⟩
  rintro τ h1 ⟨rfl, rfl⟩
  refine wp_cut (fun τ h1 => h = h1 ∧ τ = [some (obT a), some (obT b), some (.int (a.w.length : Int)), some (.lst (b.f.map (fun y => dfT (shF a.w.length y)))), some (.lst (b.p.map (fun y => opT (shP a.w.length y)))), some (.lst (b.m.map (fun y => sgT (shM a.w.length y)))), none, none, none, none, none, none, none, none, none, none]) ?_ ?_
  · unfold obT; simp -dsimp
    refine lc_seq' (f := fun y => sgT (shM a.w.length y)) (by rw [Nat.zero_add]; exact sz (by omega)) (fun x hx => ⟨_, rfl, by unfold e3_Object___add__; simp -dsimp [wipeT, sgT, shM]⟩) ?_
    exact Kp.mk ⟨rfl, rfl⟩
  rintro τ h1 ⟨rfl, rfl⟩
  refine wp_cut (fun τ h1 => h = h1 ∧ τ = [some (obT a), some (obT b), some (.int (a.w.length : Int)), some (.lst (b.f.map (fun y => dfT (shF a.w.length y)))), some (.lst (b.p.map (fun y => opT (shP a.w.length y)))), some (.lst (b.m.map (fun y => sgT (shM a.w.length y)))), some (.dctT ((hadM a.n).map (·.1)) ((hadM a.n).map (·.2))), none, none, none, none, none, none, none, none, none]) ?_ ?_
  · unfold obT; simp -dsimp
    refine dcT_seq (g := wtT) (kf := wk) (vf := fun _ => .bl true) (by simp only [List.length_nil, Nat.zero_add]; exact sz (by omega)) (fun x hx => ⟨_, rfl, by unfold k4_Object___add__; simp -dsimp [wipeT, wtT, wk], by unfold v4_Object___add__; simp -dsimp⟩) ?_
    exact Kp.mk ⟨rfl, rfl⟩
  rintro τ h1 ⟨rfl, rfl⟩
  refine wp_cut (fun τ h1 => h = h1 ∧ τ = [some (obT a), some (obT b), some (.int (a.w.length : Int)), some (.lst (b.f.map (fun y => dfT (shF a.w.length y)))), some (.lst (b.p.map (fun y => opT (shP a.w.length y)))), some (.lst (b.m.map (fun y => sgT (shM a.w.length y)))), some (.dctT ((hadM a.n).map (·.1)) ((hadM a.n).map (·.2))), some (.lst ((b.n.filter (fun y => !decide (y ∈ a.n))).map wtT)), none, none, none, none, none, none, none, none]) ?_ ?_
  · unfold obT; simp -dsimp
    refine Wp.of (lcf_eq (g := wtT) (f := wtT) (c := fun y => !decide (y ∈ a.n)) (by rw [Nat.zero_add]; exact sz (by omega)) (fun x hx => ⟨_, rfl, by
      by_cases z : x ∈ a.n <;> simp [-lookD, -dctK, -dctTT, wipeT, had_look, z], fun _ => by simp [wipeT, e6_Object___add__]⟩)) ?_
    exact Kp.mk ⟨rfl, rfl⟩
  rintro τ h1 ⟨rfl, rfl⟩
  have lf := List.length_filter_le (fun y => !decide (y ∈ a.n)) b.n
  have kk : obT (Sm a b) = .inst "Object" ["words", "functions", "data", "needs", "places", "marks"] [.tup (a.w.map .int ++ b.w.map .int), .tup (a.f.map dfT ++ b.f.map (fun y => dfT (shF a.w.length y))), .tup (a.d.map otT ++ b.d.map otT), .tup (a.n.map wtT ++ (b.n.filter (fun y => !decide (y ∈ a.n))).map wtT), .tup (a.p.map opT ++ b.p.map (fun y => opT (shP a.w.length y))), .tup (a.m.map sgT ++ b.m.map (fun y => sgT (shM a.w.length y)))] := by
    simp only [Sm, obT, List.map_append, List.map_map]; rfl
  rw [kk] at k
  generalize (b.n.filter (fun y => !decide (y ∈ a.n))) = bn at lf k
  unfold obT
  simp -dsimp [lk_w, lk_f, lk_d, lk_n, lk_p, lk_m, show a.w.length + b.w.length ≤ sizeLine from sz (by omega), show a.f.length + b.f.length ≤ sizeLine from sz (by omega), show a.d.length + b.d.length ≤ sizeLine from sz (by omega), show a.n.length + bn.length ≤ sizeLine from sz (by omega), show a.p.length + b.p.length ≤ sizeLine from sz (by omega), show a.m.length + b.m.length ≤ sizeLine from sz (by omega)]
  unfold m_Object___init__ b_Object___init__
  simp -dsimp
  rw [frz_ins get_new (by intro t ht; simp at ht; rcases ht with rfl | rfl | rfl | rfl | rfl | rfl <;> rfl), set_new]
  exact k
theorem Al_ints {n : Nat} {l : List Int} : ∀ x ∈ l.map T.int, Al n x := by
  intro x hx; obtain ⟨i, _, rfl⟩ := List.mem_map.mp hx; exact .int
theorem enc_al {a : Pt} (oa : a.ok 3000) : Al 5 a.enc := by
  have := oa.lw; have := oa.lf; have := oa.ld; have := oa.ln; have := oa.lp; have := oa.lm
  unfold Pt.enc
  refine .tup (fun x hx => ?_) (by simp)
  simp only [List.mem_cons, List.not_mem_nil, or_false] at hx
  rcases hx with rfl | rfl | rfl | rfl | rfl | rfl
  · exact .tup Al_ints (by rw [List.length_map]; omega)
  · refine .tup (fun x hx => ?_) (by rw [List.length_map]; omega)
    obtain ⟨y, _, rfl⟩ := List.mem_map.mp hx
    refine .tup (fun x hx => ?_) (by simp)
    simp only [List.mem_cons, List.not_mem_nil, or_false] at hx
    rcases hx with rfl | rfl | rfl | rfl <;> first | exact .int | exact .str
  · refine .tup (fun x hx => ?_) (by rw [List.length_map]; omega)
    obtain ⟨y, _, rfl⟩ := List.mem_map.mp hx
    refine .tup (fun x hx => ?_) (by simp)
    simp only [List.mem_cons, List.not_mem_nil, or_false] at hx
    rcases hx with rfl | rfl | rfl <;> first | exact .int | exact .str
  · refine .tup (fun x hx => ?_) (by rw [List.length_map]; omega)
    obtain ⟨y, _, rfl⟩ := List.mem_map.mp hx
    refine .tup (fun x hx => ?_) (by simp)
    simp only [List.mem_cons, List.not_mem_nil, or_false] at hx
    rcases hx with rfl | rfl | rfl <;> first | exact .int | exact .str
  · refine .tup (fun x hx => ?_) (by rw [List.length_map]; omega)
    obtain ⟨y, _, rfl⟩ := List.mem_map.mp hx
    refine .tup (fun x hx => ?_) (by simp)
    simp only [List.mem_cons, List.not_mem_nil, or_false] at hx
    rcases hx with rfl | rfl | rfl <;> first | exact .int | exact .str
  · refine .tup (fun x hx => ?_) (by rw [List.length_map]; omega)
    obtain ⟨y, hy, rfl⟩ := List.mem_map.mp hx
    have l8 := oa.m8 y hy
    refine .tup (fun x hx => ?_) (by simp)
    simp only [List.mem_cons, List.not_mem_nil, or_false] at hx
    rcases hx with rfl | rfl | rfl
    · exact .int
    · exact .str
    · refine .tup (fun x hx => ?_) (by rw [List.length_map]; omega)
      obtain ⟨z, _, rfl⟩ := List.mem_map.mp hx
      refine .tup (fun x hx => ?_) (by simp)
      simp only [List.mem_cons, List.not_mem_nil, or_false] at hx
      rcases hx with rfl | rfl <;> first | exact .int | exact .str
theorem is_wp {a : Pt} (oa : a.ok 3000) (k : P (.bl true) h) : Wp (m__law_is [obT a, a.enc] h) P X := by
  unfold m__law_is
  rw [w_def]
  unfold b__law_is
  simp -dsimp [obT]
  unfold m_Object_parts b_Object_parts
  simp -dsimp
  refine alike_wp 40 5 a.enc h _ _ (enc_al oa) (by decide) ?_
  simp -dsimp [obT]
  unfold m_Object_size b_Object_size
  simp -dsimp [Pt.enc, at_0]
  refine alike_wp 40 0 _ h _ _ .int (by decide) ?_
  simp -dsimp
  exact k
end

theorem ptOf_ok {b : Nat} {h h0 : AH} {t : Tg} (a : TgAt b h t) (l1 : t.rows.length ≤ 200) (l2 : t.wants.length ≤ 200) (l3 : t.outer.length ≤ 200) (l4 : t.defs.length ≤ 200) : (ptOf h0 t).ok 200 :=
  ⟨a.wk, a.sg, by simp [ptOf]; omega, l4, l3, l2, Nat.le_trans a.pl l1, Nat.le_trans a.sl l1⟩
theorem Pt.ok.mono {c d : Nat} {x : Pt} (o : x.ok c) (h : c ≤ d) : x.ok d := ⟨o.n, o.m8, Nat.le_trans o.lw h, Nat.le_trans o.lf h, Nat.le_trans o.ld h, Nat.le_trans o.ln h, Nat.le_trans o.lp h, Nat.le_trans o.lm h⟩
section
variable {h : AH} {P : T → AH → Prop} {X : Exc → AH → Prop}
theorem law_wp {ns : List Int} (e : h = []) (hl : ns.length ≤ 63) (k : ∀ h', P (.bl true) h') : Wp (m_law [.rdl (ns.map .int)] h) P X := by
  unfold m_law
  rw [w_def]
  unfold b_law
  refine wp_cut (fun τ h1 => ∃ o, PoolAt o ∧ h1 = [o] ∧ τ = [some (.rdl (ns.map .int)), some (.obj 0), none, none, none, none, none, none, none, none, none, none, none]) ?_ ?_
  · obtain ⟨o, q, e1⟩ := pool_ok (h := h) hl
    have e2 : h.length = 0 := by rw [e]; rfl
    have e3 : h ++ [o] = [o] := by rw [e]; rfl
    rw [e2, e3] at e1
    simp -dsimp
    exact Wp.of e1 (Kp.mk ⟨o, q, rfl, rfl⟩)
  rintro τ h1 ⟨o, qo, eo, rfl⟩
  refine wp_cut (fun τ h1 => Pl 0 h1 ∧ τ = [some (.rdl (ns.map .int)), some (.obj 0), some (.dct tbK tbL), none, none, none, none, none, none, none, none, none, none]) ?_ ?_
  · have e2 : m__law_table [] h1 = .ok (.dct tbK tbL) [o, none] := by rw [eo]; exact table_ok
    have p2 : Pl 0 [o, none] := ⟨o, rfl, qo⟩
    simp -dsimp
    exact Wp.of e2 (Kp.mk ⟨p2, rfl⟩)
  rintro τ h2 ⟨p2, rfl⟩
  clear eo
  refine wp_cut (fun τ h2 => ∃ b0 b1 b2 t0 t1 t2, τ = [some (.rdl (ns.map .int)), some (.obj 0), some (.dct tbK tbL), some (.lst [thT b0, thT b1, thT b2]), none, none, none, none, none, none, none, none, none] ∧ Pl 0 h2 ∧ 0 < b0 ∧ b0 + 6 ≤ b1 ∧ b1 + 6 ≤ b2 ∧ TgAt b0 h2 t0 ∧ TgAt b1 h2 t1 ∧ TgAt b2 h2 t2 ∧
    t0.rows.length ≤ 100 ∧ t1.rows.length ≤ 100 ∧ t2.rows.length ≤ 100 ∧ t0.wants.length ≤ 6 ∧ t1.wants.length ≤ 6 ∧ t2.wants.length ≤ 6 ∧ t0.outer.length ≤ 6 ∧ t1.outer.length ≤ 6 ∧ t2.outer.length ≤ 6 ∧ t0.defs.length ≤ 6 ∧ t1.defs.length ≤ 6 ∧ t2.defs.length ≤ 6) ?_ ?_
  · rw [sfz_no (t := .dct tbK tbL) rfl rfl]
    have r3 : (List.range 3).map (fun (i : Nat) => T.int (i : Int)) = [.int 0, .int 1, .int 2] := rfl
    have s0 : (0 : Nat) < sizeLine := szl (by omega)
    have s1 : (1 : Nat) < sizeLine := szl (by omega)
    have s2 : (2 : Nat) < sizeLine := szl (by omega)
    simp -dsimp
    rw [r3]
    simp -dsimp [mLcL, wipeT, e1_law]
    refine thing_wp p2 fun t0 h3 a0 x0 r0 w0 o0 d0 => ?_
    simp -dsimp [mLcL, wipeT, e1_law, s0]
    refine thing_wp x0.pl fun t1 h4 a1 x1 r1 w1 o1 d1 => ?_
    simp -dsimp [mLcL, wipeT, e1_law, s1]
    refine thing_wp x1.pl fun t2 h5 a2 x2 r2 w2 o2 d2 => ?_
    simp -dsimp [mLcL, s2]
    have l0 := a0.lt
    have l1 := a1.lt
    have l2 := p2.lt
    exact Kp.mk ⟨h2.length, h3.length, h4.length, t0, t1, t2, rfl, x2.pl, by omega, by omega, by omega, (a0.ht x1 (by omega)).ht x2 (by omega), a1.ht x2 (by omega), a2, r0, r1, r2, w0, w1, w2, o0, o1, o2, d0, d1, d2⟩
  rintro τ h3 ⟨b0, b1, b2, t0, t1, t2, rfl, p3, z0, z1, z2, a0, a1, a2, r0, r1, r2, w0, w1, w2, o0, o1, o2, d0, d1, d2⟩
  -- needs alike
  refine wp_cut (fun τ h4 => ∃ ws, τ = [some (.rdl (ns.map .int)), some (.obj 0), some (.dct tbK tbL), some (.lst [thT b0, thT b1, thT b2]), none, none, none, none, none, none, none, none, none] ∧ Pl 0 h4 ∧ TgAt b0 h4 t0 ∧ TgAt b1 h4 { t1 with wants := ws } ∧ TgAt b2 h4 t2 ∧ ws.length ≤ 12) ?_ ?_
  · simp -dsimp [-lookD, -dctK, -dctTT, at_0, at_1, th_w, a0.w]
    refine like_wp p3 a1 (by omega) (by omega) (by omega) a0.wk fun ws h4 a1' x4 lw => ?_
    simp -dsimp
    exact Kp.mk ⟨ws, rfl, x4.pl, a0.hb x4 z0 (.inl z1), a1', a2.hb x4 (by omega) (.inr z2), by omega⟩
  rintro τ h4 ⟨ws1, rfl, p4, a0, a1, a2, lw1⟩
  refine wp_cut (fun τ h4 => ∃ ws, τ = [some (.rdl (ns.map .int)), some (.obj 0), some (.dct tbK tbL), some (.lst [thT b0, thT b1, thT b2]), none, none, none, none, none, none, none, none, none] ∧ TgAt b0 h4 t0 ∧ TgAt b1 h4 { t1 with wants := ws1 } ∧ TgAt b2 h4 { t2 with wants := ws } ∧ ws.length ≤ 30) ?_ ?_
  · simp -dsimp [-lookD, -dctK, -dctTT, at_0, at_1, at_2, th_w, a0.w, a1.w, show t0.wants.length + ws1.length ≤ sizeLine from sz (by omega)]
    have ee : t0.wants.map wtT ++ ws1.map wtT = (t0.wants ++ ws1).map wtT := by rw [List.map_append]
    rw [ee]
    refine like_wp p4 a2 (by omega) (by omega) (by simp; omega) (fun x hx => ?_) fun ws h5 a2' x5 lw => ?_
    · rcases List.mem_append.mp hx with q | q
      · exact a0.wk x q
      · exact a1.wk x q
    simp at lw
    simp -dsimp
    exact Kp.mk ⟨ws, rfl, a0.hb x5 z0 (.inl (by omega)), a1.hb x5 (by omega) (.inl z2), a2', by omega⟩
  rintro τ h5 ⟨ws2, rfl, a0, a1, a2, lw2⟩
  obtain ⟨A, eA⟩ : ∃ A, A = ptOf h5 t0 := ⟨_, rfl⟩
  obtain ⟨B, eB⟩ : ∃ B, B = ptOf h5 { t1 with wants := ws1 } := ⟨_, rfl⟩
  obtain ⟨D, eD⟩ : ∃ D, D = ptOf h5 { t2 with wants := ws2 } := ⟨_, rfl⟩
  have oA : A.ok 200 := by rw [eA]; exact ptOf_ok a0 (by omega) (by omega) (by omega) (by omega)
  have oB : B.ok 200 := by rw [eB]; exact ptOf_ok a1 (by dsimp only; omega) (by dsimp only; omega) (by dsimp only; omega) (by dsimp only; omega)
  have oD : D.ok 200 := by rw [eD]; exact ptOf_ok a2 (by dsimp only; omega) (by dsimp only; omega) (by dsimp only; omega) (by dsimp only; omega)
  refine wp_cut (fun τ h4 => τ = [some (.rdl (ns.map .int)), some (.obj 0), some (.dct tbK tbL), some (.lst [thT b0, thT b1, thT b2]), some (.lst [A.enc, B.enc, D.enc]), none, none, none, none, none, none, none, none]) ?_ ?_
  · have s0 : (0 : Nat) < sizeLine := szl (by omega)
    have s1 : (1 : Nat) < sizeLine := szl (by omega)
    have s2 : (2 : Nat) < sizeLine := szl (by omega)
    simp -dsimp [mLcL, wipeT, e2_law]
    refine parts_wp a0 (by omega) ?_
    simp -dsimp [mLcL, wipeT, e2_law, s0]
    refine parts_wp a1 (by dsimp only; omega) ?_
    simp -dsimp [mLcL, wipeT, e2_law, s1]
    refine parts_wp a2 (by dsimp only; omega) ?_
    simp -dsimp [mLcL, s2]
    rw [← eA, ← eB, ← eD]
    exact Kp.mk rfl
  rintro τ h6 rfl
  clear eA eB eD a0 a1 a2
  have own : ∀ (a b : Pt) (h : AH), oOwn "Object" m_Object___add__ (obT a) (obT b) h = m_Object___add__ [obT a, obT b] h := fun a b h => rfl
  have q1 := oA.mono (d := 1000) (by decide)
  have q2 := oB.mono (d := 1000) (by decide)
  have q3 := oD.mono (d := 1000) (by decide)
  have q4 := (Sm_ok oA oB).mono (d := 1000) (by decide)
  have q5 := (Sm_ok oB oD).mono (d := 1000) (by decide)
  have q6 := (Sm_ok oB oB).mono (d := 3000) (by decide)
  have q7 := (Sm_ok (Sm_ok oA oB) oD).mono (d := 3000) (by decide)
  refine wp_cut (fun τ h4 => τ = [some (.rdl (ns.map .int)), some (.obj 0), some (.dct tbK tbL), some (.lst [thT b0, thT b1, thT b2]), some (.lst [A.enc, B.enc, D.enc]), some (obT A), none, none, none, none, none, none, none]) ?_ ?_
  · rw [sfz_no (t := .lst [A.enc, B.enc, D.enc]) rfl rfl]
    simp -dsimp [at_0, at_1, at_2]
    refine object_wp ?_
    exact Kp.mk rfl
  rintro τ h7 rfl
  refine wp_cut (fun τ h4 => τ = [some (.rdl (ns.map .int)), some (.obj 0), some (.dct tbK tbL), some (.lst [thT b0, thT b1, thT b2]), some (.lst [A.enc, B.enc, D.enc]), some (obT A), some (obT B), none, none, none, none, none, none]) ?_ ?_
  · simp -dsimp [at_0, at_1, at_2]
    refine object_wp ?_
    exact Kp.mk rfl
  rintro τ h8 rfl
  refine wp_cut (fun τ h4 => τ = [some (.rdl (ns.map .int)), some (.obj 0), some (.dct tbK tbL), some (.lst [thT b0, thT b1, thT b2]), some (.lst [A.enc, B.enc, D.enc]), some (obT A), some (obT B), some (obT D), none, none, none, none, none]) ?_ ?_
  · simp -dsimp [at_0, at_1, at_2]
    refine object_wp ?_
    exact Kp.mk rfl
  rintro τ h9 rfl
  refine wp_cut (fun τ h4 => τ = [some (.rdl (ns.map .int)), some (.obj 0), some (.dct tbK tbL), some (.lst [thT b0, thT b1, thT b2]), some (.lst [A.enc, B.enc, D.enc]), some (obT A), some (obT B), some (obT D), some (Sm A B).enc, none, none, none, none]) ?_ ?_
  · simp -dsimp [at_0, at_1, at_2]
    refine sum_wp q1 q2 ?_
    exact Kp.mk rfl
  rintro τ h10 rfl
  refine wp_cut (fun τ h4 => τ = [some (.rdl (ns.map .int)), some (.obj 0), some (.dct tbK tbL), some (.lst [thT b0, thT b1, thT b2]), some (.lst [A.enc, B.enc, D.enc]), some (obT A), some (obT B), some (obT D), some (Sm A B).enc, some (Sm (Sm A B) D).enc, none, none, none]) ?_ ?_
  · simp -dsimp [at_0, at_1, at_2]
    refine sum_wp q4 q3 ?_
    exact Kp.mk rfl
  rintro τ h11 rfl
  refine wp_cut (fun τ h4 => τ = [some (.rdl (ns.map .int)), some (.obj 0), some (.dct tbK tbL), some (.lst [thT b0, thT b1, thT b2]), some (.lst [A.enc, B.enc, D.enc]), some (obT A), some (obT B), some (obT D), some (Sm A B).enc, some (Sm (Sm A B) D).enc, some (obT (Sm A B)), none, none]) ?_ ?_
  · rw [sfz_no (t := obT A) rfl rfl, sfz_no (t := obT B) rfl rfl]
    simp -dsimp [-oOwn, own]
    refine add_wp q1 q2 ?_
    exact Kp.mk rfl
  rintro τ h12 rfl
  refine wp_cut (fun τ h4 => τ = [some (.rdl (ns.map .int)), some (.obj 0), some (.dct tbK tbL), some (.lst [thT b0, thT b1, thT b2]), some (.lst [A.enc, B.enc, D.enc]), some (obT A), some (obT B), some (obT D), some (Sm A B).enc, some (Sm (Sm A B) D).enc, some (obT (Sm A B)), none, none]) ?_ ?_
  · rw [sfz_no (t := obT (Sm A B)) rfl rfl, sfz_no (t := obT D) rfl rfl]
    simp -dsimp [-oOwn, own]
    refine is_wp (q4.mono (by decide)) ?_
    simp -dsimp [-oOwn, own]
    refine add_wp q4 q3 ?_
    simp -dsimp [-oOwn, own]
    refine is_wp q7 ?_
    simp -dsimp
    exact Kp.mk rfl
  rintro τ h13 rfl
  refine wp_cut (fun τ h4 => τ = [some (.rdl (ns.map .int)), some (.obj 0), some (.dct tbK tbL), some (.lst [thT b0, thT b1, thT b2]), some (.lst [A.enc, B.enc, D.enc]), some (obT A), some (obT B), some (obT D), some (Sm A B).enc, some (Sm (Sm A B) D).enc, some (obT (Sm A B)), none, none]) ?_ ?_
  · simp -dsimp [-oOwn, own, at_1, at_2]
    refine add_wp q2 q3 ?_
    simp -dsimp [at_1, at_2]
    refine sum_wp q2 q3 ?_
    simp -dsimp
    refine is_wp (q5.mono (by decide)) ?_
    simp -dsimp
    exact Kp.mk rfl
  rintro τ h14 rfl
  refine wp_cut (fun τ h4 => τ = [some (.rdl (ns.map .int)), some (.obj 0), some (.dct tbK tbL), some (.lst [thT b0, thT b1, thT b2]), some (.lst [A.enc, B.enc, D.enc]), some (obT A), some (obT B), some (obT D), some (Sm A B).enc, some (Sm (Sm A B) D).enc, some (obT (Sm A B)), none, none]) ?_ ?_
  · simp -dsimp [-oOwn, own, at_1, at_2]
    refine add_wp q2 q3 ?_
    simp -dsimp [-oOwn, own, at_1, at_2]
    refine add_wp q1 q5 ?_
    simp -dsimp
    rw [Sm_assoc]
    refine is_wp (by rw [← Sm_assoc]; exact q7) ?_
    simp -dsimp
    exact Kp.mk rfl
  rintro τ h15 rfl
  refine wp_cut (fun τ h4 => τ = [some (.rdl (ns.map .int)), some (.obj 0), some (.dct tbK tbL), some (.lst [thT b0, thT b1, thT b2]), some (.lst [A.enc, B.enc, D.enc]), some (obT A), some (obT B), some (obT D), some (Sm A B).enc, some (Sm (Sm A B) D).enc, some (obT (Sm A B)), none, none]) ?_ ?_
  · simp -dsimp [-oOwn, own, at_1, at_2]
    refine add_wp q2 q2 ?_
    simp -dsimp [at_1, at_2]
    refine sum_wp q2 q2 ?_
    simp -dsimp
    refine is_wp q6 ?_
    simp -dsimp
    exact Kp.mk rfl
  rintro τ h16 rfl
  refine wp_cut (fun τ h4 => τ = [some (.rdl (ns.map .int)), some (.obj 0), some (.dct tbK tbL), some (.lst [thT b0, thT b1, thT b2]), some (.lst [A.enc, B.enc, D.enc]), some (obT A), some (obT B), some (obT D), some (Sm A B).enc, some (Sm (Sm A B) D).enc, some (obT (Sm A B)), none, none]) ?_ ?_
  · simp -dsimp [-oOwn, own]
    refine is_wp (q4.mono (by decide)) ?_
    simp -dsimp [-oOwn, own]
    refine add_wp q1 q2 ?_
    simp -dsimp [-oOwn, own]
    refine is_wp (q4.mono (by decide)) ?_
    simp -dsimp
    exact Kp.mk rfl
  rintro τ h17 rfl
  simp -dsimp [at_0, at_1, at_2]
  refine is_wp (q1.mono (by decide)) ?_
  simp -dsimp [at_0, at_1, at_2]
  refine is_wp (q2.mono (by decide)) ?_
  simp -dsimp [at_0, at_1, at_2]
  refine is_wp (q3.mono (by decide)) ?_
  simp -dsimp
  exact k _
theorem law_eq {ns : List Int} (e : h = []) (hl : ns.length ≤ 63) : ∃ h', m_law [.rdl (ns.map .int)] h = .ok (.bl true) h' := by
  obtain ⟨t, h', e1, rfl⟩ := (law_wp (h := h) (P := fun t _ => t = .bl true) (X := fun _ _ => False) e hl fun _ => rfl).ok
  exact ⟨h', e1⟩
end

theorem law_true : ∀ ns : List Int, ns.length ≤ 63 → ∃ h', m_law [.rdl (ns.map .int)] [] = .ok (.bl true) h' := fun ns hl => by
  exact law_eq rfl hl

end Lk60
namespace Lk60
open PySem PySem.Spec PyProof.Rows L2 M
def topS (i : Nat) : Stmt := PySem.Challenge.pw_sameruns_k60_join_brackets.main.body.getD i (.Pass ⟨0, 0, 0, 0⟩)
abbrev s__law_pool : Stmt := topS 4
abbrev N__law_pool : List Str := ["script"]
theorem sc__law_pool : FnScope ["script"] ["script"] (defScope s__law_pool) := ⟨rfl, rfl, rfl, by decide +kernel, rfl, by decide +kernel, by decide +kernel⟩
abbrev s__law_table : Stmt := topS 9
abbrev N__law_table : List Str := ["table", "three", "other", "k", "pair"]
theorem sc__law_table : FnScope ["table", "three", "other", "k", "pair"] [] (defScope s__law_table) := ⟨rfl, rfl, rfl, by decide +kernel, rfl, by decide +kernel, by decide +kernel⟩
abbrev s__law_draw : Stmt := topS 5
abbrev N__law_draw : List Str := ["pool", "many", "digit"]
theorem sc__law_draw : FnScope ["pool", "many", "digit"] ["pool", "many"] (defScope s__law_draw) := ⟨rfl, rfl, rfl, by decide +kernel, rfl, by decide +kernel, by decide +kernel⟩
abbrev s__law_pick : Stmt := topS 6
abbrev N__law_pick : List Str := ["pool", "things"]
theorem sc__law_pick : FnScope ["pool", "things"] ["pool", "things"] (defScope s__law_pick) := ⟨rfl, rfl, rfl, by decide +kernel, rfl, by decide +kernel, by decide +kernel⟩
abbrev s__law_many : Stmt := topS 14
abbrev N__law_many : List Str := ["pool"]
theorem sc__law_many : FnScope ["pool"] ["pool"] (defScope s__law_many) := ⟨rfl, rfl, rfl, by decide +kernel, rfl, by decide +kernel, by decide +kernel⟩
abbrev s__law_title : Stmt := topS 13
abbrev N__law_title : List Str := ["pool", "some", "signs", "out", "turn"]
theorem sc__law_title : FnScope ["pool", "some", "signs", "out", "turn"] ["pool"] (defScope s__law_title) := ⟨rfl, rfl, rfl, by decide +kernel, rfl, by decide +kernel, by decide +kernel⟩
abbrev s__law_long : Stmt := topS 15
abbrev N__law_long : List Str := ["pool"]
theorem sc__law_long : FnScope ["pool"] ["pool"] (defScope s__law_long) := ⟨rfl, rfl, rfl, by decide +kernel, rfl, by decide +kernel, by decide +kernel⟩
abbrev s__law_want : Stmt := topS 16
abbrev N__law_want : List Str := ["pool", "title", "kind"]
theorem sc__law_want : FnScope ["pool", "title", "kind"] ["pool"] (defScope s__law_want) := ⟨rfl, rfl, rfl, by decide +kernel, rfl, by decide +kernel, by decide +kernel⟩
abbrev s__law_word : Stmt := topS 7
abbrev N__law_word : List Str := ["pool", "kind", "edges"]
theorem sc__law_word : FnScope ["pool", "kind", "edges"] ["pool"] (defScope s__law_word) := ⟨rfl, rfl, rfl, by decide +kernel, rfl, by decide +kernel, by decide +kernel⟩
abbrev s__law_datum : Stmt := topS 17
abbrev N__law_datum : List Str := ["pool", "title"]
theorem sc__law_datum : FnScope ["pool", "title"] ["pool"] (defScope s__law_datum) := ⟨rfl, rfl, rfl, by decide +kernel, rfl, by decide +kernel, by decide +kernel⟩
abbrev s__law_open_row : Stmt := topS 19
abbrev N__law_open_row : List Str := ["pool", "calls", "outers", "kind", "a", "b", "way"]
theorem sc__law_open_row : FnScope ["pool", "calls", "outers", "kind", "a", "b", "way"] ["pool", "calls", "outers"] (defScope s__law_open_row) := ⟨rfl, rfl, rfl, by decide +kernel, rfl, by decide +kernel, by decide +kernel⟩
abbrev s__law_edge : Stmt := topS 11
abbrev N__law_edge : List Str := ["pool", "least", "greatest", "kind"]
theorem sc__law_edge : FnScope ["pool", "least", "greatest", "kind"] ["pool", "least", "greatest"] (defScope s__law_edge) := ⟨rfl, rfl, rfl, by decide +kernel, rfl, by decide +kernel, by decide +kernel⟩
abbrev s__law_drawn_row : Stmt := topS 12
abbrev N__law_drawn_row : List Str := ["pool", "table", "kind", "form", "a", "b"]
theorem sc__law_drawn_row : FnScope ["pool", "table", "kind", "form", "a", "b"] ["pool", "table"] (defScope s__law_drawn_row) := ⟨rfl, rfl, rfl, by decide +kernel, rfl, by decide +kernel, by decide +kernel⟩
abbrev s__law_chain : Stmt := topS 18
abbrev N__law_chain : List Str := ["pool", "out", "turn", "title", "some"]
theorem sc__law_chain : FnScope ["pool", "out", "turn", "title", "some"] ["pool"] (defScope s__law_chain) := ⟨rfl, rfl, rfl, by decide +kernel, rfl, by decide +kernel, by decide +kernel⟩
abbrev s__law_one_word : Stmt := topS 20
abbrev N__law_one_word : List Str := ["pool", "table", "thing", "calls", "outers", "at", "found", "kind"]
theorem sc__law_one_word : FnScope ["pool", "table", "thing", "calls", "outers", "at", "found", "kind"] ["pool", "table", "thing", "calls", "outers"] (defScope s__law_one_word) := ⟨rfl, rfl, rfl, by decide +kernel, rfl, by decide +kernel, by decide +kernel⟩
abbrev s__law_thing : Stmt := topS 21
abbrev N__law_thing : List Str := ["pool", "table", "thing", "turn", "want", "heads", "title", "takes", "one", "calls", "outers"]
theorem sc__law_thing : FnScope ["pool", "table", "thing", "turn", "want", "heads", "title", "takes", "one", "calls", "outers"] ["pool", "table"] (defScope s__law_thing) := ⟨rfl, rfl, rfl, by decide +kernel, rfl, by decide +kernel, by decide +kernel⟩
abbrev s__law_like_needs : Stmt := topS 23
abbrev N__law_like_needs : List Str := ["pool", "thing", "others", "want", "more", "at"]
theorem sc__law_like_needs : FnScope ["pool", "thing", "others", "want", "more", "at"] ["pool", "thing", "others"] (defScope s__law_like_needs) := ⟨rfl, rfl, rfl, by decide +kernel, rfl, by decide +kernel, by decide +kernel⟩
abbrev s__law_encoded : Stmt := topS 10
abbrev N__law_encoded : List Str := ["table", "row", "form", "m", "bits"]
theorem sc__law_encoded : FnScope ["table", "row", "form", "m", "bits"] ["table", "row"] (defScope s__law_encoded) := ⟨rfl, rfl, rfl, by decide +kernel, rfl, by decide +kernel, by decide +kernel⟩
abbrev s__law_parts_of : Stmt := topS 22
abbrev N__law_parts_of : List Str := ["table", "thing", "values", "rest", "row", "key"]
theorem sc__law_parts_of : FnScope ["table", "thing", "values", "rest", "row", "key"] ["table", "thing"] (defScope s__law_parts_of) := ⟨rfl, rfl, rfl, by decide +kernel, rfl, by decide +kernel, by decide +kernel⟩
abbrev s_Object___init__ : Stmt := inClass (topS 2) 0
abbrev N_Object___init__ : List Str := ["self", "words", "functions", "data", "needs", "places", "marks"]
theorem sc_Object___init__ : FnScope ["self", "words", "functions", "data", "needs", "places", "marks"] ["self", "words", "functions", "data", "needs", "places", "marks"] (defScope s_Object___init__) := ⟨rfl, rfl, rfl, by decide +kernel, rfl, by decide +kernel, by decide +kernel⟩
abbrev s__law_object : Stmt := topS 25
abbrev N__law_object : List Str := ["due"]
theorem sc__law_object : FnScope ["due"] ["due"] (defScope s__law_object) := ⟨rfl, rfl, rfl, by decide +kernel, rfl, by decide +kernel, by decide +kernel⟩
abbrev s__law_sum : Stmt := topS 24
abbrev N__law_sum : List Str := ["a", "b", "many", "defs", "wants", "open_at", "signs", "first", "one"]
theorem sc__law_sum : FnScope ["a", "b", "many", "defs", "wants", "open_at", "signs", "first", "one"] ["a", "b"] (defScope s__law_sum) := ⟨rfl, rfl, rfl, by decide +kernel, rfl, by decide +kernel, by decide +kernel⟩
abbrev s_Object___add__ : Stmt := inClass (topS 2) 3
abbrev N_Object___add__ : List Str := ["self", "other", "shift", "functions", "places", "marks", "had", "needs", "name", "start", "params", "frame", "index", "kind", "chain", "need"]
theorem sc_Object___add__ : FnScope ["self", "other", "shift", "functions", "places", "marks", "had", "needs", "name", "start", "params", "frame", "index", "kind", "chain", "need"] ["self", "other"] (defScope s_Object___add__) := ⟨rfl, rfl, rfl, by decide +kernel, rfl, by decide +kernel, by decide +kernel⟩
abbrev s__law_alike : Stmt := topS 8
abbrev N__law_alike : List Str := ["a", "b", "k"]
theorem sc__law_alike : FnScope ["a", "b", "k"] ["a", "b"] (defScope s__law_alike) := ⟨rfl, rfl, rfl, by decide +kernel, rfl, by decide +kernel, by decide +kernel⟩
abbrev s_Object_parts : Stmt := inClass (topS 2) 1
abbrev N_Object_parts : List Str := ["self"]
theorem sc_Object_parts : FnScope ["self"] ["self"] (defScope s_Object_parts) := ⟨rfl, rfl, rfl, by decide +kernel, rfl, by decide +kernel, by decide +kernel⟩
abbrev s_Object_size : Stmt := inClass (topS 2) 2
abbrev N_Object_size : List Str := ["self"]
theorem sc_Object_size : FnScope ["self"] ["self"] (defScope s_Object_size) := ⟨rfl, rfl, rfl, by decide +kernel, rfl, by decide +kernel, by decide +kernel⟩
abbrev s__law_is : Stmt := topS 26
abbrev N__law_is : List Str := ["one", "due"]
theorem sc__law_is : FnScope ["one", "due"] ["one", "due"] (defScope s__law_is) := ⟨rfl, rfl, rfl, by decide +kernel, rfl, by decide +kernel, by decide +kernel⟩
abbrev s_law : Stmt := topS 27
abbrev N_law : List Str := ["script", "pool", "table", "things", "dues", "a", "b", "c", "both", "full", "left", "turn", "thing"]
theorem sc_law : FnScope ["script", "pool", "table", "things", "dues", "a", "b", "c", "both", "full", "left", "turn", "thing"] ["script"] (defScope s_law) := ⟨rfl, rfl, rfl, by decide +kernel, rfl, by decide +kernel, by decide +kernel⟩
/-- a def of the text that keeps its promise, for who calls it -/
structure Callee (P : Program) (w : World) (K : PySem.W.Frag) (mg : Str → Option Value) (base : Heap) (k : Nat) (f : Addr) (fd : FuncData) (nm : Str) (ps : List Str) (sp : Sp) : Prop where
  ok : FnOk P w K mg base CX0 k f fd ps sp
  kp : PySem.W.keepIn K (.ref f) = true
  b : Binds K fd ps []
  g : mg nm = some (.ref f)
structure CalleeM (P : Program) (w : World) (K : PySem.W.Frag) (mg : Str → Option Value) (base : Heap) (k : Nat) (f : Addr) (fd : FuncData) (ps : List Str) (sp : Sp) : Prop where
  ok : FnOk P w K mg base CX0 k f fd ps sp
  b : Binds K fd ps []
structure CalleeX (P : Program) (w : World) (K : PySem.W.Frag) (mg : Str → Option Value) (base : Heap) (k : Nat) (f : Addr) (fd : FuncData) (nm : Str) (ps : List Str) (sp : Sp) : Prop where
  ok : FnOk P w K mg base (L2.CX P w) k f fd ps sp
  kp : PySem.W.keepIn K (.ref f) = true
  b : Binds K fd ps []
  g : mg nm = some (.ref f)
structure CalleeMX (P : Program) (w : World) (K : PySem.W.Frag) (mg : Str → Option Value) (base : Heap) (k : Nat) (f : Addr) (fd : FuncData) (ps : List Str) (sp : Sp) : Prop where
  ok : FnOk P w K mg base (L2.CX P w) k f fd ps sp
  b : Binds K fd ps []
theorem xm_nil {K : PySem.W.Frag} {ca : Str → Addr} {c : Value} : ∀ (n : Str) (b : Bool), List.lookup n ([] : List (Str × Bool)) = some b → PySem.W.exmOne K (.ref (ca n)) c = some b := fun _ _ h => by cases h
theorem xm_cons {K : PySem.W.Frag} {ca : Str → Addr} {c : Value} {n0 : Str} {b0 : Bool} {C : Addr} {r : List (Str × Bool)} (hc : ca n0 = C) (h0 : PySem.W.exmOne K (.ref C) c = some b0) (hr : ∀ (n : Str) (b : Bool), r.lookup n = some b → PySem.W.exmOne K (.ref (ca n)) c = some b) :
    ∀ (n : Str) (b : Bool), List.lookup n ((n0, b0) :: r) = some b → PySem.W.exmOne K (.ref (ca n)) c = some b := fun n b h => by
  rw [List.lookup_cons] at h
  split at h
  · rename_i e
    cases h
    rw [eq_of_beq e, hc]; exact h0
  · exact hr n b h
theorem passT {X : Cx} : Passes CX0 X (fun _ _ _ => True) := fun _ _ _ _ _ _ _ h => h.elim
section
variable {P : Program} {w : World} {K : PySem.W.Frag} {mg : Str → Option Value} {base : Heap} {ca : Str → Addr} {fa : Str → V}
theorem ok__law_pool {f : Addr} {fd : FuncData} (F : Fun K "_law_pool" "_law_pool" s__law_pool f fd) (b_list : mg "list" = none) : FnOk P w K mg base CX0 1 f fd ["script"] (spM (M.Env.mk K ca fa none) 1 m__law_pool) := by
  refine FnOk.imp (F.ok sc__law_pool (sp_len (G := (M.Env.mk K ca fa none)) (m := m__law_pool) rfl) (fun cdv A outer s H vs Q E hr h => ?_)) (fun _ _ _ _ h => h)
  have hu := hu_of hr
  exact ⟨_, (pss_one (ps_ret (pe_lst (pa_cons (pe_callTy (x_list (K := K) rfl) (by rfl) b_list (by decide +kernel) (pa_cons (pe_slice (x_slL (K := K) rfl) (pv 0) po_none (po_some pe_int)) pa_nil)) (pa_cons pe_int (pa_cons pe_int (pa_cons pe_int pa_nil))))))), def_run (N := N__law_pool) (b := b__law_pool)
    (sim_ret (sim_lstO (sim_cons (sim_CB sb_list (sim_cons (sim_sl so_slL sim_var sim_noPart (sim_part sim_int)) sim_nil)) (sim_cons sim_int (sim_cons sim_int (sim_cons sim_int sim_nil)))))) h⟩
theorem ok__law_table {f : Addr} {fd : FuncData} (F : Fun K "_law_table" "_law_table" s__law_table f fd) (b_range : mg "range" = none) : FnOk P w K mg base CX0 1 f fd [] (spM (M.Env.mk K ca fa none) 0 m__law_table) := by
  refine FnOk.imp (F.ok sc__law_table (sp_len (G := (M.Env.mk K ca fa none)) (m := m__law_table) rfl) (fun cdv A outer s H vs Q E hr h => ?_)) (fun _ _ _ _ h => h)
  have hu := hu_of hr
  exact ⟨_, (pss_cons (ps_set (i := 0) sc__law_table.nd rfl (.inl rfl) (pe_disp (pps_cons pe_str (pe_tup (pa_cons pe_str (pa_cons pe_int (pa_cons pe_int (pa_cons pe_int pa_nil))))) (pps_cons pe_str (pe_tup (pa_cons pe_str (pa_cons pe_int (pa_cons pe_int (pa_cons pe_int pa_nil))))) (pps_cons pe_str (pe_tup (pa_cons pe_str (pa_cons pe_int (pa_cons pe_int (pa_cons pe_int pa_nil))))) pps_nil))) (by rfl) (by rfl) (fun z => by cases z) (by decide)))
      (pss_cons (ps_dput hu (pv 0) pe_str (pe_tup (pa_cons pe_str (pa_cons pe_int (pa_cons pe_int (pa_cons pe_int pa_nil))))) rfl)
      (pss_cons (ps_dput hu (pv 0) pe_str (pe_tup (pa_cons pe_str (pa_cons pe_int (pa_cons pe_int (pa_cons pe_int pa_nil))))) rfl)
      (pss_cons (ps_dput hu (pv 0) pe_str (pe_tup (pa_cons pe_str (pa_cons pe_int (pa_cons pe_int (pa_cons pe_int pa_nil))))) rfl)
      (pss_cons (ps_set (i := 1) sc__law_table.nd rfl (.inl rfl) (pe_lst (pa_cons pe_str (pa_cons pe_str (pa_cons pe_str (pa_cons pe_str (pa_cons pe_str (pa_cons pe_str (pa_cons pe_str (pa_cons pe_str pa_nil))))))))))
      (pss_cons (ps_set (i := 2) sc__law_table.nd rfl (.inl rfl) (pe_lst (pa_cons pe_str (pa_cons pe_str (pa_cons pe_str (pa_cons pe_str (pa_cons pe_str (pa_cons pe_str (pa_cons pe_str (pa_cons pe_str pa_nil))))))))))
      (pss_cons (ps_for PassesOwn.never rfl (pi_range1 (by rfl) b_range (pa_cons pe_int pa_nil)) (pg_name (i := 3) sc__law_table.nd rfl (.inl rfl)) (pss_cons (ps_dput hu (pv 0) (pe_ix (x_ix (K := K) rfl) (pv 1) (pv 3) (fun _ _ => rfl)) (pe_tup (pa_cons pe_str (pa_cons pe_int (pa_cons (pv 3) (pa_cons pe_int pa_nil))))) rfl)
      (pss_one (ps_dput hu (pv 0) (pe_ix (x_ix (K := K) rfl) (pv 2) (pv 3) (fun _ _ => rfl)) (pe_tup (pa_cons pe_str (pa_cons pe_int (pa_cons (pv 3) (pa_cons pe_int pa_nil))))) rfl))))
      (pss_cons (ps_dput hu (pv 0) pe_str (pe_tup (pa_cons pe_str (pa_cons pe_int (pa_cons pe_int (pa_cons pe_int pa_nil))))) rfl)
      (pss_cons (ps_dput hu (pv 0) pe_str (pe_tup (pa_cons pe_str (pa_cons pe_int (pa_cons pe_int (pa_cons pe_int pa_nil))))) rfl)
      (pss_cons (ps_for PassesOwn.never rfl (x_pil (K := K) rfl (pe_lst (pa_cons (pe_tup (pa_cons pe_str (pa_cons pe_int pa_nil))) (pa_cons (pe_tup (pa_cons pe_str (pa_cons pe_int pa_nil))) (pa_cons (pe_tup (pa_cons pe_str (pa_cons pe_int pa_nil))) (pa_cons (pe_tup (pa_cons pe_str (pa_cons pe_int pa_nil))) (pa_cons (pe_tup (pa_cons pe_str (pa_cons pe_int pa_nil))) (pa_cons (pe_tup (pa_cons pe_str (pa_cons pe_int pa_nil))) pa_nil)))))))) (pg_name (i := 4) sc__law_table.nd rfl (.inl rfl)) (pss_one (ps_dput hu (pv 0) (pe_ix (x_ix (K := K) rfl) (pv 4) pe_int (fun _ _ => rfl)) (pe_tup (pa_cons pe_str (pa_cons pe_int (pa_cons (pe_ix (x_ix (K := K) rfl) (pv 4) pe_int (fun _ _ => rfl)) (pa_cons pe_int pa_nil))))) rfl)))
      (pss_cons (ps_dput hu (pv 0) pe_str (pe_tup (pa_cons pe_str (pa_cons pe_int (pa_cons pe_int (pa_cons pe_int pa_nil))))) rfl)
      (pss_cons (ps_dput hu (pv 0) pe_str (pe_tup (pa_cons pe_str (pa_cons pe_int (pa_cons pe_int (pa_cons pe_int pa_nil))))) rfl)
      (pss_cons (ps_dput hu (pv 0) pe_str (pe_tup (pa_cons pe_str (pa_cons pe_int (pa_cons pe_int (pa_cons pe_int pa_nil))))) rfl)
      (pss_cons (ps_for PassesOwn.never rfl (x_pil (K := K) rfl (pe_lst (pa_cons (pe_tup (pa_cons pe_str (pa_cons pe_int pa_nil))) (pa_cons (pe_tup (pa_cons pe_str (pa_cons pe_int pa_nil))) (pa_cons (pe_tup (pa_cons pe_str (pa_cons pe_int pa_nil))) (pa_cons (pe_tup (pa_cons pe_str (pa_cons pe_int pa_nil))) (pa_cons (pe_tup (pa_cons pe_str (pa_cons pe_int pa_nil))) (pa_cons (pe_tup (pa_cons pe_str (pa_cons pe_int pa_nil))) pa_nil)))))))) (pg_name (i := 4) sc__law_table.nd rfl (.inl rfl)) (pss_one (ps_dput hu (pv 0) (pe_ix (x_ix (K := K) rfl) (pv 4) pe_int (fun _ _ => rfl)) (pe_tup (pa_cons pe_str (pa_cons pe_int (pa_cons (pe_ix (x_ix (K := K) rfl) (pv 4) pe_int (fun _ _ => rfl)) (pa_cons pe_int pa_nil))))) rfl)))
      (pss_one (ps_ret (pv 0))))))))))))))))), def_run (N := N__law_table) (b := b__law_table)
    (sim_seq (by exact (sim_set (sim_dispO (.cons sim_str (sim_tup (sim_cons sim_str (sim_cons sim_int (sim_cons sim_int (sim_cons sim_int sim_nil))))) (.cons sim_str (sim_tup (sim_cons sim_str (sim_cons sim_int (sim_cons sim_int (sim_cons sim_int sim_nil))))) (.cons sim_str (sim_tup (sim_cons sim_str (sim_cons sim_int (sim_cons sim_int (sim_cons sim_int sim_nil))))) .nil))))))
      (sim_seq (by exact (sim_dput (sim_tup (sim_cons sim_str (sim_cons sim_int (sim_cons sim_int (sim_cons sim_int sim_nil))))) sim_var sim_str))
      (sim_seq (by exact (sim_dput (sim_tup (sim_cons sim_str (sim_cons sim_int (sim_cons sim_int (sim_cons sim_int sim_nil))))) sim_var sim_str))
      (sim_seq (by exact (sim_dput (sim_tup (sim_cons sim_str (sim_cons sim_int (sim_cons sim_int (sim_cons sim_int sim_nil))))) sim_var sim_str))
      (sim_seq (by exact (sim_set (sim_lst (sim_cons sim_str (sim_cons sim_str (sim_cons sim_str (sim_cons sim_str (sim_cons sim_str (sim_cons sim_str (sim_cons sim_str (sim_cons sim_str sim_nil)))))))))))
      (sim_seq (by exact (sim_set (sim_lst (sim_cons sim_str (sim_cons sim_str (sim_cons sim_str (sim_cons sim_str (sim_cons sim_str (sim_cons sim_str (sim_cons sim_str (sim_cons sim_str sim_nil)))))))))))
      (sim_seq (by exact (sim_for (by exact (sim_rng1 (sim_cons sim_int sim_nil))) sim_gName (by exact (sim_seq (by exact (sim_frz (sim_dput (sim_tup (sim_cons sim_str (sim_cons sim_int (sim_cons sim_var (sim_cons sim_int sim_nil))))) sim_var (sim_op so_ix sim_var sim_var))))
      (sim_frz (sim_dput (sim_tup (sim_cons sim_str (sim_cons sim_int (sim_cons sim_var (sim_cons sim_int sim_nil))))) sim_var (sim_op so_ix sim_var sim_var)))))))
      (sim_seq (by exact (sim_dput (sim_tup (sim_cons sim_str (sim_cons sim_int (sim_cons sim_int (sim_cons sim_int sim_nil))))) sim_var sim_str))
      (sim_seq (by exact (sim_dput (sim_tup (sim_cons sim_str (sim_cons sim_int (sim_cons sim_int (sim_cons sim_int sim_nil))))) sim_var sim_str))
      (sim_seq (by exact (sim_for (by exact (sim_iLst (sim_lst (sim_cons (sim_tup (sim_cons sim_str (sim_cons sim_int sim_nil))) (sim_cons (sim_tup (sim_cons sim_str (sim_cons sim_int sim_nil))) (sim_cons (sim_tup (sim_cons sim_str (sim_cons sim_int sim_nil))) (sim_cons (sim_tup (sim_cons sim_str (sim_cons sim_int sim_nil))) (sim_cons (sim_tup (sim_cons sim_str (sim_cons sim_int sim_nil))) (sim_cons (sim_tup (sim_cons sim_str (sim_cons sim_int sim_nil))) sim_nil))))))))) sim_gName (by exact (sim_dput (sim_tup (sim_cons sim_str (sim_cons sim_int (sim_cons (sim_op so_ix sim_var sim_int) (sim_cons sim_int sim_nil))))) sim_var (sim_op so_ix sim_var sim_int)))))
      (sim_seq (by exact (sim_dput (sim_tup (sim_cons sim_str (sim_cons sim_int (sim_cons sim_int (sim_cons sim_int sim_nil))))) sim_var sim_str))
      (sim_seq (by exact (sim_dput (sim_tup (sim_cons sim_str (sim_cons sim_int (sim_cons sim_int (sim_cons sim_int sim_nil))))) sim_var sim_str))
      (sim_seq (by exact (sim_dput (sim_tup (sim_cons sim_str (sim_cons sim_int (sim_cons sim_int (sim_cons sim_int sim_nil))))) sim_var sim_str))
      (sim_seq (by exact (sim_for (by exact (sim_iLst (sim_lst (sim_cons (sim_tup (sim_cons sim_str (sim_cons sim_int sim_nil))) (sim_cons (sim_tup (sim_cons sim_str (sim_cons sim_int sim_nil))) (sim_cons (sim_tup (sim_cons sim_str (sim_cons sim_int sim_nil))) (sim_cons (sim_tup (sim_cons sim_str (sim_cons sim_int sim_nil))) (sim_cons (sim_tup (sim_cons sim_str (sim_cons sim_int sim_nil))) (sim_cons (sim_tup (sim_cons sim_str (sim_cons sim_int sim_nil))) sim_nil))))))))) sim_gName (by exact (sim_dput (sim_tup (sim_cons sim_str (sim_cons sim_int (sim_cons (sim_op so_ix sim_var sim_int) (sim_cons sim_int sim_nil))))) sim_var (sim_op so_ix sim_var sim_int)))))
      (sim_frz (sim_ret sim_var)))))))))))))))) h⟩
theorem ok__law_draw {f : Addr} {fd : FuncData} (F : Fun K "_law_draw" "_law_draw" s__law_draw f fd) (b_len : mg "len" = none) (b_abs : mg "abs" = none) (b_int : mg "int" = none) : FnOk P w K mg base CX0 1 f fd ["pool", "many"] (spM (M.Env.mk K ca fa none) 2 m__law_draw) := by
  refine FnOk.imp (F.ok sc__law_draw (sp_len (G := (M.Env.mk K ca fa none)) (m := m__law_draw) rfl) (fun cdv A outer s H vs Q E hr h => ?_)) (fun _ _ _ _ h => h)
  have hu := hu_of hr
  exact ⟨_, (pss_cons (ps_while PassesOwn.never (PW.pt (pw_and (pt_cmpR (x_eq (K := K) rfl hr.units) (pe_ix (x_ix (K := K) rfl) (pv 0) pe_int (fun _ _ => rfl)) pe_int (nomark _)) (pw_and1 (pt_cmpR op_lt (pe_ix (x_ix (K := K) rfl) (pv 0) pe_int (fun _ _ => rfl)) (pe_callB (x_len (K := K) rfl) (by rfl) b_len (by decide +kernel) (pa_cons (pe_ix (x_ix (K := K) rfl) (pv 0) pe_int (fun _ _ => rfl)) pa_nil)) (nomark _))))) (pss_cons (ps_asg (pe_callB (call_abs) (by rfl) b_abs (by decide +kernel) (pa_cons (pe_ix (x_ix (K := K) rfl) (pe_ix (x_ix (K := K) rfl) (pv 0) pe_int (fun _ _ => rfl)) (pe_ix (x_ix (K := K) rfl) (pv 0) pe_int (fun _ _ => rfl)) (fun _ _ => rfl)) pa_nil)) (pg_sub (pv 0) pe_int set_list))
      (pss_one (ps_asg (pe_op op_add (pe_ix (x_ix (K := K) rfl) (pv 0) pe_int (fun _ _ => rfl)) pe_int) (pg_sub (pv 0) pe_int set_list)))))
      (pss_cons (ps_if (pt_cmpR (x_eq (K := K) rfl hr.units) (pe_ix (x_ix (K := K) rfl) (pv 0) pe_int (fun _ _ => rfl)) pe_int (nomark _)) (pss_cons (ps_asg (pe_op op_add (pe_ix (x_ix (K := K) rfl) (pv 0) pe_int (fun _ _ => rfl)) pe_int) (pg_sub (pv 0) pe_int set_list))
      (pss_one (ps_ret (pe_op op_mod (pe_callTy (call_int1) (by rfl) b_int (by decide +kernel) (pa_cons (pe_op op_fdivW (pe_ix (x_ix (K := K) rfl) (pv 0) pe_int (fun _ _ => rfl)) pe_int) pa_nil)) (pv 1))))) pss_nil)
      (pss_cons (ps_set (i := 2) sc__law_draw.nd rfl (.inl rfl) (pe_op op_mod (pe_callTy (call_int1) (by rfl) b_int (by decide +kernel) (pa_cons (pe_ix (x_ix (K := K) rfl) (pv 0) pe_int (fun _ _ => rfl)) pa_nil)) (pv 1)))
      (pss_cons (ps_asg (pe_op op_fdivW (pe_callTy (call_int1) (by rfl) b_int (by decide +kernel) (pa_cons (pe_ix (x_ix (K := K) rfl) (pv 0) pe_int (fun _ _ => rfl)) pa_nil)) (pv 1)) (pg_sub (pv 0) pe_int set_list))
      (pss_one (ps_ret (pv 2))))))), def_run (N := N__law_draw) (b := b__law_draw)
    (sim_seq (by exact (sim_while FUEL (by exact (sim_and (sim_test (sim_op so_eq (sim_op so_ix sim_var sim_int) sim_int)) (sim_test (sim_op so_lt (sim_op so_ix sim_var sim_int) (sim_CB sb_len (sim_cons (sim_op so_ix sim_var sim_int) sim_nil)))))) (by exact (sim_seq (by exact (sim_setIx (sim_CB sb_abs (sim_cons (sim_op so_ix (sim_op so_ix sim_var sim_int) (sim_op so_ix sim_var sim_int)) sim_nil)) sim_var sim_int))
      (sim_setIx (sim_op so_add (sim_op so_ix sim_var sim_int) sim_int) sim_var sim_int)))))
      (sim_seq (by exact (sim_if (by exact (sim_test (sim_op so_eq (sim_op so_ix sim_var sim_int) sim_int))) (by exact (sim_seq (by exact (sim_setIx (sim_op so_add (sim_op so_ix sim_var sim_int) sim_int) sim_var sim_int))
      (sim_ret (sim_op so_mod (sim_CB sb_int (sim_cons (sim_op so_div (sim_op so_ix sim_var sim_int) sim_int) sim_nil)) sim_var)))) (by exact sim_next)))
      (sim_seq (by exact (sim_set (sim_op so_mod (sim_CB sb_int (sim_cons (sim_op so_ix sim_var sim_int) sim_nil)) sim_var)))
      (sim_seq (by exact (sim_setIx (sim_op so_div (sim_CB sb_int (sim_cons (sim_op so_ix sim_var sim_int) sim_nil)) sim_var) sim_var sim_int))
      (sim_ret sim_var))))) h⟩
theorem ok__law_pick {f : Addr} {fd : FuncData} (F : Fun K "_law_pick" "_law_pick" s__law_pick f fd) {f__law_draw : Addr} {fd__law_draw : FuncData} (C__law_draw : Callee P w K mg base 1 f__law_draw fd__law_draw "_law_draw" ["pool", "many"] (spM (M.Env.mk K ca fa none) 2 m__law_draw)) (b_len : mg "len" = none) : FnOk P w K mg base CX0 2 f fd ["pool", "things"] (spM (M.Env.mk K ca fa none) 2 m__law_pick) := by
  refine FnOk.imp (F.ok sc__law_pick (sp_len (G := (M.Env.mk K ca fa none)) (m := m__law_pick) rfl) (fun cdv A outer s H vs Q E hr h => ?_)) (fun _ _ _ _ h => h)
  have hu := hu_of hr
  exact ⟨_, (pss_one (ps_ret (pe_ix (x_ix (K := K) rfl) (pv 1) (pe_call C__law_draw.ok (hr.mono (by (first | omega | (simp only [Nat.add_eq] at *; omega) | (simp only [Nat.add_eq]; omega)))) (by rfl) C__law_draw.g C__law_draw.kp C__law_draw.b .nil passT (pa_cons (pv 0) (pa_cons (pe_callB (x_len (K := K) rfl) (by rfl) b_len (by decide +kernel) (pa_cons (pv 1) pa_nil)) pa_nil))) (fun _ _ => rfl)))), def_run (N := N__law_pick) (b := b__law_pick)
    (sim_frz (sim_ret (sim_op so_ix sim_var (sim_call (sim_cons sim_var (sim_cons (sim_CB sb_len (sim_cons sim_var sim_nil)) sim_nil)))))) h⟩
theorem ok__law_many {f : Addr} {fd : FuncData} (F : Fun K "_law_many" "_law_many" s__law_many f fd) {f__law_pick : Addr} {fd__law_pick : FuncData} (C__law_pick : Callee P w K mg base 2 f__law_pick fd__law_pick "_law_pick" ["pool", "things"] (spM (M.Env.mk K ca fa none) 2 m__law_pick)) : FnOk P w K mg base CX0 3 f fd ["pool"] (spM (M.Env.mk K ca fa none) 1 m__law_many) := by
  refine FnOk.imp (F.ok sc__law_many (sp_len (G := (M.Env.mk K ca fa none)) (m := m__law_many) rfl) (fun cdv A outer s H vs Q E hr h => ?_)) (fun _ _ _ _ h => h)
  have hu := hu_of hr
  exact ⟨_, (pss_one (ps_ret (pe_call C__law_pick.ok (hr.mono (by (first | omega | (simp only [Nat.add_eq] at *; omega) | (simp only [Nat.add_eq]; omega)))) (by rfl) C__law_pick.g C__law_pick.kp C__law_pick.b .nil passT (pa_cons (pv 0) (pa_cons (pe_lst (pa_cons pe_int (pa_cons pe_int (pa_cons pe_int (pa_cons pe_int (pa_cons pe_int (pa_cons pe_int (pa_cons pe_int (pa_cons pe_int (pa_cons pe_int (pa_cons pe_int (pa_cons pe_int (pa_cons pe_int (pa_cons pe_int (pa_cons pe_int (pa_cons pe_int (pa_cons pe_int pa_nil))))))))))))))))) pa_nil))))), def_run (N := N__law_many) (b := b__law_many)
    (sim_ret (sim_call (sim_cons sim_var (sim_cons (sim_lst (sim_cons sim_int (sim_cons sim_int (sim_cons sim_int (sim_cons sim_int (sim_cons sim_int (sim_cons sim_int (sim_cons sim_int (sim_cons sim_int (sim_cons sim_int (sim_cons sim_int (sim_cons sim_int (sim_cons sim_int (sim_cons sim_int (sim_cons sim_int (sim_cons sim_int (sim_cons sim_int sim_nil))))))))))))))))) sim_nil)))) h⟩
theorem ok__law_title {f : Addr} {fd : FuncData} (F : Fun K "_law_title" "_law_title" s__law_title f fd) {f__law_draw : Addr} {fd__law_draw : FuncData} (C__law_draw : Callee P w K mg base 1 f__law_draw fd__law_draw "_law_draw" ["pool", "many"] (spM (M.Env.mk K ca fa none) 2 m__law_draw)) {f__law_pick : Addr} {fd__law_pick : FuncData} (C__law_pick : Callee P w K mg base 2 f__law_pick fd__law_pick "_law_pick" ["pool", "things"] (spM (M.Env.mk K ca fa none) 2 m__law_pick)) (b_range : mg "range" = none) : FnOk P w K mg base CX0 3 f fd ["pool"] (spM (M.Env.mk K ca fa none) 1 m__law_title) := by
  refine FnOk.imp (F.ok sc__law_title (sp_len (G := (M.Env.mk K ca fa none)) (m := m__law_title) rfl) (fun cdv A outer s H vs Q E hr h => ?_)) (fun _ _ _ _ h => h)
  have hu := hu_of hr
  exact ⟨_, (pss_cons (ps_if (pt_cmpR op_gt (pe_call C__law_draw.ok (hr.mono (by (first | omega | (simp only [Nat.add_eq] at *; omega) | (simp only [Nat.add_eq]; omega)))) (by rfl) C__law_draw.g C__law_draw.kp C__law_draw.b .nil passT (pa_cons (pv 0) (pa_cons pe_int pa_nil))) pe_int (nomark _)) (pss_cons (ps_set (i := 1) sc__law_title.nd rfl (.inl rfl) (pe_lst (pa_cons pe_str (pa_cons pe_str (pa_cons pe_str (pa_cons pe_str (pa_cons pe_str (pa_cons pe_str (pa_cons pe_str (pa_cons pe_str (pa_cons pe_str (pa_cons pe_str pa_nil))))))))))))
      (pss_one (ps_ret (pe_call C__law_pick.ok (hr.mono (by (first | omega | (simp only [Nat.add_eq] at *; omega) | (simp only [Nat.add_eq]; omega)))) (by rfl) C__law_pick.g C__law_pick.kp C__law_pick.b .nil passT (pa_cons (pv 0) (pa_cons (pe_op op_cat (pv 1) (pe_lst (pa_cons pe_str (pa_cons pe_str (pa_cons pe_str (pa_cons pe_str (pa_cons pe_str (pa_cons pe_str pa_nil)))))))) pa_nil)))))) pss_nil)
      (pss_cons (ps_set (i := 2) sc__law_title.nd rfl (.inl rfl) pe_str)
      (pss_cons (ps_set (i := 3) sc__law_title.nd rfl (.inl rfl) (pe_ix ix_str (pv 2) (pe_call C__law_draw.ok (hr.mono (by (first | omega | (simp only [Nat.add_eq] at *; omega) | (simp only [Nat.add_eq]; omega)))) (by rfl) C__law_draw.g C__law_draw.kp C__law_draw.b .nil passT (pa_cons (pv 0) (pa_cons pe_int pa_nil))) (fun _ _ => rfl)))
      (pss_cons (ps_for PassesOwn.never rfl (pi_range1 (by rfl) b_range (pa_cons (pe_call C__law_draw.ok (hr.mono (by (first | omega | (simp only [Nat.add_eq] at *; omega) | (simp only [Nat.add_eq]; omega)))) (by rfl) C__law_draw.g C__law_draw.kp C__law_draw.b .nil passT (pa_cons (pv 0) (pa_cons pe_int pa_nil))) pa_nil)) (pg_name (i := 4) sc__law_title.nd rfl (.inl rfl)) (pss_one (ps_set (i := 3) sc__law_title.nd rfl (.inl rfl) (pe_op op_add_str (pv 3) (pe_ix ix_str (pv 2) (pe_call C__law_draw.ok (hr.mono (by (first | omega | (simp only [Nat.add_eq] at *; omega) | (simp only [Nat.add_eq]; omega)))) (by rfl) C__law_draw.g C__law_draw.kp C__law_draw.b .nil passT (pa_cons (pv 0) (pa_cons pe_int pa_nil))) (fun _ _ => rfl))))))
      (pss_cons (ps_if (pt_cmpR (x_in (K := K) rfl) (pv 3) (pe_tup (pa_cons pe_str (pa_cons pe_str (pa_cons pe_str (pa_cons pe_str (pa_cons pe_str (pa_cons pe_str (pa_cons pe_str (pa_cons pe_str (pa_cons pe_str (pa_cons pe_str pa_nil))))))))))) rfl) (pss_one (ps_ret pe_str)) pss_nil)
      (pss_one (ps_ret (pv 3)))))))), def_run (N := N__law_title) (b := b__law_title)
    (sim_seq (by exact (sim_if (by exact (sim_test (sim_op so_gt (sim_call (sim_cons sim_var (sim_cons sim_int sim_nil))) sim_int))) (by exact (sim_seq (by exact (sim_set (sim_lst (sim_cons sim_str (sim_cons sim_str (sim_cons sim_str (sim_cons sim_str (sim_cons sim_str (sim_cons sim_str (sim_cons sim_str (sim_cons sim_str (sim_cons sim_str (sim_cons sim_str sim_nil)))))))))))))
      (sim_frz (sim_ret (sim_call (sim_cons sim_var (sim_cons (sim_op so_cat sim_var (sim_lst (sim_cons sim_str (sim_cons sim_str (sim_cons sim_str (sim_cons sim_str (sim_cons sim_str (sim_cons sim_str sim_nil)))))))) sim_nil))))))) (by exact sim_next)))
      (sim_seq (by exact (sim_set sim_str))
      (sim_seq (by exact (sim_set (sim_op so_ixS sim_var (sim_call (sim_cons sim_var (sim_cons sim_int sim_nil))))))
      (sim_seq (by exact (sim_for (by exact (sim_rng1 (sim_cons (sim_call (sim_cons sim_var (sim_cons sim_int sim_nil))) sim_nil))) sim_gName (by exact (sim_set (sim_op so_addS sim_var (sim_op so_ixS sim_var (sim_call (sim_cons sim_var (sim_cons sim_int sim_nil)))))))))
      (sim_seq (by exact (sim_if (by exact (sim_test (sim_op so_in sim_var (sim_tup (sim_cons sim_str (sim_cons sim_str (sim_cons sim_str (sim_cons sim_str (sim_cons sim_str (sim_cons sim_str (sim_cons sim_str (sim_cons sim_str (sim_cons sim_str (sim_cons sim_str sim_nil)))))))))))))) (by exact (sim_ret sim_str)) (by exact sim_next)))
      (sim_ret sim_var)))))) h⟩
theorem ok__law_long {f : Addr} {fd : FuncData} (F : Fun K "_law_long" "_law_long" s__law_long f fd) {f__law_pick : Addr} {fd__law_pick : FuncData} (C__law_pick : Callee P w K mg base 2 f__law_pick fd__law_pick "_law_pick" ["pool", "things"] (spM (M.Env.mk K ca fa none) 2 m__law_pick)) {f__law_draw : Addr} {fd__law_draw : FuncData} (C__law_draw : Callee P w K mg base 1 f__law_draw fd__law_draw "_law_draw" ["pool", "many"] (spM (M.Env.mk K ca fa none) 2 m__law_draw)) : FnOk P w K mg base CX0 3 f fd ["pool"] (spM (M.Env.mk K ca fa none) 1 m__law_long) := by
  refine FnOk.imp (F.ok sc__law_long (sp_len (G := (M.Env.mk K ca fa none)) (m := m__law_long) rfl) (fun cdv A outer s H vs Q E hr h => ?_)) (fun _ _ _ _ h => h)
  have hu := hu_of hr
  exact ⟨_, (pss_one (ps_ret (pe_call C__law_pick.ok (hr.mono (by (first | omega | (simp only [Nat.add_eq] at *; omega) | (simp only [Nat.add_eq]; omega)))) (by rfl) C__law_pick.g C__law_pick.kp C__law_pick.b .nil passT (pa_cons (pv 0) (pa_cons (pe_lst (pa_cons pe_int (pa_cons pe_int (pa_cons pe_int (pa_cons pe_int (pa_cons pe_int (pa_cons pe_int (pa_cons (pe_op op_add pe_int (pe_call C__law_draw.ok (hr.mono (by (first | omega | (simp only [Nat.add_eq] at *; omega) | (simp only [Nat.add_eq]; omega)))) (by rfl) C__law_draw.g C__law_draw.kp C__law_draw.b .nil passT (pa_cons (pv 0) (pa_cons pe_int pa_nil)))) pa_nil)))))))) pa_nil))))), def_run (N := N__law_long) (b := b__law_long)
    (sim_ret (sim_call (sim_cons sim_var (sim_cons (sim_lst (sim_cons sim_int (sim_cons sim_int (sim_cons sim_int (sim_cons sim_int (sim_cons sim_int (sim_cons sim_int (sim_cons (sim_op so_add sim_int (sim_call (sim_cons sim_var (sim_cons sim_int sim_nil)))) sim_nil)))))))) sim_nil)))) h⟩
theorem ok__law_want {f : Addr} {fd : FuncData} (F : Fun K "_law_want" "_law_want" s__law_want f fd) {f__law_title : Addr} {fd__law_title : FuncData} (C__law_title : Callee P w K mg base 3 f__law_title fd__law_title "_law_title" ["pool"] (spM (M.Env.mk K ca fa none) 1 m__law_title)) {f__law_draw : Addr} {fd__law_draw : FuncData} (C__law_draw : Callee P w K mg base 1 f__law_draw fd__law_draw "_law_draw" ["pool", "many"] (spM (M.Env.mk K ca fa none) 2 m__law_draw)) {f__law_long : Addr} {fd__law_long : FuncData} (C__law_long : Callee P w K mg base 3 f__law_long fd__law_long "_law_long" ["pool"] (spM (M.Env.mk K ca fa none) 1 m__law_long)) : FnOk P w K mg base CX0 4 f fd ["pool"] (spM (M.Env.mk K ca fa none) 1 m__law_want) := by
  refine FnOk.imp (F.ok sc__law_want (sp_len (G := (M.Env.mk K ca fa none)) (m := m__law_want) rfl) (fun cdv A outer s H vs Q E hr h => ?_)) (fun _ _ _ _ h => h)
  have hu := hu_of hr
  exact ⟨_, (pss_cons (ps_set (i := 1) sc__law_want.nd rfl (.inl rfl) (pe_call C__law_title.ok (hr.mono (by (first | omega | (simp only [Nat.add_eq] at *; omega) | (simp only [Nat.add_eq]; omega)))) (by rfl) C__law_title.g C__law_title.kp C__law_title.b .nil passT (pa_cons (pv 0) pa_nil)))
      (pss_cons (ps_set (i := 2) sc__law_want.nd rfl (.inl rfl) (pe_call C__law_draw.ok (hr.mono (by (first | omega | (simp only [Nat.add_eq] at *; omega) | (simp only [Nat.add_eq]; omega)))) (by rfl) C__law_draw.g C__law_draw.kp C__law_draw.b .nil passT (pa_cons (pv 0) (pa_cons pe_int pa_nil))))
      (pss_cons (ps_if (pt_cmpR (x_eq (K := K) rfl hr.units) (pv 2) pe_int (nomark _)) (pss_one (ps_ret (pe_tup (pa_cons (pv 1) (pa_cons pe_str (pa_cons pe_int pa_nil)))))) pss_nil)
      (pss_cons (ps_if (pt_cmpR (x_eq (K := K) rfl hr.units) (pv 2) pe_int (nomark _)) (pss_one (ps_ret (pe_tup (pa_cons (pv 1) (pa_cons pe_str (pa_cons (pe_call C__law_long.ok (hr.mono (by (first | omega | (simp only [Nat.add_eq] at *; omega) | (simp only [Nat.add_eq]; omega)))) (by rfl) C__law_long.g C__law_long.kp C__law_long.b .nil passT (pa_cons (pv 0) pa_nil)) pa_nil)))))) pss_nil)
      (pss_one (ps_ret (pe_tup (pa_cons (pv 1) (pa_cons pe_str (pa_cons (pe_call C__law_draw.ok (hr.mono (by (first | omega | (simp only [Nat.add_eq] at *; omega) | (simp only [Nat.add_eq]; omega)))) (by rfl) C__law_draw.g C__law_draw.kp C__law_draw.b .nil passT (pa_cons (pv 0) (pa_cons pe_int pa_nil))) pa_nil)))))))))), def_run (N := N__law_want) (b := b__law_want)
    (sim_seq (by exact (sim_set (sim_call (sim_cons sim_var sim_nil))))
      (sim_seq (by exact (sim_set (sim_call (sim_cons sim_var (sim_cons sim_int sim_nil)))))
      (sim_seq (by exact (sim_if (by exact (sim_test (sim_op so_eq sim_var sim_int))) (by exact (sim_ret (sim_tup (sim_cons sim_var (sim_cons sim_str (sim_cons sim_int sim_nil)))))) (by exact sim_next)))
      (sim_seq (by exact (sim_if (by exact (sim_test (sim_op so_eq sim_var sim_int))) (by exact (sim_ret (sim_tup (sim_cons sim_var (sim_cons sim_str (sim_cons (sim_call (sim_cons sim_var sim_nil)) sim_nil)))))) (by exact sim_next)))
      (sim_ret (sim_tup (sim_cons sim_var (sim_cons sim_str (sim_cons (sim_call (sim_cons sim_var (sim_cons sim_int sim_nil))) sim_nil))))))))) h⟩
theorem ok__law_word {f : Addr} {fd : FuncData} (F : Fun K "_law_word" "_law_word" s__law_word f fd) {f__law_draw : Addr} {fd__law_draw : FuncData} (C__law_draw : Callee P w K mg base 1 f__law_draw fd__law_draw "_law_draw" ["pool", "many"] (spM (M.Env.mk K ca fa none) 2 m__law_draw)) : FnOk P w K mg base CX0 2 f fd ["pool"] (spM (M.Env.mk K ca fa none) 1 m__law_word) := by
  refine FnOk.imp (F.ok sc__law_word (sp_len (G := (M.Env.mk K ca fa none)) (m := m__law_word) rfl) (fun cdv A outer s H vs Q E hr h => ?_)) (fun _ _ _ _ h => h)
  have hu := hu_of hr
  exact ⟨_, (pss_cons (ps_set (i := 1) sc__law_word.nd rfl (.inl rfl) (pe_call C__law_draw.ok (hr.mono (by (first | omega | (simp only [Nat.add_eq] at *; omega) | (simp only [Nat.add_eq]; omega)))) (by rfl) C__law_draw.g C__law_draw.kp C__law_draw.b .nil passT (pa_cons (pv 0) (pa_cons pe_int pa_nil))))
      (pss_cons (ps_if (pt_cmpR op_lt (pv 1) pe_int (nomark _)) (pss_one (ps_ret (pe_op op_sub (pe_call C__law_draw.ok (hr.mono (by (first | omega | (simp only [Nat.add_eq] at *; omega) | (simp only [Nat.add_eq]; omega)))) (by rfl) C__law_draw.g C__law_draw.kp C__law_draw.b .nil passT (pa_cons (pv 0) (pa_cons pe_int pa_nil))) pe_int))) pss_nil)
      (pss_cons (ps_set (i := 2) sc__law_word.nd rfl (.inl rfl) (pe_lst (pa_cons (pe_un un_neg pe_int) (pa_cons (pe_un un_neg pe_int) (pa_cons (pe_un un_neg pe_int) (pa_cons (pe_un un_neg pe_int) (pa_cons (pe_un un_neg pe_int) (pa_cons pe_int (pa_cons pe_int (pa_cons pe_int (pa_cons pe_int (pa_cons pe_int (pa_cons pe_int (pa_cons pe_int (pa_cons pe_int (pa_cons pe_int pa_nil))))))))))))))))
      (pss_cons (ps_if (pt_cmpR (x_eq (K := K) rfl hr.units) (pv 1) pe_int (nomark _)) (pss_one (ps_ret (pe_ix (x_ix (K := K) rfl) (pv 2) (pe_call C__law_draw.ok (hr.mono (by (first | omega | (simp only [Nat.add_eq] at *; omega) | (simp only [Nat.add_eq]; omega)))) (by rfl) C__law_draw.g C__law_draw.kp C__law_draw.b .nil passT (pa_cons (pv 0) (pa_cons pe_int pa_nil))) (fun _ _ => rfl)))) pss_nil)
      (pss_one (ps_ret (pe_op op_sub (pe_call C__law_draw.ok (hr.mono (by (first | omega | (simp only [Nat.add_eq] at *; omega) | (simp only [Nat.add_eq]; omega)))) (by rfl) C__law_draw.g C__law_draw.kp C__law_draw.b .nil passT (pa_cons (pv 0) (pa_cons pe_int pa_nil))) pe_int))))))), def_run (N := N__law_word) (b := b__law_word)
    (sim_seq (by exact (sim_set (sim_call (sim_cons sim_var (sim_cons sim_int sim_nil)))))
      (sim_seq (by exact (sim_if (by exact (sim_test (sim_op so_lt sim_var sim_int))) (by exact (sim_ret (sim_op so_sub (sim_call (sim_cons sim_var (sim_cons sim_int sim_nil))) sim_int))) (by exact sim_next)))
      (sim_seq (by exact (sim_set (sim_lst (sim_cons (sim_un so_neg sim_int) (sim_cons (sim_un so_neg sim_int) (sim_cons (sim_un so_neg sim_int) (sim_cons (sim_un so_neg sim_int) (sim_cons (sim_un so_neg sim_int) (sim_cons sim_int (sim_cons sim_int (sim_cons sim_int (sim_cons sim_int (sim_cons sim_int (sim_cons sim_int (sim_cons sim_int (sim_cons sim_int (sim_cons sim_int sim_nil)))))))))))))))))
      (sim_seq (by exact (sim_if (by exact (sim_test (sim_op so_eq sim_var sim_int))) (by exact (sim_frz (sim_ret (sim_op so_ix sim_var (sim_call (sim_cons sim_var (sim_cons sim_int sim_nil))))))) (by exact sim_next)))
      (sim_ret (sim_op so_sub (sim_call (sim_cons sim_var (sim_cons sim_int sim_nil))) sim_int)))))) h⟩
theorem ok__law_datum {f : Addr} {fd : FuncData} (F : Fun K "_law_datum" "_law_datum" s__law_datum f fd) {f__law_title : Addr} {fd__law_title : FuncData} (C__law_title : Callee P w K mg base 3 f__law_title fd__law_title "_law_title" ["pool"] (spM (M.Env.mk K ca fa none) 1 m__law_title)) {f__law_draw : Addr} {fd__law_draw : FuncData} (C__law_draw : Callee P w K mg base 1 f__law_draw fd__law_draw "_law_draw" ["pool", "many"] (spM (M.Env.mk K ca fa none) 2 m__law_draw)) {f__law_word : Addr} {fd__law_word : FuncData} (C__law_word : Callee P w K mg base 2 f__law_word fd__law_word "_law_word" ["pool"] (spM (M.Env.mk K ca fa none) 1 m__law_word)) {f__law_long : Addr} {fd__law_long : FuncData} (C__law_long : Callee P w K mg base 3 f__law_long fd__law_long "_law_long" ["pool"] (spM (M.Env.mk K ca fa none) 1 m__law_long)) : FnOk P w K mg base CX0 4 f fd ["pool"] (spM (M.Env.mk K ca fa none) 1 m__law_datum) := by
  refine FnOk.imp (F.ok sc__law_datum (sp_len (G := (M.Env.mk K ca fa none)) (m := m__law_datum) rfl) (fun cdv A outer s H vs Q E hr h => ?_)) (fun _ _ _ _ h => h)
  have hu := hu_of hr
  exact ⟨_, (pss_cons (ps_set (i := 1) sc__law_datum.nd rfl (.inl rfl) (pe_call C__law_title.ok (hr.mono (by (first | omega | (simp only [Nat.add_eq] at *; omega) | (simp only [Nat.add_eq]; omega)))) (by rfl) C__law_title.g C__law_title.kp C__law_title.b .nil passT (pa_cons (pv 0) pa_nil)))
      (pss_cons (ps_if (pt_cmpR (x_eq (K := K) rfl hr.units) (pe_call C__law_draw.ok (hr.mono (by (first | omega | (simp only [Nat.add_eq] at *; omega) | (simp only [Nat.add_eq]; omega)))) (by rfl) C__law_draw.g C__law_draw.kp C__law_draw.b .nil passT (pa_cons (pv 0) (pa_cons pe_int pa_nil))) pe_int (nomark _)) (pss_one (ps_ret (pe_tup (pa_cons (pv 1) (pa_cons pe_int (pa_cons (pe_call C__law_word.ok (hr.mono (by (first | omega | (simp only [Nat.add_eq] at *; omega) | (simp only [Nat.add_eq]; omega)))) (by rfl) C__law_word.g C__law_word.kp C__law_word.b .nil passT (pa_cons (pv 0) pa_nil)) pa_nil)))))) pss_nil)
      (pss_one (ps_ret (pe_tup (pa_cons (pv 1) (pa_cons (pe_call C__law_long.ok (hr.mono (by (first | omega | (simp only [Nat.add_eq] at *; omega) | (simp only [Nat.add_eq]; omega)))) (by rfl) C__law_long.g C__law_long.kp C__law_long.b .nil passT (pa_cons (pv 0) pa_nil)) (pa_cons pe_int pa_nil)))))))), def_run (N := N__law_datum) (b := b__law_datum)
    (sim_seq (by exact (sim_set (sim_call (sim_cons sim_var sim_nil))))
      (sim_seq (by exact (sim_if (by exact (sim_test (sim_op so_eq (sim_call (sim_cons sim_var (sim_cons sim_int sim_nil))) sim_int))) (by exact (sim_ret (sim_tup (sim_cons sim_var (sim_cons sim_int (sim_cons (sim_call (sim_cons sim_var sim_nil)) sim_nil)))))) (by exact sim_next)))
      (sim_ret (sim_tup (sim_cons sim_var (sim_cons (sim_call (sim_cons sim_var sim_nil)) (sim_cons sim_int sim_nil))))))) h⟩
theorem ok__law_open_row {f : Addr} {fd : FuncData} (F : Fun K "_law_open_row" "_law_open_row" s__law_open_row f fd) {f__law_draw : Addr} {fd__law_draw : FuncData} (C__law_draw : Callee P w K mg base 1 f__law_draw fd__law_draw "_law_draw" ["pool", "many"] (spM (M.Env.mk K ca fa none) 2 m__law_draw)) {f__law_pick : Addr} {fd__law_pick : FuncData} (C__law_pick : Callee P w K mg base 2 f__law_pick fd__law_pick "_law_pick" ["pool", "things"] (spM (M.Env.mk K ca fa none) 2 m__law_pick)) : FnOk P w K mg base CX0 3 f fd ["pool", "calls", "outers"] (spM (M.Env.mk K ca fa none) 3 m__law_open_row) := by
  refine FnOk.imp (F.ok sc__law_open_row (sp_len (G := (M.Env.mk K ca fa none)) (m := m__law_open_row) rfl) (fun cdv A outer s H vs Q E hr h => ?_)) (fun _ _ _ _ h => h)
  have hu := hu_of hr
  exact ⟨_, (pss_cons (ps_set (i := 3) sc__law_open_row.nd rfl (.inl rfl) (pe_call C__law_draw.ok (hr.mono (by (first | omega | (simp only [Nat.add_eq] at *; omega) | (simp only [Nat.add_eq]; omega)))) (by rfl) C__law_draw.g C__law_draw.kp C__law_draw.b .nil passT (pa_cons (pv 0) (pa_cons pe_int pa_nil))))
      (pss_cons (ps_set (i := 4) sc__law_open_row.nd rfl (.inl rfl) (pe_call C__law_draw.ok (hr.mono (by (first | omega | (simp only [Nat.add_eq] at *; omega) | (simp only [Nat.add_eq]; omega)))) (by rfl) C__law_draw.g C__law_draw.kp C__law_draw.b .nil passT (pa_cons (pv 0) (pa_cons pe_int pa_nil))))
      (pss_cons (ps_set (i := 5) sc__law_open_row.nd rfl (.inl rfl) (pe_call C__law_draw.ok (hr.mono (by (first | omega | (simp only [Nat.add_eq] at *; omega) | (simp only [Nat.add_eq]; omega)))) (by rfl) C__law_draw.g C__law_draw.kp C__law_draw.b .nil passT (pa_cons (pv 0) (pa_cons pe_int pa_nil))))
      (pss_cons (ps_if (PW.pt (pw_and (pt_cmpR (x_eq (K := K) rfl hr.units) (pv 3) pe_int (nomark _)) (pw_and1 (pt_cmpR (x_ne (K := K) rfl hr.units) (pv 1) (pe_lst pa_nil) (nomark _))))) (pss_one (ps_ret (pe_tup (pa_cons (pe_tup (pa_cons pe_str (pa_cons (pv 4) (pa_cons pe_int pa_nil)))) (pa_cons pe_str (pa_cons (pe_call C__law_pick.ok (hr.mono (by (first | omega | (simp only [Nat.add_eq] at *; omega) | (simp only [Nat.add_eq]; omega)))) (by rfl) C__law_pick.g C__law_pick.kp C__law_pick.b .nil passT (pa_cons (pv 0) (pa_cons (pv 1) pa_nil))) pa_nil)))))) pss_nil)
      (pss_cons (ps_if (PW.pt (pw_and (pt_cmpR (x_eq (K := K) rfl hr.units) (pv 3) pe_int (nomark _)) (pw_and1 (pt_cmpR (x_ne (K := K) rfl hr.units) (pv 2) (pe_lst pa_nil) (nomark _))))) (pss_one (ps_ret (pe_tup (pa_cons (pe_tup (pa_cons pe_str (pa_cons (pv 4) (pa_cons pe_int pa_nil)))) (pa_cons pe_str (pa_cons (pe_call C__law_pick.ok (hr.mono (by (first | omega | (simp only [Nat.add_eq] at *; omega) | (simp only [Nat.add_eq]; omega)))) (by rfl) C__law_pick.g C__law_pick.kp C__law_pick.b .nil passT (pa_cons (pv 0) (pa_cons (pv 2) pa_nil))) pa_nil)))))) pss_nil)
      (pss_cons (ps_if (PW.pt (pw_and (pt_cmpR op_gt (pv 3) pe_int (nomark _)) (pw_and1 (pt_cmpR (x_ne (K := K) rfl hr.units) (pv 2) (pe_lst pa_nil) (nomark _))))) (pss_cons (ps_set (i := 6) sc__law_open_row.nd rfl (.inl rfl) (pe_ix (x_ix (K := K) rfl) (pe_lst (pa_cons pe_str (pa_cons pe_str (pa_cons pe_str pa_nil)))) (pe_op op_sub (pv 3) pe_int) (fun _ _ => rfl)))
      (pss_one (ps_ret (pe_tup (pa_cons (pe_tup (pa_cons (pv 6) (pa_cons (pv 4) (pa_cons (pv 5) (pa_cons pe_int pa_nil))))) (pa_cons pe_str (pa_cons (pe_call C__law_pick.ok (hr.mono (by (first | omega | (simp only [Nat.add_eq] at *; omega) | (simp only [Nat.add_eq]; omega)))) (by rfl) C__law_pick.g C__law_pick.kp C__law_pick.b .nil passT (pa_cons (pv 0) (pa_cons (pv 2) pa_nil))) pa_nil))))))) pss_nil)
      (pss_one (ps_ret (pe_tup (pa_cons (pe_tup (pa_cons pe_str (pa_cons (pv 4) (pa_cons (pv 5) (pa_cons pe_int pa_nil))))) (pa_cons pe_str (pa_cons pe_str pa_nil)))))))))))), def_run (N := N__law_open_row) (b := b__law_open_row)
    (sim_seq (by exact (sim_set (sim_call (sim_cons sim_var (sim_cons sim_int sim_nil)))))
      (sim_seq (by exact (sim_set (sim_call (sim_cons sim_var (sim_cons sim_int sim_nil)))))
      (sim_seq (by exact (sim_set (sim_call (sim_cons sim_var (sim_cons sim_int sim_nil)))))
      (sim_seq (by exact (sim_frz (sim_if (by exact (sim_and (sim_test (sim_op so_eq sim_var sim_int)) (sim_test (sim_op so_ne sim_var (sim_lst sim_nil))))) (by exact (sim_ret (sim_tup (sim_cons (sim_tup (sim_cons sim_str (sim_cons sim_var (sim_cons sim_int sim_nil)))) (sim_cons sim_str (sim_cons (sim_call (sim_cons sim_var (sim_cons sim_var sim_nil))) sim_nil)))))) (by exact sim_next))))
      (sim_seq (by exact (sim_frz (sim_if (by exact (sim_and (sim_test (sim_op so_eq sim_var sim_int)) (sim_test (sim_op so_ne sim_var (sim_lst sim_nil))))) (by exact (sim_ret (sim_tup (sim_cons (sim_tup (sim_cons sim_str (sim_cons sim_var (sim_cons sim_int sim_nil)))) (sim_cons sim_str (sim_cons (sim_call (sim_cons sim_var (sim_cons sim_var sim_nil))) sim_nil)))))) (by exact sim_next))))
      (sim_seq (by exact (sim_if (by exact (sim_and (sim_test (sim_op so_gt sim_var sim_int)) (sim_test (sim_op so_ne sim_var (sim_lst sim_nil))))) (by exact (sim_seq (by exact (sim_set (sim_op so_ix (sim_lst (sim_cons sim_str (sim_cons sim_str (sim_cons sim_str sim_nil)))) (sim_op so_sub sim_var sim_int))))
      (sim_ret (sim_tup (sim_cons (sim_tup (sim_cons sim_var (sim_cons sim_var (sim_cons sim_var (sim_cons sim_int sim_nil))))) (sim_cons sim_str (sim_cons (sim_call (sim_cons sim_var (sim_cons sim_var sim_nil))) sim_nil))))))) (by exact sim_next)))
      (sim_ret (sim_tup (sim_cons (sim_tup (sim_cons sim_str (sim_cons sim_var (sim_cons sim_var (sim_cons sim_int sim_nil))))) (sim_cons sim_str (sim_cons sim_str sim_nil))))))))))) h⟩
theorem ok__law_edge {f : Addr} {fd : FuncData} (F : Fun K "_law_edge" "_law_edge" s__law_edge f fd) {f__law_draw : Addr} {fd__law_draw : FuncData} (C__law_draw : Callee P w K mg base 1 f__law_draw fd__law_draw "_law_draw" ["pool", "many"] (spM (M.Env.mk K ca fa none) 2 m__law_draw)) : FnOk P w K mg base CX0 2 f fd ["pool", "least", "greatest"] (spM (M.Env.mk K ca fa none) 3 m__law_edge) := by
  refine FnOk.imp (F.ok sc__law_edge (sp_len (G := (M.Env.mk K ca fa none)) (m := m__law_edge) rfl) (fun cdv A outer s H vs Q E hr h => ?_)) (fun _ _ _ _ h => h)
  have hu := hu_of hr
  exact ⟨_, (pss_cons (ps_set (i := 3) sc__law_edge.nd rfl (.inl rfl) (pe_call C__law_draw.ok (hr.mono (by (first | omega | (simp only [Nat.add_eq] at *; omega) | (simp only [Nat.add_eq]; omega)))) (by rfl) C__law_draw.g C__law_draw.kp C__law_draw.b .nil passT (pa_cons (pv 0) (pa_cons pe_int pa_nil))))
      (pss_cons (ps_if (pt_cmpR (x_eq (K := K) rfl hr.units) (pv 3) pe_int (nomark _)) (pss_one (ps_ret (pv 1))) pss_nil)
      (pss_cons (ps_if (pt_cmpR (x_eq (K := K) rfl hr.units) (pv 3) pe_int (nomark _)) (pss_one (ps_ret (pv 2))) pss_nil)
      (pss_cons (ps_if (pt_cmpR (x_eq (K := K) rfl hr.units) (pv 3) pe_int (nomark _)) (pss_one (ps_ret pe_int)) pss_nil)
      (pss_one (ps_ret (pe_op op_add (pv 1) (pe_call C__law_draw.ok (hr.mono (by (first | omega | (simp only [Nat.add_eq] at *; omega) | (simp only [Nat.add_eq]; omega)))) (by rfl) C__law_draw.g C__law_draw.kp C__law_draw.b .nil passT (pa_cons (pv 0) (pa_cons (pe_op op_add (pe_op op_sub (pv 2) (pv 1)) pe_int) pa_nil)))))))))), def_run (N := N__law_edge) (b := b__law_edge)
    (sim_seq (by exact (sim_set (sim_call (sim_cons sim_var (sim_cons sim_int sim_nil)))))
      (sim_seq (by exact (sim_if (by exact (sim_test (sim_op so_eq sim_var sim_int))) (by exact (sim_ret sim_var)) (by exact sim_next)))
      (sim_seq (by exact (sim_if (by exact (sim_test (sim_op so_eq sim_var sim_int))) (by exact (sim_ret sim_var)) (by exact sim_next)))
      (sim_seq (by exact (sim_if (by exact (sim_test (sim_op so_eq sim_var sim_int))) (by exact (sim_ret sim_int)) (by exact sim_next)))
      (sim_ret (sim_op so_add sim_var (sim_call (sim_cons sim_var (sim_cons (sim_op so_add (sim_op so_sub sim_var sim_var) sim_int) sim_nil))))))))) h⟩
theorem ok__law_drawn_row {f : Addr} {fd : FuncData} (F : Fun K "_law_drawn_row" "_law_drawn_row" s__law_drawn_row f fd) {f__law_pick : Addr} {fd__law_pick : FuncData} (C__law_pick : Callee P w K mg base 2 f__law_pick fd__law_pick "_law_pick" ["pool", "things"] (spM (M.Env.mk K ca fa none) 2 m__law_pick)) {f__law_draw : Addr} {fd__law_draw : FuncData} (C__law_draw : Callee P w K mg base 1 f__law_draw fd__law_draw "_law_draw" ["pool", "many"] (spM (M.Env.mk K ca fa none) 2 m__law_draw)) {f__law_edge : Addr} {fd__law_edge : FuncData} (C__law_edge : Callee P w K mg base 2 f__law_edge fd__law_edge "_law_edge" ["pool", "least", "greatest"] (spM (M.Env.mk K ca fa none) 3 m__law_edge)) (b_list : mg "list" = none) : FnOk P w K mg base CX0 3 f fd ["pool", "table"] (spM (M.Env.mk K ca fa none) 2 m__law_drawn_row) := by
  refine FnOk.imp (F.ok sc__law_drawn_row (sp_len (G := (M.Env.mk K ca fa none)) (m := m__law_drawn_row) rfl) (fun cdv A outer s H vs Q E hr h => ?_)) (fun _ _ _ _ h => h)
  have hu := hu_of hr
  exact ⟨_, (pss_cons (ps_set (i := 2) sc__law_drawn_row.nd rfl (.inl rfl) (pe_call C__law_pick.ok (hr.mono (by (first | omega | (simp only [Nat.add_eq] at *; omega) | (simp only [Nat.add_eq]; omega)))) (by rfl) C__law_pick.g C__law_pick.kp C__law_pick.b .nil passT (pa_cons (pv 0) (pa_cons (pe_op op_cat (pe_callTy (x_listD rfl) (by rfl) b_list (by decide +kernel) (pa_cons (pv 1) pa_nil)) (pe_lst (pa_cons pe_str (pa_cons pe_str pa_nil)))) pa_nil))))
      (pss_cons (ps_if (pt_cmpR (x_in (K := K) rfl) (pv 2) (pe_tup (pa_cons pe_str (pa_cons pe_str pa_nil))) rfl) (pss_one (ps_ret (pe_tup (pa_cons (pv 2) pa_nil)))) pss_nil)
      (pss_cons (ps_set (i := 3) sc__law_drawn_row.nd rfl (.inl rfl) (pe_ix (x_ix (K := K) rfl) (pe_dget hu (pv 1) (pv 2) (fun _ _ => rfl)) pe_int (fun _ _ => rfl)))
      (pss_cons (ps_set (i := 4) sc__law_drawn_row.nd rfl (.inl rfl) (pe_call C__law_draw.ok (hr.mono (by (first | omega | (simp only [Nat.add_eq] at *; omega) | (simp only [Nat.add_eq]; omega)))) (by rfl) C__law_draw.g C__law_draw.kp C__law_draw.b .nil passT (pa_cons (pv 0) (pa_cons pe_int pa_nil))))
      (pss_cons (ps_if (pt_cmpR (x_eq (K := K) rfl hr.units) (pv 3) pe_str (nomark _)) (pss_one (ps_ret (pe_tup (pa_cons (pv 2) (pa_cons (pv 4) (pa_cons (pe_call C__law_edge.ok (hr.mono (by (first | omega | (simp only [Nat.add_eq] at *; omega) | (simp only [Nat.add_eq]; omega)))) (by rfl) C__law_edge.g C__law_edge.kp C__law_edge.b .nil passT (pa_cons (pv 0) (pa_cons pe_int (pa_cons pe_int pa_nil)))) pa_nil)))))) pss_nil)
      (pss_cons (ps_if (pt_cmpR (x_eq (K := K) rfl hr.units) (pv 3) pe_str (nomark _)) (pss_one (ps_ret (pe_tup (pa_cons (pv 2) (pa_cons (pv 4) (pa_cons (pe_op op_mulW pe_int (pe_call C__law_edge.ok (hr.mono (by (first | omega | (simp only [Nat.add_eq] at *; omega) | (simp only [Nat.add_eq]; omega)))) (by rfl) C__law_edge.g C__law_edge.kp C__law_edge.b .nil passT (pa_cons (pv 0) (pa_cons (pe_un un_neg pe_int) (pa_cons pe_int pa_nil))))) pa_nil)))))) pss_nil)
      (pss_cons (ps_set (i := 5) sc__law_drawn_row.nd rfl (.inl rfl) (pe_call C__law_draw.ok (hr.mono (by (first | omega | (simp only [Nat.add_eq] at *; omega) | (simp only [Nat.add_eq]; omega)))) (by rfl) C__law_draw.g C__law_draw.kp C__law_draw.b .nil passT (pa_cons (pv 0) (pa_cons pe_int pa_nil))))
      (pss_cons (ps_if (pt_cmpR (x_eq (K := K) rfl hr.units) (pv 3) pe_str (nomark _)) (pss_one (ps_ret (pe_tup (pa_cons (pv 2) (pa_cons (pv 4) (pa_cons (pv 5) (pa_cons (pe_op op_mulW pe_int (pe_call C__law_edge.ok (hr.mono (by (first | omega | (simp only [Nat.add_eq] at *; omega) | (simp only [Nat.add_eq]; omega)))) (by rfl) C__law_edge.g C__law_edge.kp C__law_edge.b .nil passT (pa_cons (pv 0) (pa_cons (pe_un un_neg pe_int) (pa_cons pe_int pa_nil))))) pa_nil))))))) pss_nil)
      (pss_cons (ps_if (PW.pt (pw_or (pt_cmpR (x_eq (K := K) rfl hr.units) (pv 3) pe_str (nomark _)) (pw_or1 (pt_cmpR (x_eq (K := K) rfl hr.units) (pv 3) pe_str (nomark _))))) (pss_one (ps_ret (pe_tup (pa_cons (pv 2) (pa_cons (pv 4) (pa_cons (pv 5) (pa_cons (pe_call C__law_edge.ok (hr.mono (by (first | omega | (simp only [Nat.add_eq] at *; omega) | (simp only [Nat.add_eq]; omega)))) (by rfl) C__law_edge.g C__law_edge.kp C__law_edge.b .nil passT (pa_cons (pv 0) (pa_cons (pe_un un_neg pe_int) (pa_cons pe_int pa_nil)))) pa_nil))))))) pss_nil)
      (pss_one (ps_ret (pe_tup (pa_cons (pv 2) (pa_cons (pv 4) (pa_cons (pv 5) (pa_cons (pe_call C__law_draw.ok (hr.mono (by (first | omega | (simp only [Nat.add_eq] at *; omega) | (simp only [Nat.add_eq]; omega)))) (by rfl) C__law_draw.g C__law_draw.kp C__law_draw.b .nil passT (pa_cons (pv 0) (pa_cons pe_int pa_nil))) pa_nil)))))))))))))))), def_run (N := N__law_drawn_row) (b := b__law_drawn_row)
    (sim_seq (by exact (sim_frz (sim_set (sim_call (sim_cons sim_var (sim_cons (sim_op so_cat (sim_CB sb_listD (sim_cons sim_var sim_nil)) (sim_lst (sim_cons sim_str (sim_cons sim_str sim_nil)))) sim_nil))))))
      (sim_seq (by exact (sim_if (by exact (sim_test (sim_op so_in sim_var (sim_tup (sim_cons sim_str (sim_cons sim_str sim_nil)))))) (by exact (sim_ret (sim_tup (sim_cons sim_var sim_nil)))) (by exact sim_next)))
      (sim_seq (by exact (sim_set (sim_op so_ix (sim_dget sim_var sim_var) sim_int)))
      (sim_seq (by exact (sim_set (sim_call (sim_cons sim_var (sim_cons sim_int sim_nil)))))
      (sim_seq (by exact (sim_if (by exact (sim_test (sim_op so_eq sim_var sim_str))) (by exact (sim_ret (sim_tup (sim_cons sim_var (sim_cons sim_var (sim_cons (sim_call (sim_cons sim_var (sim_cons sim_int (sim_cons sim_int sim_nil)))) sim_nil)))))) (by exact sim_next)))
      (sim_seq (by exact (sim_if (by exact (sim_test (sim_op so_eq sim_var sim_str))) (by exact (sim_ret (sim_tup (sim_cons sim_var (sim_cons sim_var (sim_cons (sim_op so_mul sim_int (sim_call (sim_cons sim_var (sim_cons (sim_un so_neg sim_int) (sim_cons sim_int sim_nil))))) sim_nil)))))) (by exact sim_next)))
      (sim_seq (by exact (sim_set (sim_call (sim_cons sim_var (sim_cons sim_int sim_nil)))))
      (sim_seq (by exact (sim_if (by exact (sim_test (sim_op so_eq sim_var sim_str))) (by exact (sim_ret (sim_tup (sim_cons sim_var (sim_cons sim_var (sim_cons sim_var (sim_cons (sim_op so_mul sim_int (sim_call (sim_cons sim_var (sim_cons (sim_un so_neg sim_int) (sim_cons sim_int sim_nil))))) sim_nil))))))) (by exact sim_next)))
      (sim_seq (by exact (sim_if (by exact (sim_or (sim_test (sim_op so_eq sim_var sim_str)) (sim_test (sim_op so_eq sim_var sim_str)))) (by exact (sim_ret (sim_tup (sim_cons sim_var (sim_cons sim_var (sim_cons sim_var (sim_cons (sim_call (sim_cons sim_var (sim_cons (sim_un so_neg sim_int) (sim_cons sim_int sim_nil)))) sim_nil))))))) (by exact sim_next)))
      (sim_ret (sim_tup (sim_cons sim_var (sim_cons sim_var (sim_cons sim_var (sim_cons (sim_call (sim_cons sim_var (sim_cons sim_int sim_nil))) sim_nil))))))))))))))) h⟩
theorem ok__law_chain {f : Addr} {fd : FuncData} (F : Fun K "_law_chain" "_law_chain" s__law_chain f fd) {f__law_pick : Addr} {fd__law_pick : FuncData} (C__law_pick : Callee P w K mg base 2 f__law_pick fd__law_pick "_law_pick" ["pool", "things"] (spM (M.Env.mk K ca fa none) 2 m__law_pick)) {f__law_title : Addr} {fd__law_title : FuncData} (C__law_title : Callee P w K mg base 3 f__law_title fd__law_title "_law_title" ["pool"] (spM (M.Env.mk K ca fa none) 1 m__law_title)) {f__law_draw : Addr} {fd__law_draw : FuncData} (C__law_draw : Callee P w K mg base 1 f__law_draw fd__law_draw "_law_draw" ["pool", "many"] (spM (M.Env.mk K ca fa none) 2 m__law_draw)) (b_range : mg "range" = none) (b_tuple : mg "tuple" = none) : FnOk P w K mg base CX0 4 f fd ["pool"] (spM (M.Env.mk K ca fa none) 1 m__law_chain) := by
  refine FnOk.imp (F.ok sc__law_chain (sp_len (G := (M.Env.mk K ca fa none)) (m := m__law_chain) rfl) (fun cdv A outer s H vs Q E hr h => ?_)) (fun _ _ _ _ h => h)
  have hu := hu_of hr
  exact ⟨_, (pss_cons (ps_set (i := 1) sc__law_chain.nd rfl (.inl rfl) (pe_lst pa_nil))
      (pss_cons (ps_for PassesOwn.never rfl (pi_range1 (by rfl) b_range (pa_cons (pe_call C__law_pick.ok (hr.mono (by (first | omega | (simp only [Nat.add_eq] at *; omega) | (simp only [Nat.add_eq]; omega)))) (by rfl) C__law_pick.g C__law_pick.kp C__law_pick.b .nil passT (pa_cons (pv 0) (pa_cons (pe_lst (pa_cons pe_int (pa_cons pe_int (pa_cons pe_int (pa_cons pe_int (pa_cons pe_int pa_nil)))))) pa_nil))) pa_nil)) (pg_name (i := 2) sc__law_chain.nd rfl (.inl rfl)) (pss_cons (ps_set (i := 3) sc__law_chain.nd rfl (.inl rfl) (pe_call C__law_title.ok (hr.mono (by (first | omega | (simp only [Nat.add_eq] at *; omega) | (simp only [Nat.add_eq]; omega)))) (by rfl) C__law_title.g C__law_title.kp C__law_title.b .nil passT (pa_cons (pv 0) pa_nil)))
      (pss_cons (ps_set (i := 4) sc__law_chain.nd rfl (.inl rfl) (pe_lst (pa_cons pe_int (pa_cons pe_int (pa_cons pe_int (pa_cons pe_int (pa_cons (pe_call C__law_draw.ok (hr.mono (by (first | omega | (simp only [Nat.add_eq] at *; omega) | (simp only [Nat.add_eq]; omega)))) (by rfl) C__law_draw.g C__law_draw.kp C__law_draw.b .nil passT (pa_cons (pv 0) (pa_cons pe_int pa_nil))) pa_nil)))))))
      (pss_one (ps_expr (pe_bm PySem.F.plainAttrs_list PySem.F.slot_list_append PySem.F.type_list_append mt_append (pv 1) (pa_cons (pe_tup (pa_cons (pv 3) (pa_cons (pe_call C__law_pick.ok (hr.mono (by (first | omega | (simp only [Nat.add_eq] at *; omega) | (simp only [Nat.add_eq]; omega)))) (by rfl) C__law_pick.g C__law_pick.kp C__law_pick.b .nil passT (pa_cons (pv 0) (pa_cons (pv 4) pa_nil))) pa_nil))) pa_nil)))))))
      (pss_one (ps_ret (pe_callTy (x_tuple (K := K) rfl) (by rfl) b_tuple (by decide +kernel) (pa_cons (pv 1) pa_nil)))))), def_run (N := N__law_chain) (b := b__law_chain)
    (sim_seq (by exact (sim_set (sim_lstO sim_nil)))
      (sim_seq (by exact (sim_for (by exact (sim_rng1 (sim_cons (sim_call (sim_cons sim_var (sim_cons (sim_lst (sim_cons sim_int (sim_cons sim_int (sim_cons sim_int (sim_cons sim_int (sim_cons sim_int sim_nil)))))) sim_nil))) sim_nil))) sim_gName (by exact (sim_seq (by exact (sim_set (sim_call (sim_cons sim_var sim_nil))))
      (sim_seq (by exact (sim_set (sim_lst (sim_cons sim_int (sim_cons sim_int (sim_cons sim_int (sim_cons sim_int (sim_cons (sim_call (sim_cons sim_var (sim_cons sim_int sim_nil))) sim_nil))))))))
      (sim_frz (sim_drop (sim_LM sm_append sim_var (sim_cons (sim_tup (sim_cons sim_var (sim_cons (sim_call (sim_cons sim_var (sim_cons sim_var sim_nil))) sim_nil))) sim_nil)))))))))
      (sim_frz (sim_ret (sim_CB sb_tuple (sim_cons sim_var sim_nil)))))) h⟩
theorem ok__law_one_word {f : Addr} {fd : FuncData} (F : Fun K "_law_one_word" "_law_one_word" s__law_one_word f fd) {f__law_draw : Addr} {fd__law_draw : FuncData} (C__law_draw : Callee P w K mg base 1 f__law_draw fd__law_draw "_law_draw" ["pool", "many"] (spM (M.Env.mk K ca fa none) 2 m__law_draw)) {f__law_open_row : Addr} {fd__law_open_row : FuncData} (C__law_open_row : Callee P w K mg base 3 f__law_open_row fd__law_open_row "_law_open_row" ["pool", "calls", "outers"] (spM (M.Env.mk K ca fa none) 3 m__law_open_row)) {f__law_drawn_row : Addr} {fd__law_drawn_row : FuncData} (C__law_drawn_row : Callee P w K mg base 3 f__law_drawn_row fd__law_drawn_row "_law_drawn_row" ["pool", "table"] (spM (M.Env.mk K ca fa none) 2 m__law_drawn_row)) {f__law_pick : Addr} {fd__law_pick : FuncData} (C__law_pick : Callee P w K mg base 2 f__law_pick fd__law_pick "_law_pick" ["pool", "things"] (spM (M.Env.mk K ca fa none) 2 m__law_pick)) {f__law_chain : Addr} {fd__law_chain : FuncData} (C__law_chain : Callee P w K mg base 4 f__law_chain fd__law_chain "_law_chain" ["pool"] (spM (M.Env.mk K ca fa none) 1 m__law_chain)) (b_len : mg "len" = none) : FnOk P w K mg base CX0 5 f fd ["pool", "table", "thing", "calls", "outers"] (spM (M.Env.mk K ca fa none) 5 m__law_one_word) := by
  refine FnOk.imp (F.ok sc__law_one_word (sp_len (G := (M.Env.mk K ca fa none)) (m := m__law_one_word) rfl) (fun cdv A outer s H vs Q E hr h => ?_)) (fun _ _ _ _ h => h)
  have hu := hu_of hr
  exact ⟨_, (pss_cons (ps_set (i := 5) sc__law_one_word.nd rfl (.inl rfl) (pe_callB (x_len (K := K) rfl) (by rfl) b_len (by decide +kernel) (pa_cons (pe_dget hu (pv 2) pe_str (fun _ _ => rfl)) pa_nil)))
      (pss_cons (ps_if (pt_cmpR (x_eq (K := K) rfl hr.units) (pe_call C__law_draw.ok (hr.mono (by (first | omega | (simp only [Nat.add_eq] at *; omega) | (simp only [Nat.add_eq]; omega)))) (by rfl) C__law_draw.g C__law_draw.kp C__law_draw.b .nil passT (pa_cons (pv 0) (pa_cons pe_int pa_nil))) pe_int (nomark _)) (pss_cons (ps_set (i := 6) sc__law_one_word.nd rfl (.inl rfl) (pe_call C__law_open_row.ok (hr.mono (by (first | omega | (simp only [Nat.add_eq] at *; omega) | (simp only [Nat.add_eq]; omega)))) (by rfl) C__law_open_row.g C__law_open_row.kp C__law_open_row.b .nil passT (pa_cons (pv 0) (pa_cons (pv 3) (pa_cons (pv 4) pa_nil)))))
      (pss_cons (ps_expr (pe_bm PySem.F.plainAttrs_list PySem.F.slot_list_append PySem.F.type_list_append mt_append (pe_dget hu (pv 2) pe_str (fun _ _ => rfl)) (pa_cons (pe_ix (x_ix (K := K) rfl) (pv 6) pe_int (fun _ _ => rfl)) pa_nil)))
      (pss_one (ps_if (pt_cmpR (x_ne (K := K) rfl hr.units) (pe_ix (x_ix (K := K) rfl) (pv 6) pe_int (fun _ _ => rfl)) pe_str (nomark _)) (pss_one (ps_expr (pe_bm PySem.F.plainAttrs_list PySem.F.slot_list_append PySem.F.type_list_append mt_append (pe_dget hu (pv 2) pe_str (fun _ _ => rfl)) (pa_cons (pe_tup (pa_cons (pv 5) (pa_cons (pe_ix (x_ix (K := K) rfl) (pv 6) pe_int (fun _ _ => rfl)) (pa_cons (pe_ix (x_ix (K := K) rfl) (pv 6) pe_int (fun _ _ => rfl)) pa_nil)))) pa_nil)))) pss_nil)))) (pss_one (ps_expr (pe_bm PySem.F.plainAttrs_list PySem.F.slot_list_append PySem.F.type_list_append mt_append (pe_dget hu (pv 2) pe_str (fun _ _ => rfl)) (pa_cons (pe_call C__law_drawn_row.ok (hr.mono (by (first | omega | (simp only [Nat.add_eq] at *; omega) | (simp only [Nat.add_eq]; omega)))) (by rfl) C__law_drawn_row.g C__law_drawn_row.kp C__law_drawn_row.b .nil passT (pa_cons (pv 0) (pa_cons (pv 1) pa_nil))) pa_nil)))))
      (pss_one (ps_if (pt_cmpR (x_eq (K := K) rfl hr.units) (pe_call C__law_draw.ok (hr.mono (by (first | omega | (simp only [Nat.add_eq] at *; omega) | (simp only [Nat.add_eq]; omega)))) (by rfl) C__law_draw.g C__law_draw.kp C__law_draw.b .nil passT (pa_cons (pv 0) (pa_cons pe_int pa_nil))) pe_int (nomark _)) (pss_cons (ps_set (i := 7) sc__law_one_word.nd rfl (.inl rfl) (pe_call C__law_pick.ok (hr.mono (by (first | omega | (simp only [Nat.add_eq] at *; omega) | (simp only [Nat.add_eq]; omega)))) (by rfl) C__law_pick.g C__law_pick.kp C__law_pick.b .nil passT (pa_cons (pv 0) (pa_cons (pe_lst (pa_cons pe_str (pa_cons pe_str (pa_cons pe_str (pa_cons pe_str (pa_cons pe_str pa_nil)))))) pa_nil))))
      (pss_one (ps_expr (pe_bm PySem.F.plainAttrs_list PySem.F.slot_list_append PySem.F.type_list_append mt_append (pe_dget hu (pv 2) pe_str (fun _ _ => rfl)) (pa_cons (pe_tup (pa_cons (pv 5) (pa_cons (pv 7) (pa_cons (pe_call C__law_chain.ok (hr.mono (by (first | omega | (simp only [Nat.add_eq] at *; omega) | (simp only [Nat.add_eq]; omega)))) (by rfl) C__law_chain.g C__law_chain.kp C__law_chain.b .nil passT (pa_cons (pv 0) pa_nil)) pa_nil)))) pa_nil))))) pss_nil)))), def_run (N := N__law_one_word) (b := b__law_one_word)
    (sim_seq (by exact (sim_set (sim_CB sb_len (sim_cons (sim_dget sim_var sim_str) sim_nil))))
      (sim_seq (by exact (sim_if (by exact (sim_test (sim_op so_eq (sim_call (sim_cons sim_var (sim_cons sim_int sim_nil))) sim_int))) (by exact (sim_seq (by exact (sim_frz (sim_frz (sim_set (sim_call (sim_cons sim_var (sim_cons sim_var (sim_cons sim_var sim_nil))))))))
      (sim_seq (by exact (sim_drop (sim_LM sm_append (sim_dget sim_var sim_str) (sim_cons (sim_op so_ix sim_var sim_int) sim_nil))))
      (sim_if (by exact (sim_test (sim_op so_ne (sim_op so_ix sim_var sim_int) sim_str))) (by exact (sim_drop (sim_LM sm_append (sim_dget sim_var sim_str) (sim_cons (sim_tup (sim_cons sim_var (sim_cons (sim_op so_ix sim_var sim_int) (sim_cons (sim_op so_ix sim_var sim_int) sim_nil)))) sim_nil)))) (by exact sim_next))))) (by exact (sim_frz (sim_drop (sim_LM sm_append (sim_dget sim_var sim_str) (sim_cons (sim_call (sim_cons sim_var (sim_cons sim_var sim_nil))) sim_nil)))))))
      (sim_if (by exact (sim_test (sim_op so_eq (sim_call (sim_cons sim_var (sim_cons sim_int sim_nil))) sim_int))) (by exact (sim_seq (by exact (sim_set (sim_call (sim_cons sim_var (sim_cons (sim_lst (sim_cons sim_str (sim_cons sim_str (sim_cons sim_str (sim_cons sim_str (sim_cons sim_str sim_nil)))))) sim_nil)))))
      (sim_drop (sim_LM sm_append (sim_dget sim_var sim_str) (sim_cons (sim_tup (sim_cons sim_var (sim_cons sim_var (sim_cons (sim_call (sim_cons sim_var sim_nil)) sim_nil)))) sim_nil))))) (by exact sim_next)))) h⟩
theorem ok__law_thing {f : Addr} {fd : FuncData} (F : Fun K "_law_thing" "_law_thing" s__law_thing f fd) {f__law_many : Addr} {fd__law_many : FuncData} (C__law_many : Callee P w K mg base 3 f__law_many fd__law_many "_law_many" ["pool"] (spM (M.Env.mk K ca fa none) 1 m__law_many)) {f__law_want : Addr} {fd__law_want : FuncData} (C__law_want : Callee P w K mg base 4 f__law_want fd__law_want "_law_want" ["pool"] (spM (M.Env.mk K ca fa none) 1 m__law_want)) {f__law_datum : Addr} {fd__law_datum : FuncData} (C__law_datum : Callee P w K mg base 4 f__law_datum fd__law_datum "_law_datum" ["pool"] (spM (M.Env.mk K ca fa none) 1 m__law_datum)) {f__law_pick : Addr} {fd__law_pick : FuncData} (C__law_pick : Callee P w K mg base 2 f__law_pick fd__law_pick "_law_pick" ["pool", "things"] (spM (M.Env.mk K ca fa none) 2 m__law_pick)) {f__law_title : Addr} {fd__law_title : FuncData} (C__law_title : Callee P w K mg base 3 f__law_title fd__law_title "_law_title" ["pool"] (spM (M.Env.mk K ca fa none) 1 m__law_title)) {f__law_draw : Addr} {fd__law_draw : FuncData} (C__law_draw : Callee P w K mg base 1 f__law_draw fd__law_draw "_law_draw" ["pool", "many"] (spM (M.Env.mk K ca fa none) 2 m__law_draw)) {f__law_one_word : Addr} {fd__law_one_word : FuncData} (C__law_one_word : Callee P w K mg base 5 f__law_one_word fd__law_one_word "_law_one_word" ["pool", "table", "thing", "calls", "outers"] (spM (M.Env.mk K ca fa none) 5 m__law_one_word)) (b_range : mg "range" = none) (b_len : mg "len" = none) : FnOk P w K mg base CX0 6 f fd ["pool", "table"] (spM (M.Env.mk K ca fa none) 2 m__law_thing) := by
  refine FnOk.imp (F.ok sc__law_thing (sp_len (G := (M.Env.mk K ca fa none)) (m := m__law_thing) rfl) (fun cdv A outer s H vs Q E hr h => ?_)) (fun _ _ _ _ h => h)
  have hu := hu_of hr
  exact ⟨_, (pss_cons (ps_set (i := 2) sc__law_thing.nd rfl (.inl rfl) (pe_disp (pps_cons pe_str (pe_lst pa_nil) (pps_cons pe_str (pe_lst pa_nil) (pps_cons pe_str (pe_lst pa_nil) (pps_cons pe_str (pe_lst pa_nil) (pps_cons pe_str (pe_lst pa_nil) (pps_cons pe_str (pe_lst pa_nil) pps_nil)))))) (by rfl) (by rfl) (fun z => by cases z) (by decide)))
      (pss_cons (ps_for PassesOwn.never rfl (pi_range1 (by rfl) b_range (pa_cons (pe_call C__law_many.ok (hr.mono (by (first | omega | (simp only [Nat.add_eq] at *; omega) | (simp only [Nat.add_eq]; omega)))) (by rfl) C__law_many.g C__law_many.kp C__law_many.b .nil passT (pa_cons (pv 0) pa_nil)) pa_nil)) (pg_name (i := 3) sc__law_thing.nd rfl (.inl rfl)) (pss_cons (ps_set (i := 4) sc__law_thing.nd rfl (.inl rfl) (pe_call C__law_want.ok (hr.mono (by (first | omega | (simp only [Nat.add_eq] at *; omega) | (simp only [Nat.add_eq]; omega)))) (by rfl) C__law_want.g C__law_want.kp C__law_want.b .nil passT (pa_cons (pv 0) pa_nil)))
      (pss_one (ps_if (pt_cmpR (x_ninD (K := K) rfl (hu65 hr)) (pv 4) (pe_dget hu (pv 2) pe_str (fun _ _ => rfl)) rfl) (pss_one (ps_expr (pe_bm PySem.F.plainAttrs_list PySem.F.slot_list_append PySem.F.type_list_append mt_append (pe_dget hu (pv 2) pe_str (fun _ _ => rfl)) (pa_cons (pv 4) pa_nil)))) pss_nil))))
      (pss_cons (ps_for PassesOwn.never rfl (pi_range1 (by rfl) b_range (pa_cons (pe_call C__law_many.ok (hr.mono (by (first | omega | (simp only [Nat.add_eq] at *; omega) | (simp only [Nat.add_eq]; omega)))) (by rfl) C__law_many.g C__law_many.kp C__law_many.b .nil passT (pa_cons (pv 0) pa_nil)) pa_nil)) (pg_name (i := 3) sc__law_thing.nd rfl (.inl rfl)) (pss_one (ps_expr (pe_bm PySem.F.plainAttrs_list PySem.F.slot_list_append PySem.F.type_list_append mt_append (pe_dget hu (pv 2) pe_str (fun _ _ => rfl)) (pa_cons (pe_call C__law_datum.ok (hr.mono (by (first | omega | (simp only [Nat.add_eq] at *; omega) | (simp only [Nat.add_eq]; omega)))) (by rfl) C__law_datum.g C__law_datum.kp C__law_datum.b .nil passT (pa_cons (pv 0) pa_nil)) pa_nil)))))
      (pss_cons (ps_set (i := 5) sc__law_thing.nd rfl (.inl rfl) (pe_lst pa_nil))
      (pss_cons (ps_for PassesOwn.never rfl (pi_range1 (by rfl) b_range (pa_cons (pe_call C__law_pick.ok (hr.mono (by (first | omega | (simp only [Nat.add_eq] at *; omega) | (simp only [Nat.add_eq]; omega)))) (by rfl) C__law_pick.g C__law_pick.kp C__law_pick.b .nil passT (pa_cons (pv 0) (pa_cons (pe_lst (pa_cons pe_int (pa_cons pe_int (pa_cons pe_int (pa_cons pe_int (pa_cons pe_int (pa_cons pe_int (pa_cons pe_int (pa_cons pe_int (pa_cons pe_int (pa_cons pe_int (pa_cons pe_int (pa_cons pe_int pa_nil))))))))))))) pa_nil))) pa_nil)) (pg_name (i := 3) sc__law_thing.nd rfl (.inl rfl)) (pss_cons (ps_set (i := 6) sc__law_thing.nd rfl (.inl rfl) (pe_call C__law_title.ok (hr.mono (by (first | omega | (simp only [Nat.add_eq] at *; omega) | (simp only [Nat.add_eq]; omega)))) (by rfl) C__law_title.g C__law_title.kp C__law_title.b .nil passT (pa_cons (pv 0) pa_nil)))
      (pss_cons (ps_set (i := 7) sc__law_thing.nd rfl (.inl rfl) (pe_call C__law_draw.ok (hr.mono (by (first | omega | (simp only [Nat.add_eq] at *; omega) | (simp only [Nat.add_eq]; omega)))) (by rfl) C__law_draw.g C__law_draw.kp C__law_draw.b .nil passT (pa_cons (pv 0) (pa_cons pe_int pa_nil))))
      (pss_one (ps_expr (pe_bm PySem.F.plainAttrs_list PySem.F.slot_list_append PySem.F.type_list_append mt_append (pv 5) (pa_cons (pe_tup (pa_cons (pv 6) (pa_cons (pv 7) (pa_cons (pe_op op_mulW pe_int (pe_op op_add pe_int (pe_call C__law_draw.ok (hr.mono (by (first | omega | (simp only [Nat.add_eq] at *; omega) | (simp only [Nat.add_eq]; omega)))) (by rfl) C__law_draw.g C__law_draw.kp C__law_draw.b .nil passT (pa_cons (pv 0) (pa_cons pe_int pa_nil))))) pa_nil)))) pa_nil)))))))
      (pss_cons (ps_setLc (i := 9) (own := [("one", 8)]) (g := gName 8) (tt := tYes) rfl sc__law_thing.nd rfl rfl (sw_true rfl rfl rfl (by decide +kernel)) (x_pil (K := K) rfl (pv 5)) (blkOk_by (own := [("one", 8)]) (N := N__law_thing) (sc := defScope s__law_thing) (by decide +kernel)) (fun _ _ _ _ _ => (pg_name (i := 8) sc__law_thing.nd rfl (.inl rfl))) (fun _ _ _ _ _ => pts_nil) (fun _ _ _ _ _ => (pe_ix (x_ix (K := K) rfl) (pv 8) pe_int (fun _ _ => rfl))))
      (pss_cons (ps_set (i := 9) sc__law_thing.nd rfl (.inl rfl) (pe_op op_cat (pv 9) (pe_lc (own := [("one", 8)]) (g := gName 8) rfl sc__law_thing.nd (x_pil (K := K) rfl (pe_dget hu (pv 2) pe_str (fun _ _ => rfl))) (blkOk_by (own := [("one", 8)]) (N := N__law_thing) (sc := defScope s__law_thing) (by decide +kernel)) (fun _ _ _ _ _ => (pg_name (i := 8) sc__law_thing.nd rfl (.inl rfl))) (fun _ _ _ _ _ => (pts_one (pt_cmpR (x_eq (K := K) rfl hr.units) (pe_ix (x_ix (K := K) rfl) (pv 8) pe_int (fun _ _ => rfl)) pe_str (nomark _)))) (fun _ _ _ _ _ => (pe_ix (x_ix (K := K) rfl) (pv 8) pe_int (fun _ _ => rfl))))))
      (pss_cons (ps_setLc (i := 10) (own := [("one", 8)]) (g := gName 8) (tt := tYes) rfl sc__law_thing.nd rfl rfl (sw_true rfl rfl rfl (by decide +kernel)) (x_pil (K := K) rfl (pe_dget hu (pv 2) pe_str (fun _ _ => rfl))) (blkOk_by (own := [("one", 8)]) (N := N__law_thing) (sc := defScope s__law_thing) (by decide +kernel)) (fun _ _ _ _ _ => (pg_name (i := 8) sc__law_thing.nd rfl (.inl rfl))) (fun _ _ _ _ _ => pts_nil) (fun _ _ _ _ _ => (pe_ix (x_ix (K := K) rfl) (pv 8) pe_int (fun _ _ => rfl))))
      (pss_cons (ps_set (i := 10) sc__law_thing.nd rfl (.inl rfl) (pe_op op_cat (pv 10) (pe_lc (own := [("one", 8)]) (g := gName 8) rfl sc__law_thing.nd (x_pil (K := K) rfl (pe_dget hu (pv 2) pe_str (fun _ _ => rfl))) (blkOk_by (own := [("one", 8)]) (N := N__law_thing) (sc := defScope s__law_thing) (by decide +kernel)) (fun _ _ _ _ _ => (pg_name (i := 8) sc__law_thing.nd rfl (.inl rfl))) (fun _ _ _ _ _ => (pts_one (pt_cmpR (x_ne (K := K) rfl hr.units) (pe_ix (x_ix (K := K) rfl) (pv 8) pe_int (fun _ _ => rfl)) pe_str (nomark _)))) (fun _ _ _ _ _ => (pe_ix (x_ix (K := K) rfl) (pv 8) pe_int (fun _ _ => rfl))))))
      (pss_cons (ps_for PassesOwn.never rfl (x_pil (K := K) rfl (pv 5)) (pg_name (i := 8) sc__law_thing.nd rfl (.inl rfl)) (pss_cons (ps_expr (pe_bm PySem.F.plainAttrs_list PySem.F.slot_list_append PySem.F.type_list_append mt_append (pe_dget hu (pv 2) pe_str (fun _ _ => rfl)) (pa_cons (pe_tup (pa_cons (pe_ix (x_ix (K := K) rfl) (pv 8) pe_int (fun _ _ => rfl)) (pa_cons (pe_callB (x_len (K := K) rfl) (by rfl) b_len (by decide +kernel) (pa_cons (pe_dget hu (pv 2) pe_str (fun _ _ => rfl)) pa_nil)) (pa_cons (pe_ix (x_ix (K := K) rfl) (pv 8) pe_int (fun _ _ => rfl)) (pa_cons (pe_ix (x_ix (K := K) rfl) (pv 8) pe_int (fun _ _ => rfl)) pa_nil))))) pa_nil)))
      (pss_one (ps_for PassesOwn.never rfl (pi_range1 (by rfl) b_range (pa_cons (pe_op op_add pe_int (pe_call C__law_draw.ok (hr.mono (by (first | omega | (simp only [Nat.add_eq] at *; omega) | (simp only [Nat.add_eq]; omega)))) (by rfl) C__law_draw.g C__law_draw.kp C__law_draw.b .nil passT (pa_cons (pv 0) (pa_cons pe_int pa_nil)))) pa_nil)) (pg_name (i := 3) sc__law_thing.nd rfl (.inl rfl)) (pss_one (ps_expr (pe_call C__law_one_word.ok (hr.mono (by (first | omega | (simp only [Nat.add_eq] at *; omega) | (simp only [Nat.add_eq]; omega)))) (by rfl) C__law_one_word.g C__law_one_word.kp C__law_one_word.b .nil passT (pa_cons (pv 0) (pa_cons (pv 1) (pa_cons (pv 2) (pa_cons (pv 9) (pa_cons (pv 10) pa_nil))))))))))))
      (pss_one (ps_ret (pv 2))))))))))))), def_run (N := N__law_thing) (b := b__law_thing)
    (sim_seq (by exact (sim_set (sim_disp (.cons sim_str (sim_lstO sim_nil) (.cons sim_str (sim_lstO sim_nil) (.cons sim_str (sim_lstO sim_nil) (.cons sim_str (sim_lstO sim_nil) (.cons sim_str (sim_lstO sim_nil) (.cons sim_str (sim_lstO sim_nil) .nil)))))))))
      (sim_seq (by exact (sim_for (by exact (sim_rng1 (sim_cons (sim_call (sim_cons sim_var sim_nil)) sim_nil))) sim_gName (by exact (sim_seq (by exact (sim_set (sim_call (sim_cons sim_var sim_nil))))
      (sim_if (by exact (sim_test (sim_op so_ninDH sim_var (sim_dget sim_var sim_str)))) (by exact (sim_drop (sim_LM sm_append (sim_dget sim_var sim_str) (sim_cons sim_var sim_nil)))) (by exact sim_next))))))
      (sim_seq (by exact (sim_for (by exact (sim_rng1 (sim_cons (sim_call (sim_cons sim_var sim_nil)) sim_nil))) sim_gName (by exact (sim_drop (sim_LM sm_append (sim_dget sim_var sim_str) (sim_cons (sim_call (sim_cons sim_var sim_nil)) sim_nil))))))
      (sim_seq (by exact (sim_set (sim_lstO sim_nil)))
      (sim_seq (by exact (sim_for (by exact (sim_rng1 (sim_cons (sim_call (sim_cons sim_var (sim_cons (sim_lst (sim_cons sim_int (sim_cons sim_int (sim_cons sim_int (sim_cons sim_int (sim_cons sim_int (sim_cons sim_int (sim_cons sim_int (sim_cons sim_int (sim_cons sim_int (sim_cons sim_int (sim_cons sim_int (sim_cons sim_int sim_nil))))))))))))) sim_nil))) sim_nil))) sim_gName (by exact (sim_seq (by exact (sim_set (sim_call (sim_cons sim_var sim_nil))))
      (sim_seq (by exact (sim_set (sim_call (sim_cons sim_var (sim_cons sim_int sim_nil)))))
      (sim_drop (sim_LM sm_append sim_var (sim_cons (sim_tup (sim_cons sim_var (sim_cons sim_var (sim_cons (sim_op so_mul sim_int (sim_op so_add sim_int (sim_call (sim_cons sim_var (sim_cons sim_int sim_nil))))) sim_nil)))) sim_nil))))))))
      (sim_seq (by exact (sim_frz (sim_set (sim_lc (vs := [8]) (by exact (sim_iLst sim_var)) (sim_wName (by decide)) (by exact sim_yes) (by exact (sim_op so_ix sim_var sim_int))))))
      (sim_seq (by exact (sim_frz (sim_set (sim_op so_cat sim_var (sim_lcV (vs := [8]) (by exact (sim_dget sim_var sim_str)) (sim_wName (by decide)) (by exact (sim_test (sim_op so_eq (sim_op so_ix sim_var sim_int) sim_str))) (by exact (sim_op so_ix sim_var sim_int)))))))
      (sim_seq (by exact (sim_set (sim_lcV (vs := [8]) (by exact (sim_dget sim_var sim_str)) (sim_wName (by decide)) (by exact sim_yes) (by exact (sim_op so_ix sim_var sim_int)))))
      (sim_seq (by exact (sim_frz (sim_set (sim_op so_cat sim_var (sim_lcV (vs := [8]) (by exact (sim_dget sim_var sim_str)) (sim_wName (by decide)) (by exact (sim_test (sim_op so_ne (sim_op so_ix sim_var sim_int) sim_str))) (by exact (sim_op so_ix sim_var sim_int)))))))
      (sim_seq (by exact (sim_for (by exact (sim_iLst sim_var)) sim_gName (by exact (sim_seq (by exact (sim_drop (sim_LM sm_append (sim_dget sim_var sim_str) (sim_cons (sim_tup (sim_cons (sim_op so_ix sim_var sim_int) (sim_cons (sim_CB sb_len (sim_cons (sim_dget sim_var sim_str) sim_nil)) (sim_cons (sim_op so_ix sim_var sim_int) (sim_cons (sim_op so_ix sim_var sim_int) sim_nil))))) sim_nil))))
      (sim_for (by exact (sim_rng1 (sim_cons (sim_op so_add sim_int (sim_call (sim_cons sim_var (sim_cons sim_int sim_nil)))) sim_nil))) sim_gName (by exact (sim_frz (sim_frz (sim_frz (sim_drop (sim_call (sim_cons sim_var (sim_cons sim_var (sim_cons sim_var (sim_cons sim_var (sim_cons sim_var sim_nil))))))))))))))))
      (sim_ret sim_var))))))))))) h⟩
theorem ok__law_like_needs {f : Addr} {fd : FuncData} (F : Fun K "_law_like_needs" "_law_like_needs" s__law_like_needs f fd) {f__law_draw : Addr} {fd__law_draw : FuncData} (C__law_draw : Callee P w K mg base 1 f__law_draw fd__law_draw "_law_draw" ["pool", "many"] (spM (M.Env.mk K ca fa none) 2 m__law_draw)) (b_int : mg "int" = none) (b_len : mg "len" = none) : FnOk P w K mg base CX0 2 f fd ["pool", "thing", "others"] (spM (M.Env.mk K ca fa none) 3 m__law_like_needs) := by
  refine FnOk.imp (F.ok sc__law_like_needs (sp_len (G := (M.Env.mk K ca fa none)) (m := m__law_like_needs) rfl) (fun cdv A outer s H vs Q E hr h => ?_)) (fun _ _ _ _ h => h)
  have hu := hu_of hr
  exact ⟨_, (pss_one (ps_for PassesOwn.never rfl (x_pil (K := K) rfl (pv 2)) (pg_name (i := 3) sc__law_like_needs.nd rfl (.inl rfl)) (pss_one (ps_if (pt_cmpR (x_eq (K := K) rfl hr.units) (pe_call C__law_draw.ok (hr.mono (by (first | omega | (simp only [Nat.add_eq] at *; omega) | (simp only [Nat.add_eq]; omega)))) (by rfl) C__law_draw.g C__law_draw.kp C__law_draw.b .nil passT (pa_cons (pv 0) (pa_cons pe_int pa_nil))) pe_int (nomark _)) (pss_cons (ps_set (i := 4) sc__law_like_needs.nd rfl (.inl rfl) (pv 3))
      (pss_cons (ps_if (PW.pt (pw_and (pt_cmpR (x_eq (K := K) rfl hr.units) (pe_ix (x_ix (K := K) rfl) (pv 3) pe_int (fun _ _ => rfl)) pe_str (nomark _)) (pw_and1 (pt_cmpR (x_eq (K := K) rfl hr.units) (pe_call C__law_draw.ok (hr.mono (by (first | omega | (simp only [Nat.add_eq] at *; omega) | (simp only [Nat.add_eq]; omega)))) (by rfl) C__law_draw.g C__law_draw.kp C__law_draw.b .nil passT (pa_cons (pv 0) (pa_cons pe_int pa_nil))) pe_int (nomark _))))) (pss_one (ps_set (i := 4) sc__law_like_needs.nd rfl (.inl rfl) (pe_tup (pa_cons (pe_ix (x_ix (K := K) rfl) (pv 3) pe_int (fun _ _ => rfl)) (pa_cons (pe_ix (x_ix (K := K) rfl) (pv 3) pe_int (fun _ _ => rfl)) (pa_cons (pe_op op_mod (pe_callTy (call_int1) (by rfl) b_int (by decide +kernel) (pa_cons (pe_op op_add (pe_ix (x_ix (K := K) rfl) (pv 3) pe_int (fun _ _ => rfl)) pe_int) pa_nil)) pe_int) pa_nil)))))) pss_nil)
      (pss_one (ps_if (pt_cmpR (x_ninD (K := K) rfl (hu65 hr)) (pv 4) (pe_dget hu (pv 1) pe_str (fun _ _ => rfl)) rfl) (pss_cons (ps_set (i := 5) sc__law_like_needs.nd rfl (.inl rfl) (pe_call C__law_draw.ok (hr.mono (by (first | omega | (simp only [Nat.add_eq] at *; omega) | (simp only [Nat.add_eq]; omega)))) (by rfl) C__law_draw.g C__law_draw.kp C__law_draw.b .nil passT (pa_cons (pv 0) (pa_cons (pe_op op_add (pe_callB (x_len (K := K) rfl) (by rfl) b_len (by decide +kernel) (pa_cons (pe_dget hu (pv 1) pe_str (fun _ _ => rfl)) pa_nil)) pe_int) pa_nil))))
      (pss_one (ps_expr (pe_bm PySem.F.plainAttrs_list PySem.F.slot_list_insert PySem.F.type_list_insert mt_insert (pe_dget hu (pv 1) pe_str (fun _ _ => rfl)) (pa_cons (pv 5) (pa_cons (pv 4) pa_nil)))))) pss_nil)))) pss_nil)))), def_run (N := N__law_like_needs) (b := b__law_like_needs)
    (sim_frz (sim_for (by exact (sim_iLst sim_var)) sim_gName (by exact (sim_if (by exact (sim_test (sim_op so_eq (sim_call (sim_cons sim_var (sim_cons sim_int sim_nil))) sim_int))) (by exact (sim_seq (by exact (sim_set sim_var))
      (sim_seq (by exact (sim_if (by exact (sim_and (sim_test (sim_op so_eq (sim_op so_ix sim_var sim_int) sim_str)) (sim_test (sim_op so_eq (sim_call (sim_cons sim_var (sim_cons sim_int sim_nil))) sim_int)))) (by exact (sim_set (sim_tup (sim_cons (sim_op so_ix sim_var sim_int) (sim_cons (sim_op so_ix sim_var sim_int) (sim_cons (sim_op so_mod (sim_CB sb_int (sim_cons (sim_op so_add (sim_op so_ix sim_var sim_int) sim_int) sim_nil)) sim_int) sim_nil)))))) (by exact sim_next)))
      (sim_if (by exact (sim_test (sim_op so_ninDH sim_var (sim_dget sim_var sim_str)))) (by exact (sim_seq (by exact (sim_set (sim_call (sim_cons sim_var (sim_cons (sim_op so_add (sim_CB sb_len (sim_cons (sim_dget sim_var sim_str) sim_nil)) sim_int) sim_nil)))))
      (sim_drop (sim_LM sm_insert (sim_dget sim_var sim_str) (sim_cons sim_var (sim_cons sim_var sim_nil)))))) (by exact sim_next))))) (by exact sim_next))))) h⟩
theorem ok__law_encoded {f : Addr} {fd : FuncData} (F : Fun K "_law_encoded" "_law_encoded" s__law_encoded f fd) (b_len : mg "len" = none) (b_int : mg "int" = none) : FnOk P w K mg base CX0 1 f fd ["table", "row"] (spM (M.Env.mk K ca fa none) 2 m__law_encoded) := by
  refine FnOk.imp (F.ok sc__law_encoded (sp_len (G := (M.Env.mk K ca fa none)) (m := m__law_encoded) rfl) (fun cdv A outer s H vs Q E hr h => ?_)) (fun _ _ _ _ h => h)
  have hu := hu_of hr
  exact ⟨_, (pss_cons (ps_if (pt_cmpR (x_eq (K := K) rfl hr.units) (pe_callB (x_len (K := K) rfl) (by rfl) b_len (by decide +kernel) (pa_cons (pv 1) pa_nil)) pe_int (nomark _)) (pss_one (ps_ret (pe_ifExp (pt_cmpR (x_eq (K := K) rfl hr.units) (pe_ix (x_ix (K := K) rfl) (pv 1) pe_int (fun _ _ => rfl)) pe_str (nomark _)) pe_int pe_int))) pss_nil)
      (pss_cons (ps_set (i := 2) sc__law_encoded.nd rfl (.inl rfl) (pe_dget hu (pv 0) (pe_ix (x_ix (K := K) rfl) (pv 1) pe_int (fun _ _ => rfl)) (fun _ _ => rfl)))
      (pss_cons (ps_if (pt_cmpR (x_eq (K := K) rfl hr.units) (pe_ix (x_ix (K := K) rfl) (pv 2) pe_int (fun _ _ => rfl)) pe_str (nomark _)) (pss_one (ps_ret (pe_op op_add (pe_op op_add (pe_op op_mulW (pe_ix (x_ix (K := K) rfl) (pv 1) pe_int (fun _ _ => rfl)) pe_int) (pe_op op_mulW (pe_ix (x_ix (K := K) rfl) (pv 1) pe_int (fun _ _ => rfl)) pe_int)) (pe_ix (x_ix (K := K) rfl) (pv 2) pe_int (fun _ _ => rfl))))) pss_nil)
      (pss_cons (ps_if (pt_cmpR (x_eq (K := K) rfl hr.units) (pe_ix (x_ix (K := K) rfl) (pv 2) pe_int (fun _ _ => rfl)) pe_str (nomark _)) (pss_cons (ps_set (i := 3) sc__law_encoded.nd rfl (.inl rfl) (pe_op op_mod (pe_callTy (call_int1) (by rfl) b_int (by decide +kernel) (pa_cons (pe_ix (x_ix (K := K) rfl) (pv 1) pe_int (fun _ _ => rfl)) pa_nil)) pe_int))
      (pss_cons (ps_set (i := 4) sc__law_encoded.nd rfl (.inl rfl) (pe_op op_add (pe_op op_add (pe_op op_mulW (pe_op op_fdivW (pv 3) pe_int) pe_int) (pe_op op_mulW (pe_op op_mod (pe_op op_fdivW (pv 3) pe_int) pe_int) pe_int)) (pe_op op_mulW (pe_op op_mod (pe_op op_fdivW (pv 3) pe_int) pe_int) pe_int)))
      (pss_one (ps_ret (pe_op op_add (pe_op op_add (pe_op op_mulW (pe_op op_add (pv 4) (pe_op op_mod (pe_op op_fdivW (pv 3) pe_int) pe_int)) pe_int) (pe_op op_mulW (pe_ix (x_ix (K := K) rfl) (pv 1) pe_int (fun _ _ => rfl)) pe_int)) (pe_ix (x_ix (K := K) rfl) (pv 2) pe_int (fun _ _ => rfl))))))) pss_nil)
      (pss_cons (ps_if (PW.pt (pw_or (pt_cmpR (x_eq (K := K) rfl hr.units) (pe_ix (x_ix (K := K) rfl) (pv 2) pe_int (fun _ _ => rfl)) pe_str (nomark _)) (pw_or1 (pt_cmpR (x_eq (K := K) rfl hr.units) (pe_ix (x_ix (K := K) rfl) (pv 2) pe_int (fun _ _ => rfl)) pe_str (nomark _))))) (pss_cons (ps_set (i := 4) sc__law_encoded.nd rfl (.inl rfl) (pe_op op_add (pe_op op_add (pe_op op_mulW (pe_ix (x_ix (K := K) rfl) (pv 2) pe_int (fun _ _ => rfl)) pe_int) (pe_op op_mulW (pe_ix (x_ix (K := K) rfl) (pv 1) pe_int (fun _ _ => rfl)) pe_int)) (pe_op op_mulW (pe_ix (x_ix (K := K) rfl) (pv 1) pe_int (fun _ _ => rfl)) pe_int)))
      (pss_one (ps_ret (pe_op op_add (pe_op op_add (pe_op op_add (pv 4) (pe_op op_mulW (pe_ix (x_ix (K := K) rfl) (pv 2) pe_int (fun _ _ => rfl)) pe_int)) (pe_op op_mulW (pe_ix (x_ix (K := K) rfl) (pv 1) pe_int (fun _ _ => rfl)) pe_int)) (pe_ix (x_ix (K := K) rfl) (pv 2) pe_int (fun _ _ => rfl)))))) pss_nil)
      (pss_cons (ps_if (pt_cmpR (x_eq (K := K) rfl hr.units) (pe_ix (x_ix (K := K) rfl) (pv 2) pe_int (fun _ _ => rfl)) pe_str (nomark _)) (pss_cons (ps_set (i := 3) sc__law_encoded.nd rfl (.inl rfl) (pe_op op_mod (pe_callTy (call_int1) (by rfl) b_int (by decide +kernel) (pa_cons (pe_ix (x_ix (K := K) rfl) (pv 1) pe_int (fun _ _ => rfl)) pa_nil)) pe_int))
      (pss_one (ps_ret (pe_op op_add (pe_op op_add (pe_op op_add (pe_op op_add (pe_op op_mulW (pv 3) pe_int) (pe_op op_mulW (pe_ix (x_ix (K := K) rfl) (pv 1) pe_int (fun _ _ => rfl)) pe_int)) (pe_op op_mulW (pe_ix (x_ix (K := K) rfl) (pv 2) pe_int (fun _ _ => rfl)) pe_int)) (pe_op op_mulW (pe_ix (x_ix (K := K) rfl) (pv 1) pe_int (fun _ _ => rfl)) pe_int)) (pe_ix (x_ix (K := K) rfl) (pv 2) pe_int (fun _ _ => rfl)))))) pss_nil)
      (pss_cons (ps_if (pt_cmpR (x_eq (K := K) rfl hr.units) (pe_ix (x_ix (K := K) rfl) (pv 2) pe_int (fun _ _ => rfl)) pe_str (nomark _)) (pss_cons (ps_set (i := 3) sc__law_encoded.nd rfl (.inl rfl) (pe_op op_mod (pe_callTy (call_int1) (by rfl) b_int (by decide +kernel) (pa_cons (pe_ix (x_ix (K := K) rfl) (pv 1) pe_int (fun _ _ => rfl)) pa_nil)) pe_int))
      (pss_cons (ps_set (i := 4) sc__law_encoded.nd rfl (.inl rfl) (pe_op op_add (pe_op op_add (pe_op op_add (pe_op op_mulW (pe_op op_fdivW (pv 3) pe_int) pe_int) (pe_op op_mulW (pe_ix (x_ix (K := K) rfl) (pv 1) pe_int (fun _ _ => rfl)) pe_int)) (pe_op op_mulW (pe_ix (x_ix (K := K) rfl) (pv 1) pe_int (fun _ _ => rfl)) pe_int)) (pe_op op_mulW (pe_ix (x_ix (K := K) rfl) (pv 2) pe_int (fun _ _ => rfl)) pe_int)))
      (pss_one (ps_ret (pe_op op_add (pe_op op_add (pv 4) (pe_op op_mulW (pe_op op_mod (pv 3) pe_int) pe_int)) (pe_ix (x_ix (K := K) rfl) (pv 2) pe_int (fun _ _ => rfl))))))) pss_nil)
      (pss_cons (ps_set (i := 3) sc__law_encoded.nd rfl (.inl rfl) (pe_op op_mod (pe_callTy (call_int1) (by rfl) b_int (by decide +kernel) (pa_cons (pe_ix (x_ix (K := K) rfl) (pv 1) pe_int (fun _ _ => rfl)) pa_nil)) pe_int))
      (pss_cons (ps_set (i := 4) sc__law_encoded.nd rfl (.inl rfl) (pe_op op_add (pe_op op_add (pe_op op_mulW (pe_op op_add (pe_op op_mulW (pe_op op_fdivW (pv 3) pe_int) pe_int) (pe_op op_mod (pe_op op_fdivW (pv 3) pe_int) pe_int)) pe_int) (pe_op op_mulW (pe_ix (x_ix (K := K) rfl) (pv 1) pe_int (fun _ _ => rfl)) pe_int)) (pe_op op_mulW (pe_ix (x_ix (K := K) rfl) (pv 1) pe_int (fun _ _ => rfl)) pe_int)))
      (pss_one (ps_ret (pe_op op_add (pe_op op_add (pe_op op_add (pv 4) (pe_op op_mulW (pe_ix (x_ix (K := K) rfl) (pv 2) pe_int (fun _ _ => rfl)) pe_int)) (pe_op op_mulW (pe_op op_add (pe_op op_mulW (pe_op op_mod (pe_op op_fdivW (pv 3) pe_int) pe_int) pe_int) (pe_op op_mod (pe_op op_fdivW (pv 3) pe_int) pe_int)) pe_int)) (pe_ix (x_ix (K := K) rfl) (pv 2) pe_int (fun _ _ => rfl)))))))))))))), def_run (N := N__law_encoded) (b := b__law_encoded)
    (sim_seq (by exact (sim_if (by exact (sim_test (sim_op so_eq (sim_CB sb_len (sim_cons sim_var sim_nil)) sim_int))) (by exact (sim_ret (sim_ifE (sim_test (sim_op so_eq (sim_op so_ix sim_var sim_int) sim_str)) sim_int sim_int))) (by exact sim_next)))
      (sim_seq (by exact (sim_frz (sim_set (sim_dget sim_var (sim_op so_ix sim_var sim_int)))))
      (sim_seq (by exact (sim_if (by exact (sim_test (sim_op so_eq (sim_op so_ix sim_var sim_int) sim_str))) (by exact (sim_ret (sim_op so_add (sim_op so_add (sim_op so_mul (sim_op so_ix sim_var sim_int) sim_int) (sim_op so_mul (sim_op so_ix sim_var sim_int) sim_int)) (sim_op so_ix sim_var sim_int)))) (by exact sim_next)))
      (sim_seq (by exact (sim_if (by exact (sim_test (sim_op so_eq (sim_op so_ix sim_var sim_int) sim_str))) (by exact (sim_seq (by exact (sim_set (sim_op so_mod (sim_CB sb_int (sim_cons (sim_op so_ix sim_var sim_int) sim_nil)) sim_int)))
      (sim_seq (by exact (sim_set (sim_op so_add (sim_op so_add (sim_op so_mul (sim_op so_div sim_var sim_int) sim_int) (sim_op so_mul (sim_op so_mod (sim_op so_div sim_var sim_int) sim_int) sim_int)) (sim_op so_mul (sim_op so_mod (sim_op so_div sim_var sim_int) sim_int) sim_int))))
      (sim_ret (sim_op so_add (sim_op so_add (sim_op so_mul (sim_op so_add sim_var (sim_op so_mod (sim_op so_div sim_var sim_int) sim_int)) sim_int) (sim_op so_mul (sim_op so_ix sim_var sim_int) sim_int)) (sim_op so_ix sim_var sim_int)))))) (by exact sim_next)))
      (sim_seq (by exact (sim_if (by exact (sim_or (sim_test (sim_op so_eq (sim_op so_ix sim_var sim_int) sim_str)) (sim_test (sim_op so_eq (sim_op so_ix sim_var sim_int) sim_str)))) (by exact (sim_seq (by exact (sim_set (sim_op so_add (sim_op so_add (sim_op so_mul (sim_op so_ix sim_var sim_int) sim_int) (sim_op so_mul (sim_op so_ix sim_var sim_int) sim_int)) (sim_op so_mul (sim_op so_ix sim_var sim_int) sim_int))))
      (sim_ret (sim_op so_add (sim_op so_add (sim_op so_add sim_var (sim_op so_mul (sim_op so_ix sim_var sim_int) sim_int)) (sim_op so_mul (sim_op so_ix sim_var sim_int) sim_int)) (sim_op so_ix sim_var sim_int))))) (by exact sim_next)))
      (sim_seq (by exact (sim_if (by exact (sim_test (sim_op so_eq (sim_op so_ix sim_var sim_int) sim_str))) (by exact (sim_seq (by exact (sim_set (sim_op so_mod (sim_CB sb_int (sim_cons (sim_op so_ix sim_var sim_int) sim_nil)) sim_int)))
      (sim_ret (sim_op so_add (sim_op so_add (sim_op so_add (sim_op so_add (sim_op so_mul sim_var sim_int) (sim_op so_mul (sim_op so_ix sim_var sim_int) sim_int)) (sim_op so_mul (sim_op so_ix sim_var sim_int) sim_int)) (sim_op so_mul (sim_op so_ix sim_var sim_int) sim_int)) (sim_op so_ix sim_var sim_int))))) (by exact sim_next)))
      (sim_seq (by exact (sim_if (by exact (sim_test (sim_op so_eq (sim_op so_ix sim_var sim_int) sim_str))) (by exact (sim_seq (by exact (sim_set (sim_op so_mod (sim_CB sb_int (sim_cons (sim_op so_ix sim_var sim_int) sim_nil)) sim_int)))
      (sim_seq (by exact (sim_set (sim_op so_add (sim_op so_add (sim_op so_add (sim_op so_mul (sim_op so_div sim_var sim_int) sim_int) (sim_op so_mul (sim_op so_ix sim_var sim_int) sim_int)) (sim_op so_mul (sim_op so_ix sim_var sim_int) sim_int)) (sim_op so_mul (sim_op so_ix sim_var sim_int) sim_int))))
      (sim_ret (sim_op so_add (sim_op so_add sim_var (sim_op so_mul (sim_op so_mod sim_var sim_int) sim_int)) (sim_op so_ix sim_var sim_int)))))) (by exact sim_next)))
      (sim_seq (by exact (sim_set (sim_op so_mod (sim_CB sb_int (sim_cons (sim_op so_ix sim_var sim_int) sim_nil)) sim_int)))
      (sim_seq (by exact (sim_set (sim_op so_add (sim_op so_add (sim_op so_mul (sim_op so_add (sim_op so_mul (sim_op so_div sim_var sim_int) sim_int) (sim_op so_mod (sim_op so_div sim_var sim_int) sim_int)) sim_int) (sim_op so_mul (sim_op so_ix sim_var sim_int) sim_int)) (sim_op so_mul (sim_op so_ix sim_var sim_int) sim_int))))
      (sim_ret (sim_op so_add (sim_op so_add (sim_op so_add sim_var (sim_op so_mul (sim_op so_ix sim_var sim_int) sim_int)) (sim_op so_mul (sim_op so_add (sim_op so_mul (sim_op so_mod (sim_op so_div sim_var sim_int) sim_int) sim_int) (sim_op so_mod (sim_op so_div sim_var sim_int) sim_int)) sim_int)) (sim_op so_ix sim_var sim_int)))))))))))) h⟩
theorem ok__law_parts_of {f : Addr} {fd : FuncData} (F : Fun K "_law_parts_of" "_law_parts_of" s__law_parts_of f fd) {f__law_encoded : Addr} {fd__law_encoded : FuncData} (C__law_encoded : Callee P w K mg base 1 f__law_encoded fd__law_encoded "_law_encoded" ["table", "row"] (spM (M.Env.mk K ca fa none) 2 m__law_encoded)) (b_tuple : mg "tuple" = none) : FnOk P w K mg base CX0 2 f fd ["table", "thing"] (spM (M.Env.mk K ca fa none) 2 m__law_parts_of) := by
  refine FnOk.imp (F.ok sc__law_parts_of (sp_len (G := (M.Env.mk K ca fa none)) (m := m__law_parts_of) rfl) (fun cdv A outer s H vs Q E hr h => ?_)) (fun _ _ _ _ h => h)
  have hu := hu_of hr
  exact ⟨_, (pss_cons (ps_set (i := 2) sc__law_parts_of.nd rfl (.inl rfl) (pe_callTy (x_tuple (K := K) rfl) (by rfl) b_tuple (by decide +kernel) (pa_cons (pe_lc (own := [("row", 4)]) (g := gName 4) (tt := tYes) rfl sc__law_parts_of.nd (x_pil (K := K) rfl (pe_dget hu (pv 1) pe_str (fun _ _ => rfl))) (blkOk_by (own := [("row", 4)]) (N := N__law_parts_of) (sc := defScope s__law_parts_of) (by decide +kernel)) (fun _ _ _ _ _ => (pg_name (i := 4) sc__law_parts_of.nd rfl (.inl rfl))) (fun _ _ _ _ _ => pts_nil) (fun _ _ _ _ _ => (pe_call C__law_encoded.ok (hr.mono (by (first | omega | (simp only [Nat.add_eq] at *; omega) | (simp only [Nat.add_eq]; omega)))) (by rfl) C__law_encoded.g C__law_encoded.kp C__law_encoded.b .nil passT (pa_cons (pv 0) (pa_cons (pv 4) pa_nil))))) pa_nil)))
      (pss_cons (ps_setLc (i := 3) (own := [("key", 5)]) (g := gName 5) (tt := tYes) rfl sc__law_parts_of.nd rfl rfl (sw_true rfl rfl rfl (by decide +kernel)) (x_pil (K := K) rfl (pe_lst (pa_cons pe_str (pa_cons pe_str (pa_cons pe_str (pa_cons pe_str (pa_cons pe_str pa_nil))))))) (blkOk_by (own := [("key", 5)]) (N := N__law_parts_of) (sc := defScope s__law_parts_of) (by decide +kernel)) (fun _ _ _ _ _ => (pg_name (i := 5) sc__law_parts_of.nd rfl (.inl rfl))) (fun _ _ _ _ _ => pts_nil) (fun _ _ _ _ _ => (pe_callTy (x_tuple (K := K) rfl) (by rfl) b_tuple (by decide +kernel) (pa_cons (pe_dget hu (pv 1) (pv 5) (fun _ _ => rfl)) pa_nil))))
      (pss_one (ps_ret (pe_tup (pa_cons (pv 2) (pa_cons (pe_ix (x_ix (K := K) rfl) (pv 3) pe_int (fun _ _ => rfl)) (pa_cons (pe_ix (x_ix (K := K) rfl) (pv 3) pe_int (fun _ _ => rfl)) (pa_cons (pe_ix (x_ix (K := K) rfl) (pv 3) pe_int (fun _ _ => rfl)) (pa_cons (pe_ix (x_ix (K := K) rfl) (pv 3) pe_int (fun _ _ => rfl)) (pa_cons (pe_ix (x_ix (K := K) rfl) (pv 3) pe_int (fun _ _ => rfl)) pa_nil))))))))))), def_run (N := N__law_parts_of) (b := b__law_parts_of)
    (sim_seq (by exact (sim_frz (sim_frz (sim_set (sim_CB sb_tuple (sim_cons (sim_lcV (vs := [4]) (by exact (sim_dget sim_var sim_str)) (sim_wName (by decide)) (by exact sim_yes) (by exact (sim_call (sim_cons sim_var (sim_cons sim_var sim_nil))))) sim_nil))))))
      (sim_seq (by exact (sim_set (sim_lc (vs := [5]) (by exact (sim_iLst (sim_lst (sim_cons sim_str (sim_cons sim_str (sim_cons sim_str (sim_cons sim_str (sim_cons sim_str sim_nil)))))))) (sim_wName (by decide)) (by exact sim_yes) (by exact (sim_CB sb_tuple (sim_cons (sim_dget sim_var sim_var) sim_nil))))))
      (sim_frz (sim_ret (sim_tup (sim_cons sim_var (sim_cons (sim_op so_ix sim_var sim_int) (sim_cons (sim_op so_ix sim_var sim_int) (sim_cons (sim_op so_ix sim_var sim_int) (sim_cons (sim_op so_ix sim_var sim_int) (sim_cons (sim_op so_ix sim_var sim_int) sim_nil))))))))))) h⟩
theorem ok_Object___init__ {f : Addr} {fd : FuncData} (F : Fun K "__init__" "Object.__init__" s_Object___init__ f fd) {C_Object : Addr} (hc_Object : ca "Object" = C_Object) (g_Object : mg "Object" = some (.ref C_Object)) (T_Object : TxC K C_Object ["words", "functions", "data", "needs", "places", "marks"]) (b_tuple : mg "tuple" = none) : FnOk P w K mg base CX0 1 f fd ["self", "words", "functions", "data", "needs", "places", "marks"] (spM (M.Env.mk K ca fa none) 7 m_Object___init__) := by
  refine FnOk.imp (F.ok sc_Object___init__ (sp_len (G := (M.Env.mk K ca fa none)) (m := m_Object___init__) rfl) (fun cdv A outer s H vs Q E hr h => ?_)) (fun _ _ _ _ h => h)
  have hu := hu_of hr
  exact ⟨_, (pss_cons (ps_fld (pv 0) (pe_callTy (x_tuple (K := K) rfl) (by rfl) b_tuple (by decide +kernel) (pa_cons (pv 1) pa_nil)) rfl)
      (pss_cons (ps_fld (pv 0) (pe_callTy (x_tuple (K := K) rfl) (by rfl) b_tuple (by decide +kernel) (pa_cons (pv 2) pa_nil)) rfl)
      (pss_cons (ps_fld (pv 0) (pe_callTy (x_tuple (K := K) rfl) (by rfl) b_tuple (by decide +kernel) (pa_cons (pv 3) pa_nil)) rfl)
      (pss_cons (ps_fld (pv 0) (pe_callTy (x_tuple (K := K) rfl) (by rfl) b_tuple (by decide +kernel) (pa_cons (pv 4) pa_nil)) rfl)
      (pss_cons (ps_fld (pv 0) (pe_callTy (x_tuple (K := K) rfl) (by rfl) b_tuple (by decide +kernel) (pa_cons (pv 5) pa_nil)) rfl)
      (pss_one (ps_fld (pv 0) (pe_callTy (x_tuple (K := K) rfl) (by rfl) b_tuple (by decide +kernel) (pa_cons (pv 6) pa_nil)) rfl))))))), def_run (N := N_Object___init__) (b := b_Object___init__)
    (sim_seq (by exact (sim_sfld (c := "Object") (cl_at hc_Object T_Object) (no_at hc_Object T_Object (by simp)) sim_var (sim_CB sb_tuple (sim_cons sim_var sim_nil))))
      (sim_seq (by exact (sim_sfld (c := "Object") (cl_at hc_Object T_Object) (no_at hc_Object T_Object (by simp)) sim_var (sim_CB sb_tuple (sim_cons sim_var sim_nil))))
      (sim_seq (by exact (sim_sfld (c := "Object") (cl_at hc_Object T_Object) (no_at hc_Object T_Object (by simp)) sim_var (sim_CB sb_tuple (sim_cons sim_var sim_nil))))
      (sim_seq (by exact (sim_sfld (c := "Object") (cl_at hc_Object T_Object) (no_at hc_Object T_Object (by simp)) sim_var (sim_CB sb_tuple (sim_cons sim_var sim_nil))))
      (sim_seq (by exact (sim_sfld (c := "Object") (cl_at hc_Object T_Object) (no_at hc_Object T_Object (by simp)) sim_var (sim_CB sb_tuple (sim_cons sim_var sim_nil))))
      (sim_sfld (c := "Object") (cl_at hc_Object T_Object) (no_at hc_Object T_Object (by simp)) sim_var (sim_CB sb_tuple (sim_cons sim_var sim_nil)))))))) h⟩
theorem ok__law_object {f : Addr} {fd : FuncData} (F : Fun K "_law_object" "_law_object" s__law_object f fd) {C_Object : Addr} (hc_Object : ca "Object" = C_Object) (g_Object : mg "Object" = some (.ref C_Object)) (T_Object : TxC K C_Object ["words", "functions", "data", "needs", "places", "marks"]) {f_Object___init__ : Addr} {fd_Object___init__ : FuncData} (C_Object___init__ : CalleeM P w K mg base 1 f_Object___init__ fd_Object___init__ ["self", "words", "functions", "data", "needs", "places", "marks"] (spM (M.Env.mk K ca fa none) 7 m_Object___init__)) (K_Object : Mk K C_Object f_Object___init__) : FnOk P w K mg base CX0 3 f fd ["due"] (spM (M.Env.mk K ca fa none) 1 m__law_object) := by
  refine FnOk.imp (F.ok sc__law_object (sp_len (G := (M.Env.mk K ca fa none)) (m := m__law_object) rfl) (fun cdv A outer s H vs Q E hr h => ?_)) (fun _ _ _ _ h => h)
  have hu := hu_of hr
  exact ⟨_, (pss_one (ps_ret (pe_make K_Object C_Object___init__.ok (hr.mono (by (first | omega | (simp only [Nat.add_eq] at *; omega) | (simp only [Nat.add_eq]; omega)))) (by rfl) g_Object C_Object___init__.b .nil (passT) (pa_cons (pe_ix (x_ix (K := K) rfl) (pv 0) pe_int (fun _ _ => rfl)) (pa_cons (pe_ix (x_ix (K := K) rfl) (pv 0) pe_int (fun _ _ => rfl)) (pa_cons (pe_ix (x_ix (K := K) rfl) (pv 0) pe_int (fun _ _ => rfl)) (pa_cons (pe_ix (x_ix (K := K) rfl) (pv 0) pe_int (fun _ _ => rfl)) (pa_cons (pe_ix (x_ix (K := K) rfl) (pv 0) pe_int (fun _ _ => rfl)) (pa_cons (pe_ix (x_ix (K := K) rfl) (pv 0) pe_int (fun _ _ => rfl)) pa_nil))))))))), def_run (N := N__law_object) (b := b__law_object)
    (sim_ret (sim_make hc_Object (sim_cons (sim_op so_ix sim_var sim_int) (sim_cons (sim_op so_ix sim_var sim_int) (sim_cons (sim_op so_ix sim_var sim_int) (sim_cons (sim_op so_ix sim_var sim_int) (sim_cons (sim_op so_ix sim_var sim_int) (sim_cons (sim_op so_ix sim_var sim_int) sim_nil)))))))) h⟩
theorem ok__law_sum {f : Addr} {fd : FuncData} (F : Fun K "_law_sum" "_law_sum" s__law_sum f fd) (b_len : mg "len" = none) (b_tuple : mg "tuple" = none) : FnOk P w K mg base CX0 1 f fd ["a", "b"] (spM (M.Env.mk K ca fa none) 2 m__law_sum) := by
  refine FnOk.imp (F.ok sc__law_sum (sp_len (G := (M.Env.mk K ca fa none)) (m := m__law_sum) rfl) (fun cdv A outer s H vs Q E hr h => ?_)) (fun _ _ _ _ h => h)
  have hu := hu_of hr
  exact ⟨_, (pss_cons (ps_set (i := 2) sc__law_sum.nd rfl (.inr rfl) (pe_callB (x_len (K := K) rfl) (by rfl) b_len (by decide +kernel) (pa_cons (pe_ix (x_ix (K := K) rfl) (pv 0) pe_int (fun _ _ => rfl)) pa_nil)))
      (pss_cons (ps_setLc (i := 3) (own := [("one", 8)]) (g := gName 8) (tt := tYes) rfl sc__law_sum.nd rfl rfl (sw_true rfl rfl rfl (by decide +kernel)) (x_pit (K := K) rfl (pe_ix (x_ix (K := K) rfl) (pv 1) pe_int (fun _ _ => rfl))) (blkOk_by (own := [("one", 8)]) (N := N__law_sum) (sc := defScope s__law_sum) (by decide +kernel)) (fun _ _ _ _ _ => (pg_name (i := 8) sc__law_sum.nd rfl (.inl rfl))) (fun _ _ _ _ _ => pts_nil) (fun _ _ _ _ _ => (pe_tup (pa_cons (pe_ix (x_ix (K := K) rfl) (pv 8) pe_int (fun _ _ => rfl)) (pa_cons (pe_op op_add (pe_ix (x_ix (K := K) rfl) (pv 8) pe_int (fun _ _ => rfl)) (pv 2)) (pa_cons (pe_ix (x_ix (K := K) rfl) (pv 8) pe_int (fun _ _ => rfl)) (pa_cons (pe_ix (x_ix (K := K) rfl) (pv 8) pe_int (fun _ _ => rfl)) pa_nil)))))))
      (pss_cons (ps_setLc (i := 4) (own := [("one", 8)]) (g := gName 8) rfl sc__law_sum.nd rfl rfl (sw_true rfl rfl rfl (by decide +kernel)) (x_pit (K := K) rfl (pe_ix (x_ix (K := K) rfl) (pv 1) pe_int (fun _ _ => rfl))) (blkOk_by (own := [("one", 8)]) (N := N__law_sum) (sc := defScope s__law_sum) (by decide +kernel)) (fun _ _ _ _ _ => (pg_name (i := 8) sc__law_sum.nd rfl (.inl rfl))) (fun _ _ _ _ _ => (pts_one (pt_cmpR (x_ninT (K := K) rfl (hu65 hr)) (pv 8) (pe_ix (x_ix (K := K) rfl) (pv 0) pe_int (fun _ _ => rfl)) rfl))) (fun _ _ _ _ _ => (pv 8)))
      (pss_cons (ps_setLc (i := 5) (own := [("one", 8)]) (g := gName 8) (tt := tYes) rfl sc__law_sum.nd rfl rfl (sw_true rfl rfl rfl (by decide +kernel)) (x_pit (K := K) rfl (pe_ix (x_ix (K := K) rfl) (pv 1) pe_int (fun _ _ => rfl))) (blkOk_by (own := [("one", 8)]) (N := N__law_sum) (sc := defScope s__law_sum) (by decide +kernel)) (fun _ _ _ _ _ => (pg_name (i := 8) sc__law_sum.nd rfl (.inl rfl))) (fun _ _ _ _ _ => pts_nil) (fun _ _ _ _ _ => (pe_tup (pa_cons (pe_op op_add (pe_ix (x_ix (K := K) rfl) (pv 8) pe_int (fun _ _ => rfl)) (pv 2)) (pa_cons (pe_ix (x_ix (K := K) rfl) (pv 8) pe_int (fun _ _ => rfl)) (pa_cons (pe_ix (x_ix (K := K) rfl) (pv 8) pe_int (fun _ _ => rfl)) pa_nil))))))
      (pss_cons (ps_setLc (i := 6) (own := [("one", 8)]) (g := gName 8) (tt := tYes) rfl sc__law_sum.nd rfl rfl (sw_true rfl rfl rfl (by decide +kernel)) (x_pit (K := K) rfl (pe_ix (x_ix (K := K) rfl) (pv 1) pe_int (fun _ _ => rfl))) (blkOk_by (own := [("one", 8)]) (N := N__law_sum) (sc := defScope s__law_sum) (by decide +kernel)) (fun _ _ _ _ _ => (pg_name (i := 8) sc__law_sum.nd rfl (.inl rfl))) (fun _ _ _ _ _ => pts_nil) (fun _ _ _ _ _ => (pe_tup (pa_cons (pe_op op_add (pe_ix (x_ix (K := K) rfl) (pv 8) pe_int (fun _ _ => rfl)) (pv 2)) (pa_cons (pe_ix (x_ix (K := K) rfl) (pv 8) pe_int (fun _ _ => rfl)) (pa_cons (pe_ix (x_ix (K := K) rfl) (pv 8) pe_int (fun _ _ => rfl)) pa_nil))))))
      (pss_cons (ps_set (i := 7) sc__law_sum.nd rfl (.inl rfl) (pe_tup (pa_cons (pe_op (x_catA (K := K) rfl) (pe_ix (x_ix (K := K) rfl) (pv 0) pe_int (fun _ _ => rfl)) (pe_ix (x_ix (K := K) rfl) (pv 1) pe_int (fun _ _ => rfl))) (pa_cons (pe_op (x_catA (K := K) rfl) (pe_ix (x_ix (K := K) rfl) (pv 0) pe_int (fun _ _ => rfl)) (pe_callTy (x_tuple (K := K) rfl) (by rfl) b_tuple (by decide +kernel) (pa_cons (pv 3) pa_nil))) (pa_cons (pe_op (x_catA (K := K) rfl) (pe_ix (x_ix (K := K) rfl) (pv 0) pe_int (fun _ _ => rfl)) (pe_ix (x_ix (K := K) rfl) (pv 1) pe_int (fun _ _ => rfl))) pa_nil)))))
      (pss_cons (ps_set (i := 7) sc__law_sum.nd rfl (.inl rfl) (pe_op (x_catA (K := K) rfl) (pv 7) (pe_tup (pa_cons (pe_op (x_catA (K := K) rfl) (pe_ix (x_ix (K := K) rfl) (pv 0) pe_int (fun _ _ => rfl)) (pe_callTy (x_tuple (K := K) rfl) (by rfl) b_tuple (by decide +kernel) (pa_cons (pv 4) pa_nil))) pa_nil))))
      (pss_one (ps_ret (pe_op (x_catA (K := K) rfl) (pv 7) (pe_tup (pa_cons (pe_op (x_catA (K := K) rfl) (pe_ix (x_ix (K := K) rfl) (pv 0) pe_int (fun _ _ => rfl)) (pe_callTy (x_tuple (K := K) rfl) (by rfl) b_tuple (by decide +kernel) (pa_cons (pv 5) pa_nil))) (pa_cons (pe_op (x_catA (K := K) rfl) (pe_ix (x_ix (K := K) rfl) (pv 0) pe_int (fun _ _ => rfl)) (pe_callTy (x_tuple (K := K) rfl) (by rfl) b_tuple (by decide +kernel) (pa_cons (pv 6) pa_nil))) pa_nil))))))))))))), def_run (N := N__law_sum) (b := b__law_sum)
    (sim_seq (by exact (sim_set (sim_CB sb_len (sim_cons (sim_op so_ix sim_var sim_int) sim_nil))))
      (sim_seq (by exact (sim_set (sim_lc (vs := [8]) (by exact (sim_iTup (sim_op so_ix sim_var sim_int))) (sim_wName (by decide)) (by exact sim_yes) (by exact (sim_tup (sim_cons (sim_op so_ix sim_var sim_int) (sim_cons (sim_op so_add (sim_op so_ix sim_var sim_int) sim_var) (sim_cons (sim_op so_ix sim_var sim_int) (sim_cons (sim_op so_ix sim_var sim_int) sim_nil)))))))))
      (sim_seq (by exact (sim_set (sim_lc (vs := [8]) (by exact (sim_iTup (sim_op so_ix sim_var sim_int))) (sim_wName (by decide)) (by exact (sim_test (sim_op so_ninT sim_var (sim_op so_ix sim_var sim_int)))) (by exact sim_var))))
      (sim_seq (by exact (sim_set (sim_lc (vs := [8]) (by exact (sim_iTup (sim_op so_ix sim_var sim_int))) (sim_wName (by decide)) (by exact sim_yes) (by exact (sim_tup (sim_cons (sim_op so_add (sim_op so_ix sim_var sim_int) sim_var) (sim_cons (sim_op so_ix sim_var sim_int) (sim_cons (sim_op so_ix sim_var sim_int) sim_nil))))))))
      (sim_seq (by exact (sim_set (sim_lc (vs := [8]) (by exact (sim_iTup (sim_op so_ix sim_var sim_int))) (sim_wName (by decide)) (by exact sim_yes) (by exact (sim_tup (sim_cons (sim_op so_add (sim_op so_ix sim_var sim_int) sim_var) (sim_cons (sim_op so_ix sim_var sim_int) (sim_cons (sim_op so_ix sim_var sim_int) sim_nil))))))))
      (sim_seq (by exact (sim_frz (sim_set (sim_tup (sim_cons (sim_op so_catA (sim_op so_ix sim_var sim_int) (sim_op so_ix sim_var sim_int)) (sim_cons (sim_op so_catA (sim_op so_ix sim_var sim_int) (sim_CB sb_tuple (sim_cons sim_var sim_nil))) (sim_cons (sim_op so_catA (sim_op so_ix sim_var sim_int) (sim_op so_ix sim_var sim_int)) sim_nil)))))))
      (sim_seq (by exact (sim_frz (sim_set (sim_op so_catA sim_var (sim_tup (sim_cons (sim_op so_catA (sim_op so_ix sim_var sim_int) (sim_CB sb_tuple (sim_cons sim_var sim_nil))) sim_nil))))))
      (sim_frz (sim_frz (sim_ret (sim_op so_catA sim_var (sim_tup (sim_cons (sim_op so_catA (sim_op so_ix sim_var sim_int) (sim_CB sb_tuple (sim_cons sim_var sim_nil))) (sim_cons (sim_op so_catA (sim_op so_ix sim_var sim_int) (sim_CB sb_tuple (sim_cons sim_var sim_nil))) sim_nil)))))))))))))) h⟩
theorem ok_Object___add__ {f : Addr} {fd : FuncData} (F : Fun K "__add__" "Object.__add__" s_Object___add__ f fd) {C_Object : Addr} (hc_Object : ca "Object" = C_Object) (g_Object : mg "Object" = some (.ref C_Object)) (T_Object : TxC K C_Object ["words", "functions", "data", "needs", "places", "marks"]) {f_Object___init__ : Addr} {fd_Object___init__ : FuncData} (C_Object___init__ : CalleeM P w K mg base 1 f_Object___init__ fd_Object___init__ ["self", "words", "functions", "data", "needs", "places", "marks"] (spM (M.Env.mk K ca fa none) 7 m_Object___init__)) (K_Object : Mk K C_Object f_Object___init__) (b_len : mg "len" = none) : FnOk P w K mg base CX0 3 f fd ["self", "other"] (spM (M.Env.mk K ca fa none) 2 m_Object___add__) := by
  refine FnOk.imp (F.ok sc_Object___add__ (sp_len (G := (M.Env.mk K ca fa none)) (m := m_Object___add__) rfl) (fun cdv A outer s H vs Q E hr h => ?_)) (fun _ _ _ _ h => h)
  have hu := hu_of hr
  exact ⟨_, (pss_cons (ps_set (i := 2) sc_Object___add__.nd rfl (.inr rfl) (pe_callB (x_len (K := K) rfl) (by rfl) b_len (by decide +kernel) (pa_cons (x_fld (K := K) rfl (pv 0) rfl) pa_nil)))
      (pss_cons (ps_setLc (i := 3) (own := [("name", 8), ("start", 9), ("params", 10), ("frame", 11)]) (g := gTup K 4 (gCons (gName 8) (gCons (gName 9) (gCons (gName 10) (gCons (gName 11) gNil))))) (tt := tYes) rfl sc_Object___add__.nd rfl rfl (sw_true rfl rfl rfl (by decide +kernel)) (x_pit (K := K) rfl (x_fld (K := K) rfl (pv 1) rfl)) (blkOk_by (own := [("name", 8), ("start", 9), ("params", 10), ("frame", 11)]) (N := N_Object___add__) (sc := defScope s_Object___add__) (by decide +kernel)) (fun _ _ _ _ _ => (pg_tup rfl (pgs_cons (pg_name (i := 8) sc_Object___add__.nd rfl (.inl rfl)) (pgs_cons (pg_name (i := 9) sc_Object___add__.nd rfl (.inl rfl)) (pgs_cons (pg_name (i := 10) sc_Object___add__.nd rfl (.inl rfl)) (pgs_cons (pg_name (i := 11) sc_Object___add__.nd rfl (.inl rfl)) pgs_nil)))))) (fun _ _ _ _ _ => pts_nil) (fun _ _ _ _ _ => (pe_tup (pa_cons (pv 8) (pa_cons (pe_op op_add (pv 9) (pv 2)) (pa_cons (pv 10) (pa_cons (pv 11) pa_nil)))))))
      (pss_cons (ps_setLc (i := 4) (own := [("index", 12), ("kind", 13), ("name", 8)]) (g := gTup K 3 (gCons (gName 12) (gCons (gName 13) (gCons (gName 8) gNil)))) (tt := tYes) rfl sc_Object___add__.nd rfl rfl (sw_true rfl rfl rfl (by decide +kernel)) (x_pit (K := K) rfl (x_fld (K := K) rfl (pv 1) rfl)) (blkOk_by (own := [("index", 12), ("kind", 13), ("name", 8)]) (N := N_Object___add__) (sc := defScope s_Object___add__) (by decide +kernel)) (fun _ _ _ _ _ => (pg_tup rfl (pgs_cons (pg_name (i := 12) sc_Object___add__.nd rfl (.inl rfl)) (pgs_cons (pg_name (i := 13) sc_Object___add__.nd rfl (.inl rfl)) (pgs_cons (pg_name (i := 8) sc_Object___add__.nd rfl (.inl rfl)) pgs_nil))))) (fun _ _ _ _ _ => pts_nil) (fun _ _ _ _ _ => (pe_tup (pa_cons (pe_op op_add (pv 12) (pv 2)) (pa_cons (pv 13) (pa_cons (pv 8) pa_nil))))))
      (pss_cons (ps_setLc (i := 5) (own := [("index", 12), ("kind", 13), ("chain", 14)]) (g := gTup K 3 (gCons (gName 12) (gCons (gName 13) (gCons (gName 14) gNil)))) (tt := tYes) rfl sc_Object___add__.nd rfl rfl (sw_true rfl rfl rfl (by decide +kernel)) (x_pit (K := K) rfl (x_fld (K := K) rfl (pv 1) rfl)) (blkOk_by (own := [("index", 12), ("kind", 13), ("chain", 14)]) (N := N_Object___add__) (sc := defScope s_Object___add__) (by decide +kernel)) (fun _ _ _ _ _ => (pg_tup rfl (pgs_cons (pg_name (i := 12) sc_Object___add__.nd rfl (.inl rfl)) (pgs_cons (pg_name (i := 13) sc_Object___add__.nd rfl (.inl rfl)) (pgs_cons (pg_name (i := 14) sc_Object___add__.nd rfl (.inl rfl)) pgs_nil))))) (fun _ _ _ _ _ => pts_nil) (fun _ _ _ _ _ => (pe_tup (pa_cons (pe_op op_add (pv 12) (pv 2)) (pa_cons (pv 13) (pa_cons (pv 14) pa_nil))))))
      (pss_cons (ps_set (i := 6) sc_Object___add__.nd rfl (.inr rfl) (DCT.pe_dcT (own := [("need", 15)]) (g := gName 15) (tt := tYes) rfl sc_Object___add__.nd hu (x_pit (K := K) rfl (x_fld (K := K) rfl (pv 0) rfl)) (blkOk_by (own := [("need", 15)]) (N := N_Object___add__) (sc := defScope s_Object___add__) (by decide +kernel)) (fun _ _ _ _ _ => (pg_name (i := 15) sc_Object___add__.nd rfl (.inl rfl))) (fun _ _ _ _ _ => pts_nil) (fun _ _ _ _ _ => (pv 15)) (fun _ _ _ _ _ => pe_bl)))
      (pss_cons (ps_setLc (i := 7) (own := [("need", 15)]) (g := gName 15) rfl sc_Object___add__.nd rfl rfl (sw_true rfl rfl rfl (by decide +kernel)) (x_pit (K := K) rfl (x_fld (K := K) rfl (pv 1) rfl)) (blkOk_by (own := [("need", 15)]) (N := N_Object___add__) (sc := defScope s_Object___add__) (by decide +kernel)) (fun _ _ _ _ _ => (pg_name (i := 15) sc_Object___add__.nd rfl (.inl rfl))) (fun _ _ _ _ _ => (pts_one (pt_cmp (pc_dnotin hu (pv 15) (pv 6))))) (fun _ _ _ _ _ => (pv 15)))
      (pss_one (ps_ret (pe_make K_Object C_Object___init__.ok (hr.mono (by (first | omega | (simp only [Nat.add_eq] at *; omega) | (simp only [Nat.add_eq]; omega)))) (by rfl) g_Object C_Object___init__.b .nil (passT) (pa_cons (pe_tup (x_star (K := K) rfl (x_fld (K := K) rfl (pv 0) rfl) (x_star (K := K) rfl (x_fld (K := K) rfl (pv 1) rfl) pa_nil))) (pa_cons (pe_tup (x_star (K := K) rfl (x_fld (K := K) rfl (pv 0) rfl) (x_star (K := K) rfl (pv 3) pa_nil))) (pa_cons (pe_tup (x_star (K := K) rfl (x_fld (K := K) rfl (pv 0) rfl) (x_star (K := K) rfl (x_fld (K := K) rfl (pv 1) rfl) pa_nil))) (pa_cons (pe_tup (x_star (K := K) rfl (x_fld (K := K) rfl (pv 0) rfl) (x_star (K := K) rfl (pv 7) pa_nil))) (pa_cons (pe_tup (x_star (K := K) rfl (x_fld (K := K) rfl (pv 0) rfl) (x_star (K := K) rfl (pv 4) pa_nil))) (pa_cons (pe_tup (x_star (K := K) rfl (x_fld (K := K) rfl (pv 0) rfl) (x_star (K := K) rfl (pv 5) pa_nil))) pa_nil))))))))))))))), def_run (N := N_Object___add__) (b := b_Object___add__)
    (sim_seq (by exact (sim_frz (sim_set (sim_CB sb_len (sim_cons (sim_fld (c := "Object") (cl_at hc_Object T_Object) (no_at hc_Object T_Object (by simp)) sim_var) sim_nil)))))
      (sim_seq (by exact (sim_frz (sim_set (sim_lc (vs := [8, 9, 10, 11]) (by exact (sim_iTup (sim_fld (c := "Object") (cl_at hc_Object T_Object) (no_at hc_Object T_Object (by simp)) sim_var))) (sim_wTup (sim_wCons (sim_wName (by decide)) (sim_wCons (sim_wName (by decide)) (sim_wCons (sim_wName (by decide)) (sim_wCons (sim_wName (by decide)) sim_wNil))))) (by exact sim_yes) (by exact (sim_tup (sim_cons sim_var (sim_cons (sim_op so_add sim_var sim_var) (sim_cons sim_var (sim_cons sim_var sim_nil))))))))))
      (sim_seq (by exact (sim_set (sim_lc (vs := [12, 13, 8]) (by exact (sim_iTup (sim_fld (c := "Object") (cl_at hc_Object T_Object) (no_at hc_Object T_Object (by simp)) sim_var))) (sim_wTup (sim_wCons (sim_wName (by decide)) (sim_wCons (sim_wName (by decide)) (sim_wCons (sim_wName (by decide)) sim_wNil)))) (by exact sim_yes) (by exact (sim_tup (sim_cons (sim_op so_add sim_var sim_var) (sim_cons sim_var (sim_cons sim_var sim_nil))))))))
      (sim_seq (by exact (sim_set (sim_lc (vs := [12, 13, 14]) (by exact (sim_iTup (sim_fld (c := "Object") (cl_at hc_Object T_Object) (no_at hc_Object T_Object (by simp)) sim_var))) (sim_wTup (sim_wCons (sim_wName (by decide)) (sim_wCons (sim_wName (by decide)) (sim_wCons (sim_wName (by decide)) sim_wNil)))) (by exact sim_yes) (by exact (sim_tup (sim_cons (sim_op so_add sim_var sim_var) (sim_cons sim_var (sim_cons sim_var sim_nil))))))))
      (sim_seq (by exact (sim_set (sim_dcT (vs := [15]) (by exact (sim_iTup (sim_fld (c := "Object") (cl_at hc_Object T_Object) (no_at hc_Object T_Object (by simp)) sim_var))) (sim_wName (by decide)) (by exact sim_yes) (by exact sim_var) (by exact sim_bl))))
      (sim_seq (by exact (sim_frz (sim_set (sim_lc (vs := [15]) (by exact (sim_iTup (sim_fld (c := "Object") (cl_at hc_Object T_Object) (no_at hc_Object T_Object (by simp)) sim_var))) (sim_wName (by decide)) (by exact (sim_B (sim_dnin sim_var sim_var))) (by exact sim_var)))))
      (sim_frz (sim_frz (sim_frz (sim_frz (sim_ret (sim_make hc_Object (sim_cons (sim_tup (sim_star (sim_fld (c := "Object") (cl_at hc_Object T_Object) (no_at hc_Object T_Object (by simp)) sim_var) (sim_star (sim_fld (c := "Object") (cl_at hc_Object T_Object) (no_at hc_Object T_Object (by simp)) sim_var) sim_nil))) (sim_cons (sim_tup (sim_star (sim_fld (c := "Object") (cl_at hc_Object T_Object) (no_at hc_Object T_Object (by simp)) sim_var) (sim_star sim_var sim_nil))) (sim_cons (sim_tup (sim_star (sim_fld (c := "Object") (cl_at hc_Object T_Object) (no_at hc_Object T_Object (by simp)) sim_var) (sim_star (sim_fld (c := "Object") (cl_at hc_Object T_Object) (no_at hc_Object T_Object (by simp)) sim_var) sim_nil))) (sim_cons (sim_tup (sim_star (sim_fld (c := "Object") (cl_at hc_Object T_Object) (no_at hc_Object T_Object (by simp)) sim_var) (sim_star sim_var sim_nil))) (sim_cons (sim_tup (sim_star (sim_fld (c := "Object") (cl_at hc_Object T_Object) (no_at hc_Object T_Object (by simp)) sim_var) (sim_star sim_var sim_nil))) (sim_cons (sim_tup (sim_star (sim_fld (c := "Object") (cl_at hc_Object T_Object) (no_at hc_Object T_Object (by simp)) sim_var) (sim_star sim_var sim_nil))) sim_nil)))))))))))))))))) h⟩
theorem ok__law_alike (nonfa : ∀ a, fa a ≠ .non) {f__law_alike : Addr} {fd__law_alike : FuncData} (F__law_alike : Fun K "_law_alike" "_law_alike" s__law_alike f__law_alike fd__law_alike) (B__law_alike : Binds K fd__law_alike ["a", "b"] []) (kp__law_alike : PySem.W.keepIn K (.ref f__law_alike) = true) (gg__law_alike : mg "_law_alike" = some (.ref f__law_alike)) (b_isinstance : mg "isinstance" = none) (b_list : mg "list" = none) (b_tuple : mg "tuple" = none) (b_len : mg "len" = none) (b_range : mg "range" = none) (b_str : mg "str" = none) (b_int : mg "int" = none) (b_bool : mg "bool" = none) : ∀ n : Nat, FnOk P w K mg base CX0 (1 + n) f__law_alike fd__law_alike ["a", "b"] (spM (M.Env.mk K ca fa none) 2 (r__law_alike n)) := by
  intro n
  induction n with
  | zero => exact fn_bad rfl
  | succ n ih =>
  have ih__law_alike := ih
  have C__law_alike : Callee P w K mg base (1 + n) f__law_alike fd__law_alike "_law_alike" ["a", "b"] (spM (M.Env.mk K ca fa none) 2 (r__law_alike n)) := ⟨ih__law_alike, kp__law_alike, B__law_alike, gg__law_alike⟩
  refine FnOk.imp (F__law_alike.ok sc__law_alike (sp_len (G := (M.Env.mk K ca fa none)) (m := r__law_alike (n + 1)) rfl) (fun cdv A outer s H vs Q E hr h => ?_)) (fun _ _ _ _ h => h)
  have hu := hu_of hr
  exact ⟨_, (pss_cons (ps_if (x_tru (K := K) rfl (pe_callB (x_isiT (K := K) rfl) (by rfl) b_isinstance (by decide +kernel) (pa_cons (pv 1) (pa_cons (pe_tup (pa_cons (pe_bltn (v := .ty "tuple") (by rfl) b_tuple (by decide +kernel) rfl) (pa_cons (pe_bltn (v := .ty "list") (by rfl) b_list (by decide +kernel) rfl) pa_nil))) pa_nil))) (by intro _; rfl)) (pss_cons (ps_if (PW.pt (pw_and (x_tru (K := K) rfl (pe_callB (x_isi (K := K) rfl) (by rfl) b_isinstance (by decide +kernel) (pa_cons (pv 1) (pa_cons (pe_bltn (v := .ty "tuple") (by rfl) b_tuple (by decide +kernel) rfl) pa_nil))) (by intro _; rfl)) (pw_and1 (pt_not (x_tru (K := K) rfl (pe_callB (x_isi (K := K) rfl) (by rfl) b_isinstance (by decide +kernel) (pa_cons (pv 0) (pa_cons (pe_bltn (v := .ty "tuple") (by rfl) b_tuple (by decide +kernel) rfl) pa_nil))) (by intro _; rfl)))))) (pss_one (ps_ret pe_bl)) pss_nil)
      (pss_cons (ps_if (PW.pt (pw_and (x_tru (K := K) rfl (pe_callB (x_isi (K := K) rfl) (by rfl) b_isinstance (by decide +kernel) (pa_cons (pv 1) (pa_cons (pe_bltn (v := .ty "list") (by rfl) b_list (by decide +kernel) rfl) pa_nil))) (by intro _; rfl)) (pw_and1 (pt_not (x_tru (K := K) rfl (pe_callB (x_isi (K := K) rfl) (by rfl) b_isinstance (by decide +kernel) (pa_cons (pv 0) (pa_cons (pe_bltn (v := .ty "list") (by rfl) b_list (by decide +kernel) rfl) pa_nil))) (by intro _; rfl)))))) (pss_one (ps_ret pe_bl)) pss_nil)
      (pss_cons (ps_if (pt_cmpR (x_ne (K := K) rfl hr.units) (pe_callB (x_len (K := K) rfl) (by rfl) b_len (by decide +kernel) (pa_cons (pv 0) pa_nil)) (pe_callB (x_len (K := K) rfl) (by rfl) b_len (by decide +kernel) (pa_cons (pv 1) pa_nil)) (nomark _)) (pss_one (ps_ret pe_bl)) pss_nil)
      (pss_cons (ps_for PassesOwn.never rfl (pi_range1 (by rfl) b_range (pa_cons (pe_callB (x_len (K := K) rfl) (by rfl) b_len (by decide +kernel) (pa_cons (pv 1) pa_nil)) pa_nil)) (pg_name (i := 2) sc__law_alike.nd rfl (.inl rfl)) (pss_one (ps_if (pt_not (x_tru (K := K) rfl (pe_call C__law_alike.ok (hr.mono (by (first | omega | (simp only [Nat.add_eq] at *; omega) | (simp only [Nat.add_eq]; omega)))) (by rfl) C__law_alike.g C__law_alike.kp C__law_alike.b .nil passT (pa_cons (pe_ix (x_ix (K := K) rfl) (pv 0) (pv 2) (fun _ _ => rfl)) (pa_cons (pe_ix (x_ix (K := K) rfl) (pv 1) (pv 2) (fun _ _ => rfl)) pa_nil))) (by intro _; rfl))) (pss_one (ps_ret pe_bl)) pss_nil)))
      (pss_one (ps_ret pe_bl)))))) pss_nil)
      (pss_cons (ps_if (pt_cmp (pc_isN (pv 1))) (pss_one (ps_ret (pe_cmp (pc_isN (pv 0))))) pss_nil)
      (pss_cons (ps_if (pt_cmpR ISW.op_is (pv 1) pe_bl (nomark _)) (pss_one (ps_ret (pe_cmpR op_isBl (pv 0) pe_bl (nomark _)))) pss_nil)
      (pss_cons (ps_if (pt_cmpR ISW.op_is (pv 1) pe_bl (nomark _)) (pss_one (ps_ret (pe_cmpR op_isBl (pv 0) pe_bl (nomark _)))) pss_nil)
      (pss_cons (ps_if (x_tru (K := K) rfl (pe_callB (x_isi (K := K) rfl) (by rfl) b_isinstance (by decide +kernel) (pa_cons (pv 1) (pa_cons (pe_bltn (v := .ty "str") (by rfl) b_str (by decide +kernel) rfl) pa_nil))) (by intro _; rfl)) (pss_one (ps_ret (pe_and (pe_callB (x_isi (K := K) rfl) (by rfl) b_isinstance (by decide +kernel) (pa_cons (pv 0) (pa_cons (pe_bltn (v := .ty "str") (by rfl) b_str (by decide +kernel) rfl) pa_nil))) (pe_one (pe_cmpR (x_eq (K := K) rfl hr.units) (pv 0) (pv 1) (nomark _)))))) pss_nil)
      (pss_one (ps_ret (pe_and (pe_callB (x_isi (K := K) rfl) (by rfl) b_isinstance (by decide +kernel) (pa_cons (pv 0) (pa_cons (pe_bltn (v := .ty "int") (by rfl) b_int (by decide +kernel) rfl) pa_nil))) (pe_and (pe_not (pe_callB (x_isi (K := K) rfl) (by rfl) b_isinstance (by decide +kernel) (pa_cons (pv 0) (pa_cons (pe_bltn (v := .ty "bool") (by rfl) b_bool (by decide +kernel) rfl) pa_nil)))) (pe_one (pe_cmpR (x_eq (K := K) rfl hr.units) (pv 0) (pv 1) (nomark _)))))))))))), def_run (N := N__law_alike) (b := b__law_alike (r__law_alike n))
    (sim_seq (by exact (sim_if (by exact (sim_tru (sim_isiT (ns := ["tuple", "list"]) (by decide) sim_var (.cons (.cons .nil))))) (by exact (sim_seq (by exact (sim_if (by exact (sim_and (sim_tru (sim_isi sim_var)) (sim_not (sim_tru (sim_isi sim_var))))) (by exact (sim_ret sim_bl)) (by exact sim_next)))
      (sim_seq (by exact (sim_if (by exact (sim_and (sim_tru (sim_isi sim_var)) (sim_not (sim_tru (sim_isi sim_var))))) (by exact (sim_ret sim_bl)) (by exact sim_next)))
      (sim_seq (by exact (sim_if (by exact (sim_test (sim_op so_ne (sim_CB sb_len (sim_cons sim_var sim_nil)) (sim_CB sb_len (sim_cons sim_var sim_nil))))) (by exact (sim_ret sim_bl)) (by exact sim_next)))
      (sim_seq (by exact (sim_for (by exact (sim_rng1 (sim_cons (sim_CB sb_len (sim_cons sim_var sim_nil)) sim_nil))) sim_gName (by exact (sim_if (by exact (sim_not (sim_tru (sim_call (sim_cons (sim_op so_ix sim_var sim_var) (sim_cons (sim_op so_ix sim_var sim_var) sim_nil)))))) (by exact (sim_ret sim_bl)) (by exact sim_next)))))
      (sim_ret sim_bl)))))) (by exact sim_next)))
      (sim_seq (by exact (sim_if (by exact (sim_B (sim_isN nonfa sim_var))) (by exact (sim_ret (sim_isN nonfa sim_var))) (by exact sim_next)))
      (sim_seq (by exact (sim_if (by exact (sim_test (sim_op so_isW sim_var sim_bl))) (by exact (sim_ret (sim_op so_isB sim_var sim_bl))) (by exact sim_next)))
      (sim_seq (by exact (sim_if (by exact (sim_test (sim_op so_isW sim_var sim_bl))) (by exact (sim_ret (sim_op so_isB sim_var sim_bl))) (by exact sim_next)))
      (sim_seq (by exact (sim_if (by exact (sim_tru (sim_isi sim_var))) (by exact (sim_ret (sim_andV (sim_isi sim_var) (sim_op so_eq sim_var sim_var)))) (by exact sim_next)))
      (sim_ret (sim_andV (sim_isi sim_var) (sim_andV (sim_notV (sim_isi sim_var)) (sim_op so_eq sim_var sim_var))))))))) h⟩
theorem ok_Object_parts {f : Addr} {fd : FuncData} (F : Fun K "parts" "Object.parts" s_Object_parts f fd) {C_Object : Addr} (hc_Object : ca "Object" = C_Object) (g_Object : mg "Object" = some (.ref C_Object)) (T_Object : TxC K C_Object ["words", "functions", "data", "needs", "places", "marks"]) : FnOk P w K mg base CX0 1 f fd ["self"] (spM (M.Env.mk K ca fa none) 1 m_Object_parts) := by
  refine FnOk.imp (F.ok sc_Object_parts (sp_len (G := (M.Env.mk K ca fa none)) (m := m_Object_parts) rfl) (fun cdv A outer s H vs Q E hr h => ?_)) (fun _ _ _ _ h => h)
  have hu := hu_of hr
  exact ⟨_, (pss_one (ps_ret (pe_tup (pa_cons (x_fld (K := K) rfl (pv 0) rfl) (pa_cons (x_fld (K := K) rfl (pv 0) rfl) (pa_cons (x_fld (K := K) rfl (pv 0) rfl) (pa_cons (x_fld (K := K) rfl (pv 0) rfl) (pa_cons (x_fld (K := K) rfl (pv 0) rfl) (pa_cons (x_fld (K := K) rfl (pv 0) rfl) pa_nil))))))))), def_run (N := N_Object_parts) (b := b_Object_parts)
    (sim_frz (sim_ret (sim_tup (sim_cons (sim_fld (c := "Object") (cl_at hc_Object T_Object) (no_at hc_Object T_Object (by simp)) sim_var) (sim_cons (sim_fld (c := "Object") (cl_at hc_Object T_Object) (no_at hc_Object T_Object (by simp)) sim_var) (sim_cons (sim_fld (c := "Object") (cl_at hc_Object T_Object) (no_at hc_Object T_Object (by simp)) sim_var) (sim_cons (sim_fld (c := "Object") (cl_at hc_Object T_Object) (no_at hc_Object T_Object (by simp)) sim_var) (sim_cons (sim_fld (c := "Object") (cl_at hc_Object T_Object) (no_at hc_Object T_Object (by simp)) sim_var) (sim_cons (sim_fld (c := "Object") (cl_at hc_Object T_Object) (no_at hc_Object T_Object (by simp)) sim_var) sim_nil))))))))) h⟩
theorem ok_Object_size {f : Addr} {fd : FuncData} (F : Fun K "size" "Object.size" s_Object_size f fd) {C_Object : Addr} (hc_Object : ca "Object" = C_Object) (g_Object : mg "Object" = some (.ref C_Object)) (T_Object : TxC K C_Object ["words", "functions", "data", "needs", "places", "marks"]) (b_len : mg "len" = none) : FnOk P w K mg base CX0 1 f fd ["self"] (spM (M.Env.mk K ca fa none) 1 m_Object_size) := by
  refine FnOk.imp (F.ok sc_Object_size (sp_len (G := (M.Env.mk K ca fa none)) (m := m_Object_size) rfl) (fun cdv A outer s H vs Q E hr h => ?_)) (fun _ _ _ _ h => h)
  have hu := hu_of hr
  exact ⟨_, (pss_one (ps_ret (pe_callB (x_len (K := K) rfl) (by rfl) b_len (by decide +kernel) (pa_cons (x_fld (K := K) rfl (pv 0) rfl) pa_nil)))), def_run (N := N_Object_size) (b := b_Object_size)
    (sim_frz (sim_ret (sim_CB sb_len (sim_cons (sim_fld (c := "Object") (cl_at hc_Object T_Object) (no_at hc_Object T_Object (by simp)) sim_var) sim_nil)))) h⟩
theorem ok__law_is {f : Addr} {fd : FuncData} (F : Fun K "_law_is" "_law_is" s__law_is f fd) {C_Object : Addr} (hc_Object : ca "Object" = C_Object) (g_Object : mg "Object" = some (.ref C_Object)) (T_Object : TxC K C_Object ["words", "functions", "data", "needs", "places", "marks"]) {f__law_alike : Addr} {fd__law_alike : FuncData} (C__law_alike : Callee P w K mg base 41 f__law_alike fd__law_alike "_law_alike" ["a", "b"] (spM (M.Env.mk K ca fa none) 2 m__law_alike)) {f_Object_parts : Addr} {fd_Object_parts : FuncData} (C_Object_parts : CalleeM P w K mg base 1 f_Object_parts fd_Object_parts ["self"] (spM (M.Env.mk K ca fa none) 1 m_Object_parts)) {f_Object_size : Addr} {fd_Object_size : FuncData} (C_Object_size : CalleeM P w K mg base 1 f_Object_size fd_Object_size ["self"] (spM (M.Env.mk K ca fa none) 1 m_Object_size)) (M_Object_parts : Meth K C_Object "parts" f_Object_parts) {pp_Object_size : Addr} (PR_Object_size : PropOf K C_Object "size" pp_Object_size f_Object_size) (b_len : mg "len" = none) : FnOk P w K mg base CX0 42 f fd ["one", "due"] (spM (M.Env.mk K ca fa none) 2 m__law_is) := by
  refine FnOk.imp (F.ok sc__law_is (sp_len (G := (M.Env.mk K ca fa none)) (m := m__law_is) rfl) (fun cdv A outer s H vs Q E hr h => ?_)) (fun _ _ _ _ h => h)
  have hu := hu_of hr
  exact ⟨_, (pss_one (ps_ret (pe_and (pe_call C__law_alike.ok (hr.mono (by (first | omega | (simp only [Nat.add_eq] at *; omega) | (simp only [Nat.add_eq]; omega)))) (by rfl) C__law_alike.g C__law_alike.kp C__law_alike.b .nil passT (pa_cons (pe_meth0 (pv 0) T_Object.cl M_Object_parts C_Object_parts.ok (hr.mono (by (first | omega | (simp only [Nat.add_eq] at *; omega) | (simp only [Nat.add_eq]; omega)))) C_Object_parts.b .nil passT) (pa_cons (pv 1) pa_nil))) (pe_one (pe_call C__law_alike.ok (hr.mono (by (first | omega | (simp only [Nat.add_eq] at *; omega) | (simp only [Nat.add_eq]; omega)))) (by rfl) C__law_alike.g C__law_alike.kp C__law_alike.b .nil passT (pa_cons (pe_prop (pv 0) T_Object.cl PR_Object_size C_Object_size.ok (hr.mono (by (first | omega | (simp only [Nat.add_eq] at *; omega) | (simp only [Nat.add_eq]; omega)))) C_Object_size.b .nil passT (by rfl)) (pa_cons (pe_callB (x_len (K := K) rfl) (by rfl) b_len (by decide +kernel) (pa_cons (pe_ix (x_ix (K := K) rfl) (pv 1) pe_int (fun _ _ => rfl)) pa_nil)) pa_nil))))))), def_run (N := N__law_is) (b := b__law_is)
    (sim_frz (sim_ret (sim_andV (sim_call (sim_cons (sim_meth hc_Object sim_var sim_nil) (sim_cons sim_var sim_nil))) (sim_call (sim_cons (sim_prop hc_Object sim_var) (sim_cons (sim_CB sb_len (sim_cons (sim_op so_ix sim_var sim_int) sim_nil)) sim_nil)))))) h⟩
theorem ok_law {f : Addr} {fd : FuncData} (F : Fun K "law" "law" s_law f fd) {C_Object : Addr} (hc_Object : ca "Object" = C_Object) (g_Object : mg "Object" = some (.ref C_Object)) (T_Object : TxC K C_Object ["words", "functions", "data", "needs", "places", "marks"]) {f__law_pool : Addr} {fd__law_pool : FuncData} (C__law_pool : Callee P w K mg base 1 f__law_pool fd__law_pool "_law_pool" ["script"] (spM (M.Env.mk K ca fa none) 1 m__law_pool)) {f__law_table : Addr} {fd__law_table : FuncData} (C__law_table : Callee P w K mg base 1 f__law_table fd__law_table "_law_table" [] (spM (M.Env.mk K ca fa none) 0 m__law_table)) {f__law_thing : Addr} {fd__law_thing : FuncData} (C__law_thing : Callee P w K mg base 6 f__law_thing fd__law_thing "_law_thing" ["pool", "table"] (spM (M.Env.mk K ca fa none) 2 m__law_thing)) {f__law_like_needs : Addr} {fd__law_like_needs : FuncData} (C__law_like_needs : Callee P w K mg base 2 f__law_like_needs fd__law_like_needs "_law_like_needs" ["pool", "thing", "others"] (spM (M.Env.mk K ca fa none) 3 m__law_like_needs)) {f__law_parts_of : Addr} {fd__law_parts_of : FuncData} (C__law_parts_of : Callee P w K mg base 2 f__law_parts_of fd__law_parts_of "_law_parts_of" ["table", "thing"] (spM (M.Env.mk K ca fa none) 2 m__law_parts_of)) {f__law_object : Addr} {fd__law_object : FuncData} (C__law_object : Callee P w K mg base 3 f__law_object fd__law_object "_law_object" ["due"] (spM (M.Env.mk K ca fa none) 1 m__law_object)) {f__law_sum : Addr} {fd__law_sum : FuncData} (C__law_sum : Callee P w K mg base 1 f__law_sum fd__law_sum "_law_sum" ["a", "b"] (spM (M.Env.mk K ca fa none) 2 m__law_sum)) {f_Object___add__ : Addr} {fd_Object___add__ : FuncData} (C_Object___add__ : CalleeM P w K mg base 3 f_Object___add__ fd_Object___add__ ["self", "other"] (spM (M.Env.mk K ca fa none) 2 m_Object___add__)) {f__law_is : Addr} {fd__law_is : FuncData} (C__law_is : Callee P w K mg base 42 f__law_is fd__law_is "_law_is" ["one", "due"] (spM (M.Env.mk K ca fa none) 2 m__law_is)) (OW_Object___add__ : OWN.Own K C_Object f_Object___add__ .Add) (b_range : mg "range" = none) (b_list : mg "list" = none) : FnOk P w K mg base CX0 43 f fd ["script"] (spM (M.Env.mk K ca fa none) 1 m_law) := by
  refine FnOk.imp (F.ok sc_law (sp_len (G := (M.Env.mk K ca fa none)) (m := m_law) rfl) (fun cdv A outer s H vs Q E hr h => ?_)) (fun _ _ _ _ h => h)
  have hu := hu_of hr
  exact ⟨_, (pss_cons (ps_set (i := 1) sc_law.nd rfl (.inr rfl) (pe_call C__law_pool.ok (hr.mono (by (first | omega | (simp only [Nat.add_eq] at *; omega) | (simp only [Nat.add_eq]; omega)))) (by rfl) C__law_pool.g C__law_pool.kp C__law_pool.b .nil passT (pa_cons (pv 0) pa_nil)))
      (pss_cons (ps_set (i := 2) sc_law.nd rfl (.inr rfl) (pe_call0 C__law_table.ok (hr.mono (by (first | omega | (simp only [Nat.add_eq] at *; omega) | (simp only [Nat.add_eq]; omega)))) (by rfl) C__law_table.g C__law_table.kp C__law_table.b .nil passT))
      (pss_cons (ps_setLc (i := 3) (own := [("turn", 11)]) (g := gName 11) (tt := tYes) rfl sc_law.nd rfl rfl (sw_true rfl rfl rfl (by decide +kernel)) (pi_range1 (by rfl) b_range (pa_cons pe_int pa_nil)) (blkOk_by (own := [("turn", 11)]) (N := N_law) (sc := defScope s_law) (by decide +kernel)) (fun _ _ _ _ _ => (pg_name (i := 11) sc_law.nd rfl (.inl rfl))) (fun _ _ _ _ _ => pts_nil) (fun _ _ _ _ _ => (pe_call C__law_thing.ok (hr.mono (by (first | omega | (simp only [Nat.add_eq] at *; omega) | (simp only [Nat.add_eq]; omega)))) (by rfl) C__law_thing.g C__law_thing.kp C__law_thing.b .nil passT (pa_cons (pv 1) (pa_cons (pv 2) pa_nil)))))
      (pss_cons (ps_expr (pe_call C__law_like_needs.ok (hr.mono (by (first | omega | (simp only [Nat.add_eq] at *; omega) | (simp only [Nat.add_eq]; omega)))) (by rfl) C__law_like_needs.g C__law_like_needs.kp C__law_like_needs.b .nil passT (pa_cons (pv 1) (pa_cons (pe_ix (x_ix (K := K) rfl) (pv 3) pe_int (fun _ _ => rfl)) (pa_cons (pe_callTy (x_list (K := K) rfl) (by rfl) b_list (by decide +kernel) (pa_cons (pe_dget hu (pe_ix (x_ix (K := K) rfl) (pv 3) pe_int (fun _ _ => rfl)) pe_str (fun _ _ => rfl)) pa_nil)) pa_nil)))))
      (pss_cons (ps_expr (pe_call C__law_like_needs.ok (hr.mono (by (first | omega | (simp only [Nat.add_eq] at *; omega) | (simp only [Nat.add_eq]; omega)))) (by rfl) C__law_like_needs.g C__law_like_needs.kp C__law_like_needs.b .nil passT (pa_cons (pv 1) (pa_cons (pe_ix (x_ix (K := K) rfl) (pv 3) pe_int (fun _ _ => rfl)) (pa_cons (pe_op op_cat (pe_dget hu (pe_ix (x_ix (K := K) rfl) (pv 3) pe_int (fun _ _ => rfl)) pe_str (fun _ _ => rfl)) (pe_dget hu (pe_ix (x_ix (K := K) rfl) (pv 3) pe_int (fun _ _ => rfl)) pe_str (fun _ _ => rfl))) pa_nil)))))
      (pss_cons (ps_setLc (i := 4) (own := [("thing", 12)]) (g := gName 12) (tt := tYes) rfl sc_law.nd rfl rfl (sw_true rfl rfl rfl (by decide +kernel)) (x_pil (K := K) rfl (pv 3)) (blkOk_by (own := [("thing", 12)]) (N := N_law) (sc := defScope s_law) (by decide +kernel)) (fun _ _ _ _ _ => (pg_name (i := 12) sc_law.nd rfl (.inl rfl))) (fun _ _ _ _ _ => pts_nil) (fun _ _ _ _ _ => (pe_call C__law_parts_of.ok (hr.mono (by (first | omega | (simp only [Nat.add_eq] at *; omega) | (simp only [Nat.add_eq]; omega)))) (by rfl) C__law_parts_of.g C__law_parts_of.kp C__law_parts_of.b .nil passT (pa_cons (pv 2) (pa_cons (pv 12) pa_nil)))))
      (pss_cons (ps_set (i := 5) sc_law.nd rfl (.inl rfl) (pe_call C__law_object.ok (hr.mono (by (first | omega | (simp only [Nat.add_eq] at *; omega) | (simp only [Nat.add_eq]; omega)))) (by rfl) C__law_object.g C__law_object.kp C__law_object.b .nil passT (pa_cons (pe_ix (x_ix (K := K) rfl) (pv 4) pe_int (fun _ _ => rfl)) pa_nil)))
      (pss_cons (ps_set (i := 6) sc_law.nd rfl (.inl rfl) (pe_call C__law_object.ok (hr.mono (by (first | omega | (simp only [Nat.add_eq] at *; omega) | (simp only [Nat.add_eq]; omega)))) (by rfl) C__law_object.g C__law_object.kp C__law_object.b .nil passT (pa_cons (pe_ix (x_ix (K := K) rfl) (pv 4) pe_int (fun _ _ => rfl)) pa_nil)))
      (pss_cons (ps_set (i := 7) sc_law.nd rfl (.inl rfl) (pe_call C__law_object.ok (hr.mono (by (first | omega | (simp only [Nat.add_eq] at *; omega) | (simp only [Nat.add_eq]; omega)))) (by rfl) C__law_object.g C__law_object.kp C__law_object.b .nil passT (pa_cons (pe_ix (x_ix (K := K) rfl) (pv 4) pe_int (fun _ _ => rfl)) pa_nil)))
      (pss_cons (ps_set (i := 8) sc_law.nd rfl (.inl rfl) (pe_call C__law_sum.ok (hr.mono (by (first | omega | (simp only [Nat.add_eq] at *; omega) | (simp only [Nat.add_eq]; omega)))) (by rfl) C__law_sum.g C__law_sum.kp C__law_sum.b .nil passT (pa_cons (pe_ix (x_ix (K := K) rfl) (pv 4) pe_int (fun _ _ => rfl)) (pa_cons (pe_ix (x_ix (K := K) rfl) (pv 4) pe_int (fun _ _ => rfl)) pa_nil))))
      (pss_cons (ps_set (i := 9) sc_law.nd rfl (.inl rfl) (pe_call C__law_sum.ok (hr.mono (by (first | omega | (simp only [Nat.add_eq] at *; omega) | (simp only [Nat.add_eq]; omega)))) (by rfl) C__law_sum.g C__law_sum.kp C__law_sum.b .nil passT (pa_cons (pv 8) (pa_cons (pe_ix (x_ix (K := K) rfl) (pv 4) pe_int (fun _ _ => rfl)) pa_nil))))
      (pss_cons (ps_set (i := 10) sc_law.nd rfl (.inl rfl) (pe_op (OWN.op_own OW_Object___add__ C_Object___add__.ok (hr.mono (by (first | omega | (simp only [Nat.add_eq] at *; omega) | (simp only [Nat.add_eq]; omega)))) C_Object___add__.b passT) (pv 5) (pv 6)))
      (pss_cons (ps_if (PW.pt (pw_or (pt_not (x_tru (K := K) rfl (pe_call C__law_is.ok (hr.mono (by (first | omega | (simp only [Nat.add_eq] at *; omega) | (simp only [Nat.add_eq]; omega)))) (by rfl) C__law_is.g C__law_is.kp C__law_is.b .nil passT (pa_cons (pv 10) (pa_cons (pv 8) pa_nil))) (by intro _; rfl))) (pw_or1 (pt_not (x_tru (K := K) rfl (pe_call C__law_is.ok (hr.mono (by (first | omega | (simp only [Nat.add_eq] at *; omega) | (simp only [Nat.add_eq]; omega)))) (by rfl) C__law_is.g C__law_is.kp C__law_is.b .nil passT (pa_cons (pe_op (OWN.op_own OW_Object___add__ C_Object___add__.ok (hr.mono (by (first | omega | (simp only [Nat.add_eq] at *; omega) | (simp only [Nat.add_eq]; omega)))) C_Object___add__.b passT) (pv 10) (pv 7)) (pa_cons (pv 9) pa_nil))) (by intro _; rfl)))))) (pss_one (ps_ret pe_bl)) pss_nil)
      (pss_cons (ps_if (pt_not (x_tru (K := K) rfl (pe_call C__law_is.ok (hr.mono (by (first | omega | (simp only [Nat.add_eq] at *; omega) | (simp only [Nat.add_eq]; omega)))) (by rfl) C__law_is.g C__law_is.kp C__law_is.b .nil passT (pa_cons (pe_op (OWN.op_own OW_Object___add__ C_Object___add__.ok (hr.mono (by (first | omega | (simp only [Nat.add_eq] at *; omega) | (simp only [Nat.add_eq]; omega)))) C_Object___add__.b passT) (pv 6) (pv 7)) (pa_cons (pe_call C__law_sum.ok (hr.mono (by (first | omega | (simp only [Nat.add_eq] at *; omega) | (simp only [Nat.add_eq]; omega)))) (by rfl) C__law_sum.g C__law_sum.kp C__law_sum.b .nil passT (pa_cons (pe_ix (x_ix (K := K) rfl) (pv 4) pe_int (fun _ _ => rfl)) (pa_cons (pe_ix (x_ix (K := K) rfl) (pv 4) pe_int (fun _ _ => rfl)) pa_nil))) pa_nil))) (by intro _; rfl))) (pss_one (ps_ret pe_bl)) pss_nil)
      (pss_cons (ps_if (pt_not (x_tru (K := K) rfl (pe_call C__law_is.ok (hr.mono (by (first | omega | (simp only [Nat.add_eq] at *; omega) | (simp only [Nat.add_eq]; omega)))) (by rfl) C__law_is.g C__law_is.kp C__law_is.b .nil passT (pa_cons (pe_op (OWN.op_own OW_Object___add__ C_Object___add__.ok (hr.mono (by (first | omega | (simp only [Nat.add_eq] at *; omega) | (simp only [Nat.add_eq]; omega)))) C_Object___add__.b passT) (pv 5) (pe_op (OWN.op_own OW_Object___add__ C_Object___add__.ok (hr.mono (by (first | omega | (simp only [Nat.add_eq] at *; omega) | (simp only [Nat.add_eq]; omega)))) C_Object___add__.b passT) (pv 6) (pv 7))) (pa_cons (pv 9) pa_nil))) (by intro _; rfl))) (pss_one (ps_ret pe_bl)) pss_nil)
      (pss_cons (ps_if (pt_not (x_tru (K := K) rfl (pe_call C__law_is.ok (hr.mono (by (first | omega | (simp only [Nat.add_eq] at *; omega) | (simp only [Nat.add_eq]; omega)))) (by rfl) C__law_is.g C__law_is.kp C__law_is.b .nil passT (pa_cons (pe_op (OWN.op_own OW_Object___add__ C_Object___add__.ok (hr.mono (by (first | omega | (simp only [Nat.add_eq] at *; omega) | (simp only [Nat.add_eq]; omega)))) C_Object___add__.b passT) (pv 6) (pv 6)) (pa_cons (pe_call C__law_sum.ok (hr.mono (by (first | omega | (simp only [Nat.add_eq] at *; omega) | (simp only [Nat.add_eq]; omega)))) (by rfl) C__law_sum.g C__law_sum.kp C__law_sum.b .nil passT (pa_cons (pe_ix (x_ix (K := K) rfl) (pv 4) pe_int (fun _ _ => rfl)) (pa_cons (pe_ix (x_ix (K := K) rfl) (pv 4) pe_int (fun _ _ => rfl)) pa_nil))) pa_nil))) (by intro _; rfl))) (pss_one (ps_ret pe_bl)) pss_nil)
      (pss_cons (ps_if (PW.pt (pw_or (pt_not (x_tru (K := K) rfl (pe_call C__law_is.ok (hr.mono (by (first | omega | (simp only [Nat.add_eq] at *; omega) | (simp only [Nat.add_eq]; omega)))) (by rfl) C__law_is.g C__law_is.kp C__law_is.b .nil passT (pa_cons (pv 10) (pa_cons (pv 8) pa_nil))) (by intro _; rfl))) (pw_or1 (pt_not (x_tru (K := K) rfl (pe_call C__law_is.ok (hr.mono (by (first | omega | (simp only [Nat.add_eq] at *; omega) | (simp only [Nat.add_eq]; omega)))) (by rfl) C__law_is.g C__law_is.kp C__law_is.b .nil passT (pa_cons (pe_op (OWN.op_own OW_Object___add__ C_Object___add__.ok (hr.mono (by (first | omega | (simp only [Nat.add_eq] at *; omega) | (simp only [Nat.add_eq]; omega)))) C_Object___add__.b passT) (pv 5) (pv 6)) (pa_cons (pv 8) pa_nil))) (by intro _; rfl)))))) (pss_one (ps_ret pe_bl)) pss_nil)
      (pss_one (ps_ret (pe_and (pe_call C__law_is.ok (hr.mono (by (first | omega | (simp only [Nat.add_eq] at *; omega) | (simp only [Nat.add_eq]; omega)))) (by rfl) C__law_is.g C__law_is.kp C__law_is.b .nil passT (pa_cons (pv 5) (pa_cons (pe_ix (x_ix (K := K) rfl) (pv 4) pe_int (fun _ _ => rfl)) pa_nil))) (pe_and (pe_call C__law_is.ok (hr.mono (by (first | omega | (simp only [Nat.add_eq] at *; omega) | (simp only [Nat.add_eq]; omega)))) (by rfl) C__law_is.g C__law_is.kp C__law_is.b .nil passT (pa_cons (pv 6) (pa_cons (pe_ix (x_ix (K := K) rfl) (pv 4) pe_int (fun _ _ => rfl)) pa_nil))) (pe_one (pe_call C__law_is.ok (hr.mono (by (first | omega | (simp only [Nat.add_eq] at *; omega) | (simp only [Nat.add_eq]; omega)))) (by rfl) C__law_is.g C__law_is.kp C__law_is.b .nil passT (pa_cons (pv 7) (pa_cons (pe_ix (x_ix (K := K) rfl) (pv 4) pe_int (fun _ _ => rfl)) pa_nil))))))))))))))))))))))))), def_run (N := N_law) (b := b_law)
    (sim_seq (by exact (sim_set (sim_call (sim_cons sim_var sim_nil))))
      (sim_seq (by exact (sim_set (sim_call sim_nil)))
      (sim_seq (by exact (sim_frz (sim_set (sim_lc (vs := [11]) (by exact (sim_rng1 (sim_cons sim_int sim_nil))) (sim_wName (by decide)) (by exact sim_yes) (by exact (sim_call (sim_cons sim_var (sim_cons sim_var sim_nil))))))))
      (sim_seq (by exact (sim_drop (sim_call (sim_cons sim_var (sim_cons (sim_op so_ix sim_var sim_int) (sim_cons (sim_CB sb_list (sim_cons (sim_dget (sim_op so_ix sim_var sim_int) sim_str) sim_nil)) sim_nil))))))
      (sim_seq (by exact (sim_drop (sim_call (sim_cons sim_var (sim_cons (sim_op so_ix sim_var sim_int) (sim_cons (sim_op so_cat (sim_dget (sim_op so_ix sim_var sim_int) sim_str) (sim_dget (sim_op so_ix sim_var sim_int) sim_str)) sim_nil))))))
      (sim_seq (by exact (sim_frz (sim_set (sim_lc (vs := [12]) (by exact (sim_iLst sim_var)) (sim_wName (by decide)) (by exact sim_yes) (by exact (sim_call (sim_cons sim_var (sim_cons sim_var sim_nil))))))))
      (sim_seq (by exact (sim_frz (sim_set (sim_call (sim_cons (sim_op so_ix sim_var sim_int) sim_nil)))))
      (sim_seq (by exact (sim_set (sim_call (sim_cons (sim_op so_ix sim_var sim_int) sim_nil))))
      (sim_seq (by exact (sim_set (sim_call (sim_cons (sim_op so_ix sim_var sim_int) sim_nil))))
      (sim_seq (by exact (sim_set (sim_call (sim_cons (sim_op so_ix sim_var sim_int) (sim_cons (sim_op so_ix sim_var sim_int) sim_nil)))))
      (sim_seq (by exact (sim_set (sim_call (sim_cons sim_var (sim_cons (sim_op so_ix sim_var sim_int) sim_nil)))))
      (sim_seq (by exact (sim_frz (sim_frz (sim_set (sim_op (so_own hc_Object) sim_var sim_var)))))
      (sim_seq (by exact (sim_frz (sim_frz (sim_if (by exact (sim_or (sim_not (sim_tru (sim_call (sim_cons sim_var (sim_cons sim_var sim_nil))))) (sim_not (sim_tru (sim_call (sim_cons (sim_op (so_own hc_Object) sim_var sim_var) (sim_cons sim_var sim_nil))))))) (by exact (sim_ret sim_bl)) (by exact sim_next)))))
      (sim_seq (by exact (sim_if (by exact (sim_not (sim_tru (sim_call (sim_cons (sim_op (so_own hc_Object) sim_var sim_var) (sim_cons (sim_call (sim_cons (sim_op so_ix sim_var sim_int) (sim_cons (sim_op so_ix sim_var sim_int) sim_nil))) sim_nil)))))) (by exact (sim_ret sim_bl)) (by exact sim_next)))
      (sim_seq (by exact (sim_if (by exact (sim_not (sim_tru (sim_call (sim_cons (sim_op (so_own hc_Object) sim_var (sim_op (so_own hc_Object) sim_var sim_var)) (sim_cons sim_var sim_nil)))))) (by exact (sim_ret sim_bl)) (by exact sim_next)))
      (sim_seq (by exact (sim_if (by exact (sim_not (sim_tru (sim_call (sim_cons (sim_op (so_own hc_Object) sim_var sim_var) (sim_cons (sim_call (sim_cons (sim_op so_ix sim_var sim_int) (sim_cons (sim_op so_ix sim_var sim_int) sim_nil))) sim_nil)))))) (by exact (sim_ret sim_bl)) (by exact sim_next)))
      (sim_seq (by exact (sim_if (by exact (sim_or (sim_not (sim_tru (sim_call (sim_cons sim_var (sim_cons sim_var sim_nil))))) (sim_not (sim_tru (sim_call (sim_cons (sim_op (so_own hc_Object) sim_var sim_var) (sim_cons sim_var sim_nil))))))) (by exact (sim_ret sim_bl)) (by exact sim_next)))
      (sim_ret (sim_andV (sim_call (sim_cons sim_var (sim_cons (sim_op so_ix sim_var sim_int) sim_nil))) (sim_andV (sim_call (sim_cons sim_var (sim_cons (sim_op so_ix sim_var sim_int) sim_nil))) (sim_call (sim_cons sim_var (sim_cons (sim_op so_ix sim_var sim_int) sim_nil))))))))))))))))))))))) h⟩
end
theorem all_mk {l : PySem.W.OpenLaw} {w : World} {K : PySem.W.Frag} {h : Heap} {mg : Str → Option Value} {fa0 f0 f1 f2 f3 f4 f5 f6 f7 f8 f9 f10 f11 f12 f13 f14 f15 f16 f17 f18 f19 f20 f21 f22 f23 f24 f25 f26 f27 : Addr} (X : K.In h) (G : h.Ns mainGlobals mg) (hfa : mg "law" = some (.ref fa0))
    {od0 an0 od1 an1 od2 an2 od3 an3 od4 an4 od5 an5 od6 an6 od7 an7 od8 an8 od9 an9 od10 an10 od11 an11 od12 an12 od13 an13 od14 an14 od15 an15 od16 an16 od17 an17 od18 an18 od19 an19 od20 an20 od21 an21 od22 an22 od23 an23 od24 an24 od25 an25 od26 an26 od27 an27 : Option Addr} {sl0 sl1 sl2 sl3 sl4 sl5 sl6 sl7 sl8 sl9 sl10 sl11 sl12 sl13 sl14 sl15 sl16 sl17 sl18 sl19 sl20 sl21 sl22 sl23 sl24 sl25 sl26 sl27 : Array (Option Value)} {oc0 kV0 dc0 pm0 cd0 ct0 oc1 kV1 dc1 pm1 cd1 ct1 oc2 kV2 dc2 pm2 cd2 ct2 oc3 kV3 dc3 pm3 cd3 ct3 oc4 kV4 dc4 pm4 cd4 ct4 oc5 kV5 dc5 pm5 cd5 ct5 oc6 kV6 dc6 pm6 cd6 ct6 oc7 kV7 dc7 pm7 cd7 ct7 oc8 kV8 dc8 pm8 cd8 ct8 oc9 kV9 dc9 pm9 cd9 ct9 oc10 kV10 dc10 pm10 cd10 ct10 oc11 kV11 dc11 pm11 cd11 ct11 oc12 kV12 dc12 pm12 cd12 ct12 oc13 kV13 dc13 pm13 cd13 ct13 oc14 kV14 dc14 pm14 cd14 ct14 oc15 kV15 dc15 pm15 cd15 ct15 oc16 kV16 dc16 pm16 cd16 ct16 oc17 kV17 dc17 pm17 cd17 ct17 oc18 kV18 dc18 pm18 cd18 ct18 oc19 kV19 dc19 pm19 cd19 ct19 oc20 kV20 dc20 pm20 cd20 ct20 oc21 kV21 dc21 pm21 cd21 ct21 oc22 kV22 dc22 pm22 cd22 ct22 oc23 kV23 dc23 pm23 cd23 ct23 oc24 kV24 dc24 pm24 cd24 ct24 oc25 kV25 dc25 pm25 cd25 ct25 oc26 kV26 dc26 pm26 cd26 ct26 oc27 kV27 dc27 pm27 cd27 ct27 : Value}
    {C_Object : Addr} (zc_Object : PySem.W.nsIn K mainGlobals "Object" = some (some (.ref C_Object)))
    (a0 : PySem.W.nsIn K mainGlobals "_law_pool" = some (some (.ref f0))) (l0 : K.lookup f0 = some ⟨oc0, od0, .func (PySem.W.fnOf "_law_pool" "_law_pool" (defArgs s__law_pool) (defBody s__law_pool) (defScope s__law_pool) .none kV0 dc0 pm0 an0 cd0 ct0), sl0⟩) (c0 : PySem.W.codeIn K cd0 "_law_pool" = true) (k0 : PySem.W.keepIn K (.ref f0) = true)
    (a1 : PySem.W.nsIn K mainGlobals "_law_table" = some (some (.ref f1))) (l1 : K.lookup f1 = some ⟨oc1, od1, .func (PySem.W.fnOf "_law_table" "_law_table" (defArgs s__law_table) (defBody s__law_table) (defScope s__law_table) .none kV1 dc1 pm1 an1 cd1 ct1), sl1⟩) (c1 : PySem.W.codeIn K cd1 "_law_table" = true) (k1 : PySem.W.keepIn K (.ref f1) = true)
    (a2 : PySem.W.nsIn K mainGlobals "_law_draw" = some (some (.ref f2))) (l2 : K.lookup f2 = some ⟨oc2, od2, .func (PySem.W.fnOf "_law_draw" "_law_draw" (defArgs s__law_draw) (defBody s__law_draw) (defScope s__law_draw) .none kV2 dc2 pm2 an2 cd2 ct2), sl2⟩) (c2 : PySem.W.codeIn K cd2 "_law_draw" = true) (k2 : PySem.W.keepIn K (.ref f2) = true)
    (a3 : PySem.W.nsIn K mainGlobals "_law_pick" = some (some (.ref f3))) (l3 : K.lookup f3 = some ⟨oc3, od3, .func (PySem.W.fnOf "_law_pick" "_law_pick" (defArgs s__law_pick) (defBody s__law_pick) (defScope s__law_pick) .none kV3 dc3 pm3 an3 cd3 ct3), sl3⟩) (c3 : PySem.W.codeIn K cd3 "_law_pick" = true) (k3 : PySem.W.keepIn K (.ref f3) = true)
    (a4 : PySem.W.nsIn K mainGlobals "_law_many" = some (some (.ref f4))) (l4 : K.lookup f4 = some ⟨oc4, od4, .func (PySem.W.fnOf "_law_many" "_law_many" (defArgs s__law_many) (defBody s__law_many) (defScope s__law_many) .none kV4 dc4 pm4 an4 cd4 ct4), sl4⟩) (c4 : PySem.W.codeIn K cd4 "_law_many" = true) (k4 : PySem.W.keepIn K (.ref f4) = true)
    (a5 : PySem.W.nsIn K mainGlobals "_law_title" = some (some (.ref f5))) (l5 : K.lookup f5 = some ⟨oc5, od5, .func (PySem.W.fnOf "_law_title" "_law_title" (defArgs s__law_title) (defBody s__law_title) (defScope s__law_title) .none kV5 dc5 pm5 an5 cd5 ct5), sl5⟩) (c5 : PySem.W.codeIn K cd5 "_law_title" = true) (k5 : PySem.W.keepIn K (.ref f5) = true)
    (a6 : PySem.W.nsIn K mainGlobals "_law_long" = some (some (.ref f6))) (l6 : K.lookup f6 = some ⟨oc6, od6, .func (PySem.W.fnOf "_law_long" "_law_long" (defArgs s__law_long) (defBody s__law_long) (defScope s__law_long) .none kV6 dc6 pm6 an6 cd6 ct6), sl6⟩) (c6 : PySem.W.codeIn K cd6 "_law_long" = true) (k6 : PySem.W.keepIn K (.ref f6) = true)
    (a7 : PySem.W.nsIn K mainGlobals "_law_want" = some (some (.ref f7))) (l7 : K.lookup f7 = some ⟨oc7, od7, .func (PySem.W.fnOf "_law_want" "_law_want" (defArgs s__law_want) (defBody s__law_want) (defScope s__law_want) .none kV7 dc7 pm7 an7 cd7 ct7), sl7⟩) (c7 : PySem.W.codeIn K cd7 "_law_want" = true) (k7 : PySem.W.keepIn K (.ref f7) = true)
    (a8 : PySem.W.nsIn K mainGlobals "_law_word" = some (some (.ref f8))) (l8 : K.lookup f8 = some ⟨oc8, od8, .func (PySem.W.fnOf "_law_word" "_law_word" (defArgs s__law_word) (defBody s__law_word) (defScope s__law_word) .none kV8 dc8 pm8 an8 cd8 ct8), sl8⟩) (c8 : PySem.W.codeIn K cd8 "_law_word" = true) (k8 : PySem.W.keepIn K (.ref f8) = true)
    (a9 : PySem.W.nsIn K mainGlobals "_law_datum" = some (some (.ref f9))) (l9 : K.lookup f9 = some ⟨oc9, od9, .func (PySem.W.fnOf "_law_datum" "_law_datum" (defArgs s__law_datum) (defBody s__law_datum) (defScope s__law_datum) .none kV9 dc9 pm9 an9 cd9 ct9), sl9⟩) (c9 : PySem.W.codeIn K cd9 "_law_datum" = true) (k9 : PySem.W.keepIn K (.ref f9) = true)
    (a10 : PySem.W.nsIn K mainGlobals "_law_open_row" = some (some (.ref f10))) (l10 : K.lookup f10 = some ⟨oc10, od10, .func (PySem.W.fnOf "_law_open_row" "_law_open_row" (defArgs s__law_open_row) (defBody s__law_open_row) (defScope s__law_open_row) .none kV10 dc10 pm10 an10 cd10 ct10), sl10⟩) (c10 : PySem.W.codeIn K cd10 "_law_open_row" = true) (k10 : PySem.W.keepIn K (.ref f10) = true)
    (a11 : PySem.W.nsIn K mainGlobals "_law_edge" = some (some (.ref f11))) (l11 : K.lookup f11 = some ⟨oc11, od11, .func (PySem.W.fnOf "_law_edge" "_law_edge" (defArgs s__law_edge) (defBody s__law_edge) (defScope s__law_edge) .none kV11 dc11 pm11 an11 cd11 ct11), sl11⟩) (c11 : PySem.W.codeIn K cd11 "_law_edge" = true) (k11 : PySem.W.keepIn K (.ref f11) = true)
    (a12 : PySem.W.nsIn K mainGlobals "_law_drawn_row" = some (some (.ref f12))) (l12 : K.lookup f12 = some ⟨oc12, od12, .func (PySem.W.fnOf "_law_drawn_row" "_law_drawn_row" (defArgs s__law_drawn_row) (defBody s__law_drawn_row) (defScope s__law_drawn_row) .none kV12 dc12 pm12 an12 cd12 ct12), sl12⟩) (c12 : PySem.W.codeIn K cd12 "_law_drawn_row" = true) (k12 : PySem.W.keepIn K (.ref f12) = true)
    (a13 : PySem.W.nsIn K mainGlobals "_law_chain" = some (some (.ref f13))) (l13 : K.lookup f13 = some ⟨oc13, od13, .func (PySem.W.fnOf "_law_chain" "_law_chain" (defArgs s__law_chain) (defBody s__law_chain) (defScope s__law_chain) .none kV13 dc13 pm13 an13 cd13 ct13), sl13⟩) (c13 : PySem.W.codeIn K cd13 "_law_chain" = true) (k13 : PySem.W.keepIn K (.ref f13) = true)
    (a14 : PySem.W.nsIn K mainGlobals "_law_one_word" = some (some (.ref f14))) (l14 : K.lookup f14 = some ⟨oc14, od14, .func (PySem.W.fnOf "_law_one_word" "_law_one_word" (defArgs s__law_one_word) (defBody s__law_one_word) (defScope s__law_one_word) .none kV14 dc14 pm14 an14 cd14 ct14), sl14⟩) (c14 : PySem.W.codeIn K cd14 "_law_one_word" = true) (k14 : PySem.W.keepIn K (.ref f14) = true)
    (a15 : PySem.W.nsIn K mainGlobals "_law_thing" = some (some (.ref f15))) (l15 : K.lookup f15 = some ⟨oc15, od15, .func (PySem.W.fnOf "_law_thing" "_law_thing" (defArgs s__law_thing) (defBody s__law_thing) (defScope s__law_thing) .none kV15 dc15 pm15 an15 cd15 ct15), sl15⟩) (c15 : PySem.W.codeIn K cd15 "_law_thing" = true) (k15 : PySem.W.keepIn K (.ref f15) = true)
    (a16 : PySem.W.nsIn K mainGlobals "_law_like_needs" = some (some (.ref f16))) (l16 : K.lookup f16 = some ⟨oc16, od16, .func (PySem.W.fnOf "_law_like_needs" "_law_like_needs" (defArgs s__law_like_needs) (defBody s__law_like_needs) (defScope s__law_like_needs) .none kV16 dc16 pm16 an16 cd16 ct16), sl16⟩) (c16 : PySem.W.codeIn K cd16 "_law_like_needs" = true) (k16 : PySem.W.keepIn K (.ref f16) = true)
    (a17 : PySem.W.nsIn K mainGlobals "_law_encoded" = some (some (.ref f17))) (l17 : K.lookup f17 = some ⟨oc17, od17, .func (PySem.W.fnOf "_law_encoded" "_law_encoded" (defArgs s__law_encoded) (defBody s__law_encoded) (defScope s__law_encoded) .none kV17 dc17 pm17 an17 cd17 ct17), sl17⟩) (c17 : PySem.W.codeIn K cd17 "_law_encoded" = true) (k17 : PySem.W.keepIn K (.ref f17) = true)
    (a18 : PySem.W.nsIn K mainGlobals "_law_parts_of" = some (some (.ref f18))) (l18 : K.lookup f18 = some ⟨oc18, od18, .func (PySem.W.fnOf "_law_parts_of" "_law_parts_of" (defArgs s__law_parts_of) (defBody s__law_parts_of) (defScope s__law_parts_of) .none kV18 dc18 pm18 an18 cd18 ct18), sl18⟩) (c18 : PySem.W.codeIn K cd18 "_law_parts_of" = true) (k18 : PySem.W.keepIn K (.ref f18) = true)
    (a19 : PySem.W.findIn K (.ref C_Object) "__init__" = some (some (.ref f19))) (l19 : K.lookup f19 = some ⟨oc19, od19, .func (PySem.W.fnOf "__init__" "Object.__init__" (defArgs s_Object___init__) (defBody s_Object___init__) (defScope s_Object___init__) .none kV19 dc19 pm19 an19 cd19 ct19), sl19⟩) (c19 : PySem.W.codeIn K cd19 "Object.__init__" = true) (k19 : PySem.W.keepIn K (.ref f19) = true)
    (a20 : PySem.W.nsIn K mainGlobals "_law_object" = some (some (.ref f20))) (l20 : K.lookup f20 = some ⟨oc20, od20, .func (PySem.W.fnOf "_law_object" "_law_object" (defArgs s__law_object) (defBody s__law_object) (defScope s__law_object) .none kV20 dc20 pm20 an20 cd20 ct20), sl20⟩) (c20 : PySem.W.codeIn K cd20 "_law_object" = true) (k20 : PySem.W.keepIn K (.ref f20) = true)
    (a21 : PySem.W.nsIn K mainGlobals "_law_sum" = some (some (.ref f21))) (l21 : K.lookup f21 = some ⟨oc21, od21, .func (PySem.W.fnOf "_law_sum" "_law_sum" (defArgs s__law_sum) (defBody s__law_sum) (defScope s__law_sum) .none kV21 dc21 pm21 an21 cd21 ct21), sl21⟩) (c21 : PySem.W.codeIn K cd21 "_law_sum" = true) (k21 : PySem.W.keepIn K (.ref f21) = true)
    (a22 : PySem.W.findIn K (.ref C_Object) "__add__" = some (some (.ref f22))) (l22 : K.lookup f22 = some ⟨oc22, od22, .func (PySem.W.fnOf "__add__" "Object.__add__" (defArgs s_Object___add__) (defBody s_Object___add__) (defScope s_Object___add__) .none kV22 dc22 pm22 an22 cd22 ct22), sl22⟩) (c22 : PySem.W.codeIn K cd22 "Object.__add__" = true) (k22 : PySem.W.keepIn K (.ref f22) = true)
    (a23 : PySem.W.nsIn K mainGlobals "_law_alike" = some (some (.ref f23))) (l23 : K.lookup f23 = some ⟨oc23, od23, .func (PySem.W.fnOf "_law_alike" "_law_alike" (defArgs s__law_alike) (defBody s__law_alike) (defScope s__law_alike) .none kV23 dc23 pm23 an23 cd23 ct23), sl23⟩) (c23 : PySem.W.codeIn K cd23 "_law_alike" = true) (k23 : PySem.W.keepIn K (.ref f23) = true)
    (a24 : PySem.W.findIn K (.ref C_Object) "parts" = some (some (.ref f24))) (l24 : K.lookup f24 = some ⟨oc24, od24, .func (PySem.W.fnOf "parts" "Object.parts" (defArgs s_Object_parts) (defBody s_Object_parts) (defScope s_Object_parts) .none kV24 dc24 pm24 an24 cd24 ct24), sl24⟩) (c24 : PySem.W.codeIn K cd24 "Object.parts" = true) (k24 : PySem.W.keepIn K (.ref f24) = true)
    {pp_Object_size : Addr} {rr_Object_size : List Value} (pa_Object_size : PySem.W.findIn K (.ref C_Object) "size" = some (some (.ref pp_Object_size))) (pg_Object_size : PySem.W.specialIn K (.ref pp_Object_size) "__get__" = some (some (.builtin "property.__get__"))) (pt_Object_size : PySem.W.takesIn K (.ref pp_Object_size) = some true)
    (a25 : PySem.W.recIn K pp_Object_size "property" = some (.ref f25 :: rr_Object_size)) (l25 : K.lookup f25 = some ⟨oc25, od25, .func (PySem.W.fnOf "size" "Object.size" (defArgs s_Object_size) (defBody s_Object_size) (defScope s_Object_size) .none kV25 dc25 pm25 an25 cd25 ct25), sl25⟩) (c25 : PySem.W.codeIn K cd25 "Object.size" = true) (k25 : PySem.W.keepIn K (.ref f25) = true)
    (a26 : PySem.W.nsIn K mainGlobals "_law_is" = some (some (.ref f26))) (l26 : K.lookup f26 = some ⟨oc26, od26, .func (PySem.W.fnOf "_law_is" "_law_is" (defArgs s__law_is) (defBody s__law_is) (defScope s__law_is) .none kV26 dc26 pm26 an26 cd26 ct26), sl26⟩) (c26 : PySem.W.codeIn K cd26 "_law_is" = true) (k26 : PySem.W.keepIn K (.ref f26) = true)
    (a27 : PySem.W.nsIn K mainGlobals "law" = some (some (.ref f27))) (l27 : K.lookup f27 = some ⟨oc27, od27, .func (PySem.W.fnOf "law" "law" (defArgs s_law) (defBody s_law) (defScope s_law) .none kV27 dc27 pm27 an27 cd27 ct27), sl27⟩) (c27 : PySem.W.codeIn K cd27 "law" = true) (k27 : PySem.W.keepIn K (.ref f27) = true)
    (z_list : PySem.W.nsIn K mainGlobals "list" = some none)
    (z_range : PySem.W.nsIn K mainGlobals "range" = some none)
    (z_len : PySem.W.nsIn K mainGlobals "len" = some none)
    (z_abs : PySem.W.nsIn K mainGlobals "abs" = some none)
    (z_int : PySem.W.nsIn K mainGlobals "int" = some none)
    (z_tuple : PySem.W.nsIn K mainGlobals "tuple" = some none)
    (z_isinstance : PySem.W.nsIn K mainGlobals "isinstance" = some none)
    (z_str : PySem.W.nsIn K mainGlobals "str" = some none)
    (z_bool : PySem.W.nsIn K mainGlobals "bool" = some none)
    (pg_Object : PySem.W.plainGet K C_Object Str.empty = true) (hd_Object : PySem.W.hasDictIn K C_Object = true) (po_Object : PySem.W.plainOver K C_Object = true) (sa_Object : PySem.W.findIn K (.ref C_Object) "__setattr__" = some (some (.builtin "object.__setattr__"))) (n_Object_words : PySem.W.findIn K (.ref C_Object) "words" = some none) (n_Object_functions : PySem.W.findIn K (.ref C_Object) "functions" = some none) (n_Object_data : PySem.W.findIn K (.ref C_Object) "data" = some none) (n_Object_needs : PySem.W.findIn K (.ref C_Object) "needs" = some none) (n_Object_places : PySem.W.findIn K (.ref C_Object) "places" = some none) (n_Object_marks : PySem.W.findIn K (.ref C_Object) "marks" = some none)
    
    (mk_Object : PySem.W.makesIn K C_Object = true) (ki_Object : PySem.W.isFn K (.ref f19) = true) (kc_Object : PySem.W.keepIn K (.ref C_Object) = true)
    (mi_Object_parts : PySem.W.isFn K (.ref f24) = true)
    
    (os_Object___add__ : PySem.W.selfFirst K C_Object = true) (oi_Object___add__ : PySem.W.isFn K (.ref f22) = true)
    : ∃ fd : FuncData, (∀ (s : Shared) (v : Value), BindsTo s fd ⟨[v], []⟩ [("script", v)]) ∧ ∃ G : M.Env, G.K = K ∧ ∀ base : Heap, K.In base → base.Ns mainGlobals mg → FnOk l.prog w K mg base CX0 43 fa0 fd ["script"] (spM G 1 m_law) := by
  have e := hfa.symm.trans (PySem.W.mg_of X G a27)
  cases e
  have F0 := fun_mk (st := s__law_pool) l0 c0 k0
  have B0 := F0.binds (ps := ["script"]) fun _ _ _ _ _ _ us hl => match us, hl with | [_], _ => rfl
  have F1 := fun_mk (st := s__law_table) l1 c1 k1
  have B1 := F1.binds (ps := []) fun _ _ _ _ _ _ us hl => match us, hl with | [], _ => rfl
  have F2 := fun_mk (st := s__law_draw) l2 c2 k2
  have B2 := F2.binds (ps := ["pool", "many"]) fun _ _ _ _ _ _ us hl => match us, hl with | [_, _], _ => rfl
  have F3 := fun_mk (st := s__law_pick) l3 c3 k3
  have B3 := F3.binds (ps := ["pool", "things"]) fun _ _ _ _ _ _ us hl => match us, hl with | [_, _], _ => rfl
  have F4 := fun_mk (st := s__law_many) l4 c4 k4
  have B4 := F4.binds (ps := ["pool"]) fun _ _ _ _ _ _ us hl => match us, hl with | [_], _ => rfl
  have F5 := fun_mk (st := s__law_title) l5 c5 k5
  have B5 := F5.binds (ps := ["pool"]) fun _ _ _ _ _ _ us hl => match us, hl with | [_], _ => rfl
  have F6 := fun_mk (st := s__law_long) l6 c6 k6
  have B6 := F6.binds (ps := ["pool"]) fun _ _ _ _ _ _ us hl => match us, hl with | [_], _ => rfl
  have F7 := fun_mk (st := s__law_want) l7 c7 k7
  have B7 := F7.binds (ps := ["pool"]) fun _ _ _ _ _ _ us hl => match us, hl with | [_], _ => rfl
  have F8 := fun_mk (st := s__law_word) l8 c8 k8
  have B8 := F8.binds (ps := ["pool"]) fun _ _ _ _ _ _ us hl => match us, hl with | [_], _ => rfl
  have F9 := fun_mk (st := s__law_datum) l9 c9 k9
  have B9 := F9.binds (ps := ["pool"]) fun _ _ _ _ _ _ us hl => match us, hl with | [_], _ => rfl
  have F10 := fun_mk (st := s__law_open_row) l10 c10 k10
  have B10 := F10.binds (ps := ["pool", "calls", "outers"]) fun _ _ _ _ _ _ us hl => match us, hl with | [_, _, _], _ => rfl
  have F11 := fun_mk (st := s__law_edge) l11 c11 k11
  have B11 := F11.binds (ps := ["pool", "least", "greatest"]) fun _ _ _ _ _ _ us hl => match us, hl with | [_, _, _], _ => rfl
  have F12 := fun_mk (st := s__law_drawn_row) l12 c12 k12
  have B12 := F12.binds (ps := ["pool", "table"]) fun _ _ _ _ _ _ us hl => match us, hl with | [_, _], _ => rfl
  have F13 := fun_mk (st := s__law_chain) l13 c13 k13
  have B13 := F13.binds (ps := ["pool"]) fun _ _ _ _ _ _ us hl => match us, hl with | [_], _ => rfl
  have F14 := fun_mk (st := s__law_one_word) l14 c14 k14
  have B14 := F14.binds (ps := ["pool", "table", "thing", "calls", "outers"]) fun _ _ _ _ _ _ us hl => match us, hl with | [_, _, _, _, _], _ => rfl
  have F15 := fun_mk (st := s__law_thing) l15 c15 k15
  have B15 := F15.binds (ps := ["pool", "table"]) fun _ _ _ _ _ _ us hl => match us, hl with | [_, _], _ => rfl
  have F16 := fun_mk (st := s__law_like_needs) l16 c16 k16
  have B16 := F16.binds (ps := ["pool", "thing", "others"]) fun _ _ _ _ _ _ us hl => match us, hl with | [_, _, _], _ => rfl
  have F17 := fun_mk (st := s__law_encoded) l17 c17 k17
  have B17 := F17.binds (ps := ["table", "row"]) fun _ _ _ _ _ _ us hl => match us, hl with | [_, _], _ => rfl
  have F18 := fun_mk (st := s__law_parts_of) l18 c18 k18
  have B18 := F18.binds (ps := ["table", "thing"]) fun _ _ _ _ _ _ us hl => match us, hl with | [_, _], _ => rfl
  have F19 := fun_mk (st := s_Object___init__) l19 c19 k19
  have B19 := F19.binds (ps := ["self", "words", "functions", "data", "needs", "places", "marks"]) fun _ _ _ _ _ _ us hl => match us, hl with | [_, _, _, _, _, _, _], _ => rfl
  have F20 := fun_mk (st := s__law_object) l20 c20 k20
  have B20 := F20.binds (ps := ["due"]) fun _ _ _ _ _ _ us hl => match us, hl with | [_], _ => rfl
  have F21 := fun_mk (st := s__law_sum) l21 c21 k21
  have B21 := F21.binds (ps := ["a", "b"]) fun _ _ _ _ _ _ us hl => match us, hl with | [_, _], _ => rfl
  have F22 := fun_mk (st := s_Object___add__) l22 c22 k22
  have B22 := F22.binds (ps := ["self", "other"]) fun _ _ _ _ _ _ us hl => match us, hl with | [_, _], _ => rfl
  have F23 := fun_mk (st := s__law_alike) l23 c23 k23
  have B23 := F23.binds (ps := ["a", "b"]) fun _ _ _ _ _ _ us hl => match us, hl with | [_, _], _ => rfl
  have F24 := fun_mk (st := s_Object_parts) l24 c24 k24
  have B24 := F24.binds (ps := ["self"]) fun _ _ _ _ _ _ us hl => match us, hl with | [_], _ => rfl
  have F25 := fun_mk (st := s_Object_size) l25 c25 k25
  have B25 := F25.binds (ps := ["self"]) fun _ _ _ _ _ _ us hl => match us, hl with | [_], _ => rfl
  have F26 := fun_mk (st := s__law_is) l26 c26 k26
  have B26 := F26.binds (ps := ["one", "due"]) fun _ _ _ _ _ _ us hl => match us, hl with | [_, _], _ => rfl
  have F27 := fun_mk (st := s_law) l27 c27 k27
  have B27 := F27.binds (ps := ["script"]) fun _ _ _ _ _ _ us hl => match us, hl with | [_], _ => rfl
  refine ⟨PySem.W.fnOf "law" "law" (defArgs s_law) (defBody s_law) (defScope s_law) .none kV27 dc27 pm27 an27 cd27 ct27, fun s v => .of_eq rfl, (M.Env.mk K (fun s => if s = "Object" then C_Object else 0) (fun s =>  .ref 0) none), rfl, fun base _ _ => ?_⟩
  have nonfaP : ∀ a : Str, (fun s =>  .ref 0 : Str → V) a ≠ .non := fun a => nf_ref
  have O0 := ok__law_pool (P := l.prog) (w := w) (mg := mg) (base := base) (ca := fun s => if s = "Object" then C_Object else 0) (fa := fun s =>  .ref 0) F0 (PySem.W.mg_none_of X G z_list)
  have C0 : Callee l.prog w K mg base 1 f0 _ "_law_pool" _ (spM (M.Env.mk K (fun s => if s = "Object" then C_Object else 0) (fun s =>  .ref 0) none) 1 m__law_pool) := ⟨O0, k0, B0, PySem.W.mg_of X G a0⟩
  have O1 := ok__law_table (P := l.prog) (w := w) (mg := mg) (base := base) (ca := fun s => if s = "Object" then C_Object else 0) (fa := fun s =>  .ref 0) F1 (PySem.W.mg_none_of X G z_range)
  have C1 : Callee l.prog w K mg base 1 f1 _ "_law_table" _ (spM (M.Env.mk K (fun s => if s = "Object" then C_Object else 0) (fun s =>  .ref 0) none) 0 m__law_table) := ⟨O1, k1, B1, PySem.W.mg_of X G a1⟩
  have O2 := ok__law_draw (P := l.prog) (w := w) (mg := mg) (base := base) (ca := fun s => if s = "Object" then C_Object else 0) (fa := fun s =>  .ref 0) F2 (PySem.W.mg_none_of X G z_len) (PySem.W.mg_none_of X G z_abs) (PySem.W.mg_none_of X G z_int)
  have C2 : Callee l.prog w K mg base 1 f2 _ "_law_draw" _ (spM (M.Env.mk K (fun s => if s = "Object" then C_Object else 0) (fun s =>  .ref 0) none) 2 m__law_draw) := ⟨O2, k2, B2, PySem.W.mg_of X G a2⟩
  have O3 := ok__law_pick (P := l.prog) (w := w) (mg := mg) (base := base) (ca := fun s => if s = "Object" then C_Object else 0) (fa := fun s =>  .ref 0) F3 C2 (PySem.W.mg_none_of X G z_len)
  have C3 : Callee l.prog w K mg base 2 f3 _ "_law_pick" _ (spM (M.Env.mk K (fun s => if s = "Object" then C_Object else 0) (fun s =>  .ref 0) none) 2 m__law_pick) := ⟨O3, k3, B3, PySem.W.mg_of X G a3⟩
  have O4 := ok__law_many (P := l.prog) (w := w) (mg := mg) (base := base) (ca := fun s => if s = "Object" then C_Object else 0) (fa := fun s =>  .ref 0) F4 C3
  have C4 : Callee l.prog w K mg base 3 f4 _ "_law_many" _ (spM (M.Env.mk K (fun s => if s = "Object" then C_Object else 0) (fun s =>  .ref 0) none) 1 m__law_many) := ⟨O4, k4, B4, PySem.W.mg_of X G a4⟩
  have O5 := ok__law_title (P := l.prog) (w := w) (mg := mg) (base := base) (ca := fun s => if s = "Object" then C_Object else 0) (fa := fun s =>  .ref 0) F5 C2 C3 (PySem.W.mg_none_of X G z_range)
  have C5 : Callee l.prog w K mg base 3 f5 _ "_law_title" _ (spM (M.Env.mk K (fun s => if s = "Object" then C_Object else 0) (fun s =>  .ref 0) none) 1 m__law_title) := ⟨O5, k5, B5, PySem.W.mg_of X G a5⟩
  have O6 := ok__law_long (P := l.prog) (w := w) (mg := mg) (base := base) (ca := fun s => if s = "Object" then C_Object else 0) (fa := fun s =>  .ref 0) F6 C3 C2
  have C6 : Callee l.prog w K mg base 3 f6 _ "_law_long" _ (spM (M.Env.mk K (fun s => if s = "Object" then C_Object else 0) (fun s =>  .ref 0) none) 1 m__law_long) := ⟨O6, k6, B6, PySem.W.mg_of X G a6⟩
  have O7 := ok__law_want (P := l.prog) (w := w) (mg := mg) (base := base) (ca := fun s => if s = "Object" then C_Object else 0) (fa := fun s =>  .ref 0) F7 C5 C2 C6
  have C7 : Callee l.prog w K mg base 4 f7 _ "_law_want" _ (spM (M.Env.mk K (fun s => if s = "Object" then C_Object else 0) (fun s =>  .ref 0) none) 1 m__law_want) := ⟨O7, k7, B7, PySem.W.mg_of X G a7⟩
  have O8 := ok__law_word (P := l.prog) (w := w) (mg := mg) (base := base) (ca := fun s => if s = "Object" then C_Object else 0) (fa := fun s =>  .ref 0) F8 C2
  have C8 : Callee l.prog w K mg base 2 f8 _ "_law_word" _ (spM (M.Env.mk K (fun s => if s = "Object" then C_Object else 0) (fun s =>  .ref 0) none) 1 m__law_word) := ⟨O8, k8, B8, PySem.W.mg_of X G a8⟩
  have O9 := ok__law_datum (P := l.prog) (w := w) (mg := mg) (base := base) (ca := fun s => if s = "Object" then C_Object else 0) (fa := fun s =>  .ref 0) F9 C5 C2 C8 C6
  have C9 : Callee l.prog w K mg base 4 f9 _ "_law_datum" _ (spM (M.Env.mk K (fun s => if s = "Object" then C_Object else 0) (fun s =>  .ref 0) none) 1 m__law_datum) := ⟨O9, k9, B9, PySem.W.mg_of X G a9⟩
  have O10 := ok__law_open_row (P := l.prog) (w := w) (mg := mg) (base := base) (ca := fun s => if s = "Object" then C_Object else 0) (fa := fun s =>  .ref 0) F10 C2 C3
  have C10 : Callee l.prog w K mg base 3 f10 _ "_law_open_row" _ (spM (M.Env.mk K (fun s => if s = "Object" then C_Object else 0) (fun s =>  .ref 0) none) 3 m__law_open_row) := ⟨O10, k10, B10, PySem.W.mg_of X G a10⟩
  have O11 := ok__law_edge (P := l.prog) (w := w) (mg := mg) (base := base) (ca := fun s => if s = "Object" then C_Object else 0) (fa := fun s =>  .ref 0) F11 C2
  have C11 : Callee l.prog w K mg base 2 f11 _ "_law_edge" _ (spM (M.Env.mk K (fun s => if s = "Object" then C_Object else 0) (fun s =>  .ref 0) none) 3 m__law_edge) := ⟨O11, k11, B11, PySem.W.mg_of X G a11⟩
  have O12 := ok__law_drawn_row (P := l.prog) (w := w) (mg := mg) (base := base) (ca := fun s => if s = "Object" then C_Object else 0) (fa := fun s =>  .ref 0) F12 C3 C2 C11 (PySem.W.mg_none_of X G z_list)
  have C12 : Callee l.prog w K mg base 3 f12 _ "_law_drawn_row" _ (spM (M.Env.mk K (fun s => if s = "Object" then C_Object else 0) (fun s =>  .ref 0) none) 2 m__law_drawn_row) := ⟨O12, k12, B12, PySem.W.mg_of X G a12⟩
  have O13 := ok__law_chain (P := l.prog) (w := w) (mg := mg) (base := base) (ca := fun s => if s = "Object" then C_Object else 0) (fa := fun s =>  .ref 0) F13 C3 C5 C2 (PySem.W.mg_none_of X G z_range) (PySem.W.mg_none_of X G z_tuple)
  have C13 : Callee l.prog w K mg base 4 f13 _ "_law_chain" _ (spM (M.Env.mk K (fun s => if s = "Object" then C_Object else 0) (fun s =>  .ref 0) none) 1 m__law_chain) := ⟨O13, k13, B13, PySem.W.mg_of X G a13⟩
  have O14 := ok__law_one_word (P := l.prog) (w := w) (mg := mg) (base := base) (ca := fun s => if s = "Object" then C_Object else 0) (fa := fun s =>  .ref 0) F14 C2 C10 C12 C3 C13 (PySem.W.mg_none_of X G z_len)
  have C14 : Callee l.prog w K mg base 5 f14 _ "_law_one_word" _ (spM (M.Env.mk K (fun s => if s = "Object" then C_Object else 0) (fun s =>  .ref 0) none) 5 m__law_one_word) := ⟨O14, k14, B14, PySem.W.mg_of X G a14⟩
  have O15 := ok__law_thing (P := l.prog) (w := w) (mg := mg) (base := base) (ca := fun s => if s = "Object" then C_Object else 0) (fa := fun s =>  .ref 0) F15 C4 C7 C9 C3 C5 C2 C14 (PySem.W.mg_none_of X G z_range) (PySem.W.mg_none_of X G z_len)
  have C15 : Callee l.prog w K mg base 6 f15 _ "_law_thing" _ (spM (M.Env.mk K (fun s => if s = "Object" then C_Object else 0) (fun s =>  .ref 0) none) 2 m__law_thing) := ⟨O15, k15, B15, PySem.W.mg_of X G a15⟩
  have O16 := ok__law_like_needs (P := l.prog) (w := w) (mg := mg) (base := base) (ca := fun s => if s = "Object" then C_Object else 0) (fa := fun s =>  .ref 0) F16 C2 (PySem.W.mg_none_of X G z_int) (PySem.W.mg_none_of X G z_len)
  have C16 : Callee l.prog w K mg base 2 f16 _ "_law_like_needs" _ (spM (M.Env.mk K (fun s => if s = "Object" then C_Object else 0) (fun s =>  .ref 0) none) 3 m__law_like_needs) := ⟨O16, k16, B16, PySem.W.mg_of X G a16⟩
  have O17 := ok__law_encoded (P := l.prog) (w := w) (mg := mg) (base := base) (ca := fun s => if s = "Object" then C_Object else 0) (fa := fun s =>  .ref 0) F17 (PySem.W.mg_none_of X G z_len) (PySem.W.mg_none_of X G z_int)
  have C17 : Callee l.prog w K mg base 1 f17 _ "_law_encoded" _ (spM (M.Env.mk K (fun s => if s = "Object" then C_Object else 0) (fun s =>  .ref 0) none) 2 m__law_encoded) := ⟨O17, k17, B17, PySem.W.mg_of X G a17⟩
  have O18 := ok__law_parts_of (P := l.prog) (w := w) (mg := mg) (base := base) (ca := fun s => if s = "Object" then C_Object else 0) (fa := fun s =>  .ref 0) F18 C17 (PySem.W.mg_none_of X G z_tuple)
  have C18 : Callee l.prog w K mg base 2 f18 _ "_law_parts_of" _ (spM (M.Env.mk K (fun s => if s = "Object" then C_Object else 0) (fun s =>  .ref 0) none) 2 m__law_parts_of) := ⟨O18, k18, B18, PySem.W.mg_of X G a18⟩
  have O19 := ok_Object___init__ (P := l.prog) (w := w) (mg := mg) (base := base) (ca := fun s => if s = "Object" then C_Object else 0) (fa := fun s =>  .ref 0) F19 (if_pos rfl) (PySem.W.mg_of X G zc_Object) ⟨⟨pg_Object, hd_Object, po_Object, sa_Object⟩, by intro f hf; simp only [List.mem_cons, List.not_mem_nil, or_false] at hf; rcases hf with rfl | rfl | rfl | rfl | rfl | rfl <;> assumption⟩ (PySem.W.mg_none_of X G z_tuple)
  have C19 : CalleeM l.prog w K mg base 1 f19 _ _ (spM (M.Env.mk K (fun s => if s = "Object" then C_Object else 0) (fun s =>  .ref 0) none) 7 m_Object___init__) := ⟨O19, B19⟩
  have O20 := ok__law_object (P := l.prog) (w := w) (mg := mg) (base := base) (ca := fun s => if s = "Object" then C_Object else 0) (fa := fun s =>  .ref 0) F20 (if_pos rfl) (PySem.W.mg_of X G zc_Object) ⟨⟨pg_Object, hd_Object, po_Object, sa_Object⟩, by intro f hf; simp only [List.mem_cons, List.not_mem_nil, or_false] at hf; rcases hf with rfl | rfl | rfl | rfl | rfl | rfl <;> assumption⟩ C19 ⟨mk_Object, a19, ki_Object, kc_Object⟩
  have C20 : Callee l.prog w K mg base 3 f20 _ "_law_object" _ (spM (M.Env.mk K (fun s => if s = "Object" then C_Object else 0) (fun s =>  .ref 0) none) 1 m__law_object) := ⟨O20, k20, B20, PySem.W.mg_of X G a20⟩
  have O21 := ok__law_sum (P := l.prog) (w := w) (mg := mg) (base := base) (ca := fun s => if s = "Object" then C_Object else 0) (fa := fun s =>  .ref 0) F21 (PySem.W.mg_none_of X G z_len) (PySem.W.mg_none_of X G z_tuple)
  have C21 : Callee l.prog w K mg base 1 f21 _ "_law_sum" _ (spM (M.Env.mk K (fun s => if s = "Object" then C_Object else 0) (fun s =>  .ref 0) none) 2 m__law_sum) := ⟨O21, k21, B21, PySem.W.mg_of X G a21⟩
  have O22 := ok_Object___add__ (P := l.prog) (w := w) (mg := mg) (base := base) (ca := fun s => if s = "Object" then C_Object else 0) (fa := fun s =>  .ref 0) F22 (if_pos rfl) (PySem.W.mg_of X G zc_Object) ⟨⟨pg_Object, hd_Object, po_Object, sa_Object⟩, by intro f hf; simp only [List.mem_cons, List.not_mem_nil, or_false] at hf; rcases hf with rfl | rfl | rfl | rfl | rfl | rfl <;> assumption⟩ C19 ⟨mk_Object, a19, ki_Object, kc_Object⟩ (PySem.W.mg_none_of X G z_len)
  have C22 : CalleeM l.prog w K mg base 3 f22 _ _ (spM (M.Env.mk K (fun s => if s = "Object" then C_Object else 0) (fun s =>  .ref 0) none) 2 m_Object___add__) := ⟨O22, B22⟩
  have OR23 := ok__law_alike (P := l.prog) (w := w) (mg := mg) (base := base) (ca := fun s => if s = "Object" then C_Object else 0) (fa := fun s =>  .ref 0) nonfaP F23 B23 k23 (PySem.W.mg_of X G a23) (PySem.W.mg_none_of X G z_isinstance) (PySem.W.mg_none_of X G z_list) (PySem.W.mg_none_of X G z_tuple) (PySem.W.mg_none_of X G z_len) (PySem.W.mg_none_of X G z_range) (PySem.W.mg_none_of X G z_str) (PySem.W.mg_none_of X G z_int) (PySem.W.mg_none_of X G z_bool) 40
  have C23 : Callee l.prog w K mg base 41 f23 _ "_law_alike" _ (spM (M.Env.mk K (fun s => if s = "Object" then C_Object else 0) (fun s =>  .ref 0) none) 2 m__law_alike) := ⟨OR23, k23, B23, PySem.W.mg_of X G a23⟩
  have O24 := ok_Object_parts (P := l.prog) (w := w) (mg := mg) (base := base) (ca := fun s => if s = "Object" then C_Object else 0) (fa := fun s =>  .ref 0) F24 (if_pos rfl) (PySem.W.mg_of X G zc_Object) ⟨⟨pg_Object, hd_Object, po_Object, sa_Object⟩, by intro f hf; simp only [List.mem_cons, List.not_mem_nil, or_false] at hf; rcases hf with rfl | rfl | rfl | rfl | rfl | rfl <;> assumption⟩
  have C24 : CalleeM l.prog w K mg base 1 f24 _ _ (spM (M.Env.mk K (fun s => if s = "Object" then C_Object else 0) (fun s =>  .ref 0) none) 1 m_Object_parts) := ⟨O24, B24⟩
  have O25 := ok_Object_size (P := l.prog) (w := w) (mg := mg) (base := base) (ca := fun s => if s = "Object" then C_Object else 0) (fa := fun s =>  .ref 0) F25 (if_pos rfl) (PySem.W.mg_of X G zc_Object) ⟨⟨pg_Object, hd_Object, po_Object, sa_Object⟩, by intro f hf; simp only [List.mem_cons, List.not_mem_nil, or_false] at hf; rcases hf with rfl | rfl | rfl | rfl | rfl | rfl <;> assumption⟩ (PySem.W.mg_none_of X G z_len)
  have C25 : CalleeM l.prog w K mg base 1 f25 _ _ (spM (M.Env.mk K (fun s => if s = "Object" then C_Object else 0) (fun s =>  .ref 0) none) 1 m_Object_size) := ⟨O25, B25⟩
  have O26 := ok__law_is (P := l.prog) (w := w) (mg := mg) (base := base) (ca := fun s => if s = "Object" then C_Object else 0) (fa := fun s =>  .ref 0) F26 (if_pos rfl) (PySem.W.mg_of X G zc_Object) ⟨⟨pg_Object, hd_Object, po_Object, sa_Object⟩, by intro f hf; simp only [List.mem_cons, List.not_mem_nil, or_false] at hf; rcases hf with rfl | rfl | rfl | rfl | rfl | rfl <;> assumption⟩ C23 C24 C25 ⟨a24, mi_Object_parts, k24⟩ ⟨pa_Object_size, pg_Object_size, pt_Object_size, ⟨_, a25⟩⟩ (PySem.W.mg_none_of X G z_len)
  have C26 : Callee l.prog w K mg base 42 f26 _ "_law_is" _ (spM (M.Env.mk K (fun s => if s = "Object" then C_Object else 0) (fun s =>  .ref 0) none) 2 m__law_is) := ⟨O26, k26, B26, PySem.W.mg_of X G a26⟩
  have O27 := ok_law (P := l.prog) (w := w) (mg := mg) (base := base) (ca := fun s => if s = "Object" then C_Object else 0) (fa := fun s =>  .ref 0) F27 (if_pos rfl) (PySem.W.mg_of X G zc_Object) ⟨⟨pg_Object, hd_Object, po_Object, sa_Object⟩, by intro f hf; simp only [List.mem_cons, List.not_mem_nil, or_false] at hf; rcases hf with rfl | rfl | rfl | rfl | rfl | rfl <;> assumption⟩ C0 C1 C15 C16 C18 C20 C21 C22 C26 ⟨os_Object___add__, a22, oi_Object___add__⟩ (PySem.W.mg_none_of X G z_range) (PySem.W.mg_none_of X G z_list)
  exact O27
end Lk60
open PySem PySem.W PyProof.Rows
set_option maxRecDepth 100000 in
set_option maxHeartbeats 0 in
theorem PySem.Challenge.cw_sameruns_k60_join_brackets_holds : PySem.Challenge.rw_sameruns_k60_join_brackets.Holds := by
  refine Lk60.top ?_
  k_fill
  refine L2.walk_of (l := PySem.Challenge.rw_sameruns_k60_join_brackets) (n := 63) (k := 43) (x := "script") (CX := fun _ => L2.CX0) (sp := fun w => M.spLaw _) rfl (by decide) rfl ⟨rfl, by decide, by decide⟩ (fun w h Y => PySem.W.kIn_of Y) ?F (fun _ _ a ns hl _ hS => ⟨a, ns, rfl, hS, hl, fun _ => rfl⟩) (fun _ _ _ _ _ h => h)
  case F =>
    intro w mg fa h KX G hmg
    refine' M.law_end Lk60.law_true (Lk60.all_mk KX G hmg ?zc_Object ?a0 ?l0 ?c0 ?k0 ?a1 ?l1 ?c1 ?k1 ?a2 ?l2 ?c2 ?k2 ?a3 ?l3 ?c3 ?k3 ?a4 ?l4 ?c4 ?k4 ?a5 ?l5 ?c5 ?k5 ?a6 ?l6 ?c6 ?k6 ?a7 ?l7 ?c7 ?k7 ?a8 ?l8 ?c8 ?k8 ?a9 ?l9 ?c9 ?k9 ?a10 ?l10 ?c10 ?k10 ?a11 ?l11 ?c11 ?k11 ?a12 ?l12 ?c12 ?k12 ?a13 ?l13 ?c13 ?k13 ?a14 ?l14 ?c14 ?k14 ?a15 ?l15 ?c15 ?k15 ?a16 ?l16 ?c16 ?k16 ?a17 ?l17 ?c17 ?k17 ?a18 ?l18 ?c18 ?k18 ?a19 ?l19 ?c19 ?k19 ?a20 ?l20 ?c20 ?k20 ?a21 ?l21 ?c21 ?k21 ?a22 ?l22 ?c22 ?k22 ?a23 ?l23 ?c23 ?k23 ?a24 ?l24 ?c24 ?k24 ?pa_Object_size ?pg_Object_size ?pt_Object_size ?a25 ?l25 ?c25 ?k25 ?a26 ?l26 ?c26 ?k26 ?a27 ?l27 ?c27 ?k27 ?z_list ?z_range ?z_len ?z_abs ?z_int ?z_tuple ?z_isinstance ?z_str ?z_bool ?pg_Object ?hd_Object ?po_Object ?sa_Object ?n_Object_words ?n_Object_functions ?n_Object_data ?n_Object_needs ?n_Object_places ?n_Object_marks ?mk_Object ?ki_Object ?kc_Object ?mi_Object_parts ?os_Object___add__ ?oi_Object___add__)
    (case zc_Object => k_is); (case a0 => k_is); (case l0 => k_is); (case c0 => k_is); (case k0 => k_is); (case a1 => k_is); (case l1 => k_is); (case c1 => k_is); (case k1 => k_is); (case a2 => k_is); (case l2 => k_is); (case c2 => k_is); (case k2 => k_is); (case a3 => k_is); (case l3 => k_is); (case c3 => k_is); (case k3 => k_is); (case a4 => k_is); (case l4 => k_is); (case c4 => k_is); (case k4 => k_is); (case a5 => k_is); (case l5 => k_is); (case c5 => k_is); (case k5 => k_is); (case a6 => k_is); (case l6 => k_is); (case c6 => k_is); (case k6 => k_is); (case a7 => k_is); (case l7 => k_is); (case c7 => k_is); (case k7 => k_is); (case a8 => k_is); (case l8 => k_is); (case c8 => k_is); (case k8 => k_is); (case a9 => k_is); (case l9 => k_is); (case c9 => k_is); (case k9 => k_is); (case a10 => k_is); (case l10 => k_is); (case c10 => k_is); (case k10 => k_is); (case a11 => k_is); (case l11 => k_is); (case c11 => k_is); (case k11 => k_is); (case a12 => k_is); (case l12 => k_is); (case c12 => k_is); (case k12 => k_is); (case a13 => k_is); (case l13 => k_is); (case c13 => k_is); (case k13 => k_is); (case a14 => k_is); (case l14 => k_is); (case c14 => k_is); (case k14 => k_is); (case a15 => k_is); (case l15 => k_is); (case c15 => k_is); (case k15 => k_is); (case a16 => k_is); (case l16 => k_is); (case c16 => k_is); (case k16 => k_is); (case a17 => k_is); (case l17 => k_is); (case c17 => k_is); (case k17 => k_is); (case a18 => k_is); (case l18 => k_is); (case c18 => k_is); (case k18 => k_is); (case a19 => k_is); (case l19 => k_is); (case c19 => k_is); (case k19 => k_is); (case a20 => k_is); (case l20 => k_is); (case c20 => k_is); (case k20 => k_is); (case a21 => k_is); (case l21 => k_is); (case c21 => k_is); (case k21 => k_is); (case a22 => k_is); (case l22 => k_is); (case c22 => k_is); (case k22 => k_is); (case a23 => k_is); (case l23 => k_is); (case c23 => k_is); (case k23 => k_is); (case a24 => k_is); (case l24 => k_is); (case c24 => k_is); (case k24 => k_is); (case pa_Object_size => k_is); (case pg_Object_size => k_is); (case pt_Object_size => k_is); (case a25 => k_is); (case l25 => k_is); (case c25 => k_is); (case k25 => k_is); (case a26 => k_is); (case l26 => k_is); (case c26 => k_is); (case k26 => k_is); (case a27 => k_is); (case l27 => k_is); (case c27 => k_is); (case k27 => k_is); (case z_list => k_is); (case z_range => k_is); (case z_len => k_is); (case z_abs => k_is); (case z_int => k_is); (case z_tuple => k_is); (case z_isinstance => k_is); (case z_str => k_is); (case z_bool => k_is); (case pg_Object => k_is); (case hd_Object => k_is); (case po_Object => k_is); (case sa_Object => k_is); (case n_Object_words => k_is); (case n_Object_functions => k_is); (case n_Object_data => k_is); (case n_Object_needs => k_is); (case n_Object_places => k_is); (case n_Object_marks => k_is); (case mk_Object => k_is); (case ki_Object => k_is); (case kc_Object => k_is); (case mi_Object_parts => k_is); (case os_Object___add__ => k_is); (case oi_Object___add__ => k_is)
