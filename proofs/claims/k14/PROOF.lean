import PyProof.Rows.All
import Wide.All
import OpenK.AllK
import Wide.FinOn
import KE.KStateDown
import Lean
import KE.GoesMore
import KE.GoesEnum
import KE.KExcIs
import HandS.ForMost
import HandS.Exc
import HandS.TryOnly
import HandS.ExcOwn
import HandS.WordsExc
import HandS.IsInst
import HandS.ExcInit
import HandS.ExcField
import HandS.ExcIs
import HandS.ClsMeth
import HandS.CallSlots
import HandS.Codes
import HandS.Zip
import HandS.Walk
import HandS.TupLe
import HandS.TupAny
import HandS.Conv
import HandS.Wide
import HandS.Flow
import HandS.HeadNt
import HandS.Head0
import HandS.Head1
import HandS.Head2
import HandS.HeadEnd
import HandS.Deep
import HandS.SortInts
import HandS.SortRule
import PyProof.TupleOfSeq
import HandS.WideBits
import HandS.IterVal
import HandS.Property
import KE.DataFind
import HandS.SetFor
import HandS.SetKeys
import PyProof.GenRules
import PyProof.GenQ
import HandS.GenList
import HandS.NamedTupSort
import HandS.TupMul
import HandS.OwnIter
import HandS.DictComp
import KE.BitLaws
import PySem.Challenge.RW_everypart_k14_chromatic_number_and_an_op
set_option Elab.async false
set_option linter.all false
set_option maxRecDepth 100000
set_option maxHeartbeats 4000000
namespace Ev
open PySem PySem.Spec PyProof.Rows L2
inductive Tg where | non | bl | int | str | lst | tup | gr
  deriving DecidableEq
def Tg.s : Tg → String
  | .non => "NoneType" | .bl => "bool" | .int => "int" | .str => "str" | .lst => "list" | .tup => "tuple" | .gr => ""
def Tg.v (C : Addr) : Tg → Value
  | .gr => .ref C
  | g => .type g.s
def tag (C : Addr) (H : Hp) : V → Option Tg
  | .non => some .non
  | .bl _ => some .bl
  | .int _ => some .int
  | .str _ => some .str
  | .ref a => match H a with
    | some (.lst _) => some .lst
    | some (.tup _) => some .tup
    | some (.ins D _ _) => if D = C then some .gr else none
    | _ => none
  | _ => none
/-- what the text says of the class Graph -/
structure GrT (K : PySem.W.Frag) (C : Addr) : Prop where
  cl : Cls K C
  ha : PySem.W.findIn K (.ref C) "__class__" = some (some (.builtin "object.__class__"))
  hn : PySem.W.specialIn K (.builtin "object.__class__") "__get__" = some (some (.builtin "getset_descriptor.__get__"))
  htk : PySem.W.takesIn K (.builtin "object.__class__") = some true
  hm : PySem.W.mroIn K C (.type "object") = some true
  kg : ∀ g : Tg, g ≠ .gr → g ≠ .non → PySem.W.kitOne K (.ref C) (.type g.s) = some false
  kb : ∀ g : Tg, g ≠ .gr → PySem.W.kitOne K (.type g.s) (.ref C) = some false
  kk : PySem.W.kitOne K (.ref C) (.ref C) = some true
section
variable {K : PySem.W.Frag} {C : Addr} {H H' : Hp} {v : V} {g : Tg}
def Tg.is (g : Tg) (n : Tg) : Bool := decide (g = n) || (decide (g = .bl) && decide (n = .int))
end
structure B0 (mg : Str → Option Value) : Prop where
  isi : mg "isinstance" = none
  int : mg "int" = none
  bool : mg "bool" = none
  len : mg "len" = none
  list : mg "list" = none
  tuple : mg "tuple" = none
  str : mg "str" = none
  all : mg "all" = none
  zip : mg "zip" = none
  range : mg "range" = none
  enumerate : mg "enumerate" = none
  abs : mg "abs" = none
  min : mg "min" = none
structure KP (p : Addr) (H H' : Hp) : Prop where
  nl : ∀ b o, H b = some o → (∀ zs, o ≠ .lst zs) → H' b = some o
  ls : ∀ b zs, b ≠ p → H b = some (.lst zs) → H' b = some (.lst zs)
theorem KP.refl (p : Addr) (H : Hp) : KP p H H := ⟨fun _ _ h _ => h, fun _ _ _ h => h⟩
theorem KP.trans {p : Addr} {H H1 H2 : Hp} (a : KP p H H1) (b : KP p H1 H2) : KP p H H2 := ⟨fun c o h n => b.nl c o (a.nl c o h n) n, fun c zs n h => b.ls c zs n (a.ls c zs n h)⟩
theorem KP.of {p : Addr} {H H' : Hp} (s : Same H H') : KP p H H' := ⟨fun b o h _ => s b o h, fun b zs _ h => s b _ h⟩
theorem KP.tup {p : Addr} {H H' : Hp} (k : KP p H H') {b : Addr} {xs : List V} (h : H b = some (.tup xs)) : H' b = some (.tup xs) := k.nl b _ h (fun _ z => nomatch z)
theorem KP.ins {p : Addr} {H H' : Hp} (k : KP p H H') {b C d : Addr} {fs : List (Str × V)} (h : H b = some (.ins C d fs)) : H' b = some (.ins C d fs) := k.nl b _ h (fun _ z => nomatch z)
theorem KP.put {p : Addr} {H : Hp} {zs ws : List V} (h : H p = some (.lst zs)) : KP p H (upd H p (.lst ws)) := ⟨fun b o e n => by
    have hb : b ≠ p := fun z => by
      rw [z, h] at e
      exact n zs (Option.some.inj e).symm
    rw [upd_ne hb]; exact e, fun b zs n e => by rw [upd_ne n]; exact e⟩
theorem same_new {H : Hp} {p : Addr} {o : HO} (h : H p = none) : Same H (upd H p o) := fun b x e => by
  rw [upd_ne (ne_of_none e h)]
  exact e
theorem KP.new {p q : Addr} {H : Hp} {o : HO} (h : H q = none) : KP p H (upd H q o) := .of (same_new h)
def PrAt (H : Hp) (x : V) (q : Int × Int) : Prop := ∃ t, x = .ref t ∧ H t = some (.tup [.int q.1, .int q.2])
abbrev PrsAt (H : Hp) : List V → List (Int × Int) → Prop := Paired (PrAt H)
theorem PrAt.kp {p : Addr} {H H' : Hp} {x : V} {q : Int × Int} (k : KP p H H') (h : PrAt H x q) : PrAt H' x q := by
  obtain ⟨t, e, h⟩ := h
  exact ⟨t, e, k.tup h⟩
theorem PrsAt.kp {p : Addr} {H H' : Hp} (k : KP p H H') : ∀ {xs : List V} {ps : List (Int × Int)}, PrsAt H xs ps → PrsAt H' xs ps
  | _, _, .nil => .nil
  | _, _, .cons r t => .cons (r.kp k) (PrsAt.kp k t)
theorem paired_get {α β : Type} {R : α → β → Prop} : ∀ {xs : List α} {us : List β} {i : Nat} {x : α}, Paired R xs us → xs[i]? = some x → ∃ u, us[i]? = some u ∧ R x u
  | _, _, _, _, .nil, e => by simp at e
  | _, _, 0, _, .cons r _, e => by simp at e; subst e; exact ⟨_, rfl, r⟩
  | _, _, i + 1, x, .cons _ t, e => by
    obtain ⟨u, h1, h2⟩ := paired_get (i := i) (x := x) t (by simpa using e)
    exact ⟨u, by simpa using h1, h2⟩
theorem paired_len {α β : Type} {R : α → β → Prop} : ∀ {xs : List α} {us : List β}, Paired R xs us → xs.length = us.length
  | _, _, .nil => rfl
  | _, _, .cons _ t => congrArg Nat.succ (paired_len t)
/-- the vertices joined to i by these edges, in the order of the edges -/
def nbr (ps : List (Int × Int)) (i : Int) : List Int := ps.flatMap fun q => (if q.1 = i then [q.2] else []) ++ (if q.2 = i then [q.1] else [])
def RowsAt (H : Hp) (rs : List V) (n : Nat) (ps : List (Int × Int)) : Prop := rs.length = n ∧ ∀ (i : Nat) (x : V), rs[i]? = some x → ∃ t, x = .ref t ∧ H t = some (.tup ((nbr ps (i : Int)).map V.int))
def upto (n : Nat) : List Int := (List.range n).map fun (i : Nat) => (i : Int)
def grFs (n : Nat) (e vt r : Addr) : List (Str × V) := putF "_rows" (.ref r) (putF "_vertices" (.ref vt) (putF "edges" (.ref e) (putF "size" (.int n) [])))
structure GrAt (C : Addr) (H : Hp) (a : Addr) (n : Nat) (ps : List (Int × Int)) : Prop where
  ex : ∃ dx e vt r xs rs, H a = some (.ins C dx (grFs n e vt r)) ∧ H e = some (.tup xs) ∧ PrsAt H xs ps ∧ H vt = some (.tup ((upto n).map V.int)) ∧ H r = some (.tup rs) ∧ RowsAt H rs n ps
theorem GrAt.kp {p C : Addr} {H H' : Hp} {a : Addr} {n : Nat} {ps : List (Int × Int)} (k : KP p H H') (h : GrAt C H a n ps) : GrAt C H' a n ps := by
  obtain ⟨dx, e, vt, r, xs, rs, h1, h2, h3, h4, h5, h6, h7⟩ := h.ex
  refine ⟨dx, e, vt, r, xs, rs, k.ins h1, k.tup h2, h3.kp k, k.tup h4, k.tup h5, h6, fun i x hx => ?_⟩
  obtain ⟨t, e1, e2⟩ := h7 i x hx
  exact ⟨t, e1, k.tup e2⟩
def sc : V → Bool
  | .non | .bl _ | .int _ | .str _ => true
  | _ => false
/-- no int here has more than 110 bits -/
def bnd : V → Prop
  | .int i => -1298074214633706907132624082305024 < i ∧ i < 1298074214633706907132624082305024
  | _ => True
def Leaf (C : Addr) (H : Hp) (x y : V) : Prop := (x = y ∧ sc x = true ∧ bnd x) ∨ ∃ a n ps, x = .ref a ∧ y = .ref a ∧ GrAt C H a n ps
def Alk (C : Addr) (S : Addr → Prop) : Nat → Hp → V → V → Prop
  | 0, H, x, y => Leaf C H x y
  | n + 1, H, x, y => Leaf C H x y ∨ ∃ a b xs ys, x = .ref a ∧ y = .ref b ∧ ¬ S a ∧ ¬ S b ∧ ((H a = some (.lst xs) ∧ H b = some (.lst ys)) ∨ (H a = some (.tup xs) ∧ H b = some (.tup ys))) ∧
      xs.length = ys.length ∧ xs.length ≤ 1000 ∧ ∀ (i : Nat) (x y : V), xs[i]? = some x → ys[i]? = some y → Alk C S n H x y
theorem Leaf.kp {C p : Addr} {H H' : Hp} {x y : V} (k : KP p H H') (h : Leaf C H x y) : Leaf C H' x y := by
  rcases h with h | ⟨a, n, ps, e1, e2, g⟩
  · exact .inl h
  · exact .inr ⟨a, n, ps, e1, e2, g.kp k⟩
theorem Alk.kp {C p : Addr} {S : Addr → Prop} {H H' : Hp} (hp : S p) (k : KP p H H') : ∀ {n : Nat} {x y : V}, Alk C S n H x y → Alk C S n H' x y
  | 0, _, _, h => Leaf.kp k h
  | n + 1, x, y, h => by
    rcases h with h | ⟨a, b, xs, ys, e1, e2, na, nb, ho, hl, hm, hc⟩
    · exact .inl (h.kp k)
    · refine .inr ⟨a, b, xs, ys, e1, e2, na, nb, ?_, hl, hm, fun i x y hx hy => Alk.kp hp k (hc i x y hx hy)⟩
      rcases ho with ⟨h1, h2⟩ | ⟨h1, h2⟩
      · exact .inl ⟨k.ls _ _ (fun z => na (z ▸ hp)) h1, k.ls _ _ (fun z => nb (z ▸ hp)) h2⟩
      · exact .inr ⟨k.tup h1, k.tup h2⟩
theorem Alk.same {C : Addr} {S : Addr → Prop} {H H' : Hp} (s : Same H H') : ∀ {n : Nat} {x y : V}, Alk C S n H x y → Alk C S n H' x y
  | 0, _, _, h => Leaf.kp (p := 0) (.of s) h
  | n + 1, x, y, h => by
    rcases h with h | ⟨a, b, xs, ys, e1, e2, na, nb, ho, hl, hm, hc⟩
    · exact .inl (h.kp (p := 0) (.of s))
    · refine .inr ⟨a, b, xs, ys, e1, e2, na, nb, ?_, hl, hm, fun i x y hx hy => Alk.same s (hc i x y hx hy)⟩
      rcases ho with ⟨h1, h2⟩ | ⟨h1, h2⟩
      · exact .inl ⟨s _ _ h1, s _ _ h2⟩
      · exact .inr ⟨s _ _ h1, s _ _ h2⟩
theorem Alk.more {C : Addr} {S T : Addr → Prop} {H : Hp} (hT : ∀ s, T s → S s ∨ H s = none) : ∀ {n : Nat} {x y : V}, Alk C S n H x y → Alk C T n H x y
  | 0, _, _, h => h
  | n + 1, x, y, h => by
    rcases h with h | ⟨a, b, xs, ys, e1, e2, na, nb, ho, hl, hm, hc⟩
    · exact .inl h
    · have f : ∀ {c : Addr} {o : HO}, ¬ S c → H c = some o → ¬ T c := fun {c o} n e t => by
        rcases hT c t with z | z
        · exact n z
        · rw [z] at e; cases e
      refine .inr ⟨a, b, xs, ys, e1, e2, ?_, ?_, ho, hl, hm, fun i x y hx hy => Alk.more hT (hc i x y hx hy)⟩
      · rcases ho with ⟨h1, _⟩ | ⟨h1, _⟩ <;> exact f na h1
      · rcases ho with ⟨_, h1⟩ | ⟨_, h1⟩ <;> exact f nb h1
theorem Alk.up {C : Addr} {S : Addr → Prop} {H : Hp} : ∀ {n : Nat} {x y : V}, Alk C S n H x y → Alk C S (n + 1) H x y
  | 0, _, _, h => .inl h
  | n + 1, x, y, h => by
    rcases h with h | ⟨a, b, xs, ys, e1, e2, na, nb, ho, hl, hm, hc⟩
    · exact .inl h
    · exact .inr ⟨a, b, xs, ys, e1, e2, na, nb, ho, hl, hm, fun i x y hx hy => Alk.up (hc i x y hx hy)⟩
theorem Leaf.bnd {C : Addr} {H : Hp} {x y : V} (h : Leaf C H x y) : bnd x := by
  rcases h with ⟨_, _, h⟩ | ⟨a, n, ps, e1, e2, g⟩
  · exact h
  · subst e1; exact True.intro
theorem Alk.bnd {C : Addr} {S : Addr → Prop} {H : Hp} {n : Nat} {x y : V} (h : Alk C S n H x y) : bnd x := by
  cases n with
  | zero => exact Leaf.bnd h
  | succ n =>
    rcases h with h | ⟨a, b, xs, ys, e1, e2, _⟩
    · exact h.bnd
    · subst e1; exact True.intro
def Pool (p l : Addr) (H : Hp) : Prop := ∃ (i : Nat) (j t : Int) (ns : List Int), H p = some (.lst [.ref l, .int i, .int j, .int t]) ∧ l ≠ p ∧ H l = some (.lst (ns.map V.int)) ∧ ns.length ≤ 63
theorem Pool.same {p l : Addr} {H H' : Hp} (s : Same H H') (h : Pool p l H) : Pool p l H' := by
  obtain ⟨i, j, t, ns, h1, h2, h3, h4⟩ := h
  exact ⟨i, j, t, ns, s _ _ h1, h2, s _ _ h3, h4⟩
theorem Pool.put {p l D : Addr} {H : Hp} {o : HO} (h : Pool p l H) (n1 : p ≠ D) (n2 : l ≠ D) : Pool p l (upd H D o) := by
  obtain ⟨i, j, t, ns, h1, h2, h3, h4⟩ := h
  exact ⟨i, j, t, ns, by rw [upd_ne n1]; exact h1, h2, by rw [upd_ne n2]; exact h3, h4⟩
theorem Pool.at_ {p l : Addr} {H : Hp} (h : Pool p l H) : ∃ o, H p = some o := by
  obtain ⟨i, j, t, ns, h1, _⟩ := h
  exact ⟨_, h1⟩
end Ev
namespace PySem
open AutoSeq1 (wpAny_loadPart')
theorem ev_meets_enum {v : Value} {o : Obj} {H : Heap → Prop} (B : Begins v o H) :
    Meets (Builtin.«enumerate.__new__» ⟨[.type "enumerate", v], []⟩) (fun _ R s => H s.heap ∧
      R (.ok (.ret (.ref (s.heap.push o).objs.size))) { s with heap := (s.heap.push o).push { cls := .type "enumerate", data := .fields #[.none, .bool false, .ref s.heap.objs.size, rawInt 0, .none, .none] } }) :=
  .of_wp fun prog w A R s h => by
    obtain ⟨hp, g, d, tk, os⟩ := s; obtain ⟨h1, h⟩ := h
    have hsub := sub_enumerate
    have q1 : ∀ {A' : Around} {E : Value → Shared → Prop} {Q : Value → Shared → Prop}, Q (.ref hp.objs.size) ⟨hp.push o, g, d, tk, os⟩ → wpAny (model prog w) A' (pyIter v) Q E ⟨hp, g, d, tk, os⟩ :=
      fun q => B.iter prog w _ _ ⟨hp, g, d, tk, os⟩ _ h1 q
    wp_walk using q1
    refine wpAny_stack_any fun st => wpAny_pure ?_
    split
    · rename_i c _ _ _ _ _
      cases (c == Value.type "enumerate")
      · wp_walk using q1
        exact ⟨_, rfl, h⟩
      · wp_walk using q1
        exact ⟨_, rfl, h⟩
    · wp_walk using q1
      exact ⟨_, rfl, h⟩
theorem ev_call_enum {prog : Program} {w : World} {A : Around} {E : Value → Shared → Prop} {s : Shared} {v : Value} {o : Obj} {H : Heap → Prop} {Q : Value → Shared → Prop} (B : Begins v o H) (h1 : H s.heap)
    (h : ∀ h', IsEnum h' (s.heap.objs.size + 1) s.heap.objs.size 0 .none → h'.get? s.heap.objs.size = some o → h'.objs.size = s.heap.objs.size + 2 →
      (∀ b o, s.heap.get? b = some o → h'.get? b = some o) → Q (.ref (s.heap.objs.size + 1)) { s with heap := h' }) :
    wpAny (model prog w) A (call (.type "enumerate") [v]) Q E s := by
  refine callType_new F.called_enumerate (by decide) (F.typeCall_enumerate_1 _) (F.newCall_enumerate_1 _) (fun obj => F.args_object_init_2 obj _) F.entry_enumerate_new
    (ev_meets_enum B) ⟨h1, ?_⟩
  have hz : (s.heap.push o).objs.size = s.heap.objs.size + 1 := Heap.size_push ..
  show _ ∧ _
  rw [hz]
  have he : IsEnum ((s.heap.push o).push { cls := .type "enumerate", data := .fields #[.none, .bool false, .ref s.heap.objs.size, rawInt 0, .none, .none] }) (s.heap.objs.size + 1) s.heap.objs.size 0 .none := by
    have := Heap.get?_push_size (s.heap.push o) (o := { cls := .type "enumerate", data := .fields #[.none, .bool false, .ref s.heap.objs.size, rawInt 0, .none, .none] }) rfl
    rw [hz] at this; exact this
  exact ⟨⟨_, he, rfl⟩, h _ he (Heap.get?_push_of_some _ (Heap.get?_push_size _ B.free)) (by rw [Heap.size_push, hz]) fun b o x => Heap.get?_push_of_some _ (Heap.get?_push_of_some _ x)⟩
theorem ev_enum_end {prog : Program} {w : World} {A : Around} {E : Value → Shared → Prop} {s : Shared} {e it l : Addr} {i : Nat} {items : Array Value} {old : Value} {Q : Option Value → Shared → Prop} (hh : A.handled = none)
    (he : IsEnum s.heap e it i old) (hit : s.heap.IsTupleIter it l i) (hl : s.heap.IsTuple l items) (hx : items[i]? = none)
    (hQ : ∀ h', Heap.ExtBut it s.heap h' → Q none { s with heap := h' }) : wpAny (model prog w) A (pyNext (.ref e)) Q E s := by
  have hT : s.TypeIs (.ref e) "enumerate" := ⟨_, he, rfl⟩
  unfold pyNext
  refine wpAny_bind (wpAny_attempt (wpAny_callSpecial?_slot (name := Str.ofString "__next__") hT F.slot_enumerate_next
    (wpAny_call_entry F.slot_enumerate_next hT F.entry_enumerate_next ?_ (F.args_enumerate_next_1 _))))
  show wpAny _ _ (field (.ref e) 2 >>= _) _ _ _
  refine wpAny_bind (wpAny_field he rfl (x := .ref it) rfl ?_)
  refine wpAny_bind (wpAny_nextOf_tuple_end hh hit hl hx fun h' x he' hx' => ?_)
  obtain ⟨o, ho, hc⟩ := hx'
  refine wpAny_bind (wpAny_isInstance (T := "StopIteration") (b := true) ⟨o, ho, hc⟩ isSubtype_stop ?_)
  exact wpAny_pure (hQ _ he')
end PySem
namespace Ev
open PySem PySem.Spec PyProof.Rows L2
/-- enumerate of the tuple at a -/
def IteT (K : PySem.W.Frag) (a : Addr) : It :=
  ⟨fun i H => ∃ (xs : List V) (x : V), SqT K H a xs ∧ xs[i]? = some x, fun i H v H' => ∃ T x, v = .ref T ∧ H T = none ∧ H' = upd H T (.tup [.int (i : Nat), x]) ∧ ∀ xs, SqT K H a xs → xs[i]? = some x, fun i H => ∃ xs : List V, SqT K H a xs ∧ xs.length ≤ i⟩
theorem turn_enumT {P : Program} {w : World} {K : PySem.W.Frag} {elts : List Expr} {kk : Nat} {tpos : Pos} (a e it : Addr) :
    Turn P w K (.Tuple elts kk tpos) (IteT K a) [e, it] e (fun i h => (∃ old, IsEnum h e it ((i : Nat) : Int) old) ∧ h.IsTupleIter it a i ∧ e ≠ it ∧ a ≠ it ∧ a ≠ e) where
  mem := by simp
  obj := fun i h st b hb => by
    obtain ⟨⟨old, he⟩, ⟨o, ho, hc, hd⟩, _⟩ := st
    have e' : b = e ∨ b = it := by simpa using hb
    rcases e' with z | z
    · rw [z]; exact ⟨_, he, fun v q => nomatch q⟩
    · rw [z]; exact ⟨o, ho, fun v q => by rw [hd] at q; cases q⟩
  keep := fun i h h' st k => let ⟨⟨old, he⟩, hi, hne⟩ := st; ⟨⟨old, k e (by simp) _ he⟩, (let ⟨o, ho, r⟩ := hi; ⟨o, k it (by simp) o ho, r⟩), hne⟩
  item := by
    intro X hP hw hK hc i pins s σ H E I hf st hg
    subst hP hw hK
    obtain ⟨⟨old, he⟩, hit, hne, hai, hae⟩ := st
    obtain ⟨xs, x, hq, hx⟩ := hg
    obtain ⟨its, rv, p, hz⟩ := I.tuple hq
    obtain ⟨u, hu, ru⟩ := rv.get hx
    have hel : e < s.heap.objs.size := Heap.lt_size he
    have hil : it < s.heap.objs.size := by obtain ⟨_, q, _⟩ := hit; exact Heap.lt_size q
    have hD : Draws X.prog X.w X.A.in1 it [it, a] its.toArray.size (fun i v => its.toArray[i]? = some v) (fun i h => h.IsTupleIter it a i ∧ h.IsTuple a its.toArray) := Draws.tuple (A := X.A.in1) (show X.A.in1.handled = none from I.ok.hd hc) it a hai its.toArray
    have hlt : i < its.toArray.size := by
      have := (List.getElem?_eq_some_iff.mp hu).1
      rw [List.size_toArray]; exact this
    refine wpAny_pyNext_enum_itemD hD he ⟨hit, p⟩ hlt hne (by simp [hne, Ne.symm hae]) fun y h' tk hP ho hst hT hsz hk => ?_
    have hy : y = u := by
      have hP' : its[i]? = some y := by simpa using hP
      exact (Option.some.inj (hu.symm.trans hP')).symm
    subst hy
    refine ⟨_, rfl, wpAny_letOwnedTupleGo_enum (s := { s with heap := h', toks := tk + 1 }) ho fun h'' he' sb => ?_⟩
    have hT2 : h''.get? s.heap.objs.size = some { cls := .type "tuple", data := .seq #[.int i tk, y] } := (sb.2 _ (Nat.ne_of_gt hel)).trans hT
    have new : ObjOk X.prog X.w (upd H s.heap.objs.size (.tup [.int (i : Nat), x])) h'' s.heap.objs.size (.tup [.int (i : Nat), x]) :=
      ⟨by show 2 ≤ sizeLine; decide, [.int i tk, y], .cons ⟨_, rfl⟩ (.cons ru .nil), ⟨_, hT2, rfl, _, rfl⟩⟩
    have I1 : Inv X pins σ (upd H s.heap.objs.size (.tup [.int (i : Nat), x])) { s with heap := h'', toks := tk + 1 } :=
      I.turnedNew (ch := [e, it]) (fun b ob hb q => (sb.2 b (fun z => hb (by simp [z]))).trans (hk b ob (fun z => hb (by simp [z])) (fun z => hb (by simp [z])) q)) hf (Nat.le_refl _) new
    refine ⟨.ref s.heap.objs.size, _, I1, rfl, ⟨_, x, rfl, I.hok.fresh (Nat.le_refl _), rfl, fun ys hy => by
      have := I.tuple_inj hy hq
      rw [this]; exact hx⟩, ⟨⟨y, ?_⟩, (let ⟨o, ho, r⟩ := hst.1; ⟨o, (sb.2 it (Ne.symm hne)).trans ho, r⟩), hne, hai, hae⟩, fun b hb => ?_⟩
    · have e1 : ((i + 1 : Nat) : Int) = (i : Int) + 1 := by omega
      rw [e1]; exact he'
    · have hb' : b < s.heap.objs.size := by
        have e' : b = e ∨ b = it := by simpa using hb
        rcases e' with z | z
        · rw [z]; exact hel
        · rw [z]; exact hil
      rw [upd_ne (Nat.ne_of_lt hb')]
      exact (hf b hb).1
  done := by
    intro X hP hw hK hc i pins s σ H E I hf st hg
    subst hP hw hK
    obtain ⟨⟨old, he⟩, hit, hne, hai, hae⟩ := st
    obtain ⟨xs, hq, hx⟩ := hg
    obtain ⟨its, rv, p, hz⟩ := I.tuple hq
    obtain ⟨f0, f1, f2, f3, f4, f5⟩ := hf it (by simp)
    have hl := rv.length
    have hn : its.toArray[i]? = none := by
      rw [List.getElem?_toArray, List.getElem?_eq_none_iff]; omega
    exact ev_enum_end (I.ok.hd hc) he hit p hn fun h' eb => ⟨rfl, I.turned (t' := s.toks) (fun b o hb q => eb b o hb q) f0 f1 f3 f4 f5⟩
  self := fun A i s Q E st h => let ⟨⟨_, he⟩, _⟩ := st; wpAny_pyIter_enum he h
def iEnumA (K : PySem.W.Frag) (ta : TA) : TI := fun σ H R => ta σ H fun vs H1 => ∃ a xs, vs = [.ref a] ∧ ((SqL K H1 a xs ∧ R (Ite K a) H1) ∨ (SqT K H1 a xs ∧ R (IteT K a) H1))
theorem pi_enumA {X : Cx} {e : Expr} {ta : TA} {p pos tpos : Pos} {elts : List Expr} {kk : Nat} (hg : Gl X "enumerate") (hm : X.mg "enumerate" = none) (ha : PA X [e] ta) (hs : starEach [e] X.env = [(false, eval e X.env)] := by rfl) :
    PI X (.Tuple elts kk tpos) (.Call (.Name "enumerate" p) [e] [] pos) (iEnumA X.K ta) := by
  refine ⟨fun pins s σ H R I h => ?_⟩
  refine Call_ (ld_blt I hg hm boot_enumerate (PyProof.Rows.callWith_type1 (thn (ha.run pos pins s σ H _ I h) fun us s1 ⟨vs, H1, I1, r1, q1⟩ => ?_) hs rfl))
  obtain ⟨a, xs, ex, q1⟩ := q1
  subst ex
  cases r1 with
  | cons r rr =>
    cases rr
    cases r
    have fps : ∀ b ∈ [s1.heap.objs.size + 1, s1.heap.objs.size], FpOk X pins H1 b := fun b hb => by
      have e' : b = s1.heap.objs.size + 1 ∨ b = s1.heap.objs.size := by simpa using hb
      have hle : s1.heap.objs.size ≤ b := by
        rcases e' with z | z
        · rw [z]; exact Nat.le_add_right _ _
        · rw [z]; exact Nat.le_refl _
      exact I1.fpOk hle (I1.hok.fresh hle)
    rcases q1 with ⟨hq, q⟩ | ⟨hq, q⟩
    · obtain ⟨its, rv, p', hz⟩ := I1.list hq
      refine call_enumerate_list p'.isList fun h' he hit hsz hk => wpAny_pyIter_enum he ?_
      have I2 : Inv X pins σ H1 { s1 with heap := h' } := I1.kept (t' := s1.toks) hk
      exact ⟨s1.heap.objs.size + 1, [s1.heap.objs.size + 1, s1.heap.objs.size], _, _, H1, rfl, I2, turn_enum a (s1.heap.objs.size + 1) s1.heap.objs.size, ⟨⟨.none, he⟩, hit, Nat.succ_ne_self _⟩, fps, q⟩
    · obtain ⟨its, rv, p', hz⟩ := I1.tuple hq
      have hal : a < s1.heap.objs.size := by obtain ⟨o, ho, _⟩ := p'; exact Heap.lt_size ho
      refine ev_call_enum (begins_tuple a its.toArray) p' fun h' he hit hsz hk => wpAny_pyIter_enum he ?_
      have I2 : Inv X pins σ H1 { s1 with heap := h' } := I1.kept (t' := s1.toks) hk
      exact ⟨s1.heap.objs.size + 1, [s1.heap.objs.size + 1, s1.heap.objs.size], _, _, H1, rfl, I2, turn_enumT a (s1.heap.objs.size + 1) s1.heap.objs.size, ⟨⟨.none, he⟩, ⟨_, hit, rfl, rfl⟩, Nat.succ_ne_self _, Nat.ne_of_lt hal, Nat.ne_of_lt (Nat.lt_succ_of_lt hal)⟩, fps, q⟩
theorem walk_enumT {K : PySem.W.Frag} {a : Addr} {xs : List V} : Walk (IteT K a) xs.length (fun H => SqT K H a xs) (YPair (fun i => some (.int (i : Nat))) (fun i => xs[i]?)) where
  goes := fun i H hi h => ⟨xs, xs[i], h, List.getElem?_eq_getElem hi⟩
  stops := fun H h => ⟨xs, h, Nat.le_refl _⟩
  yields := fun i H x H' hi h hy => by
    obtain ⟨T, y, rfl, hT, rfl, hx⟩ := hy
    exact ⟨T, _, y, rfl, hT, rfl, rfl, hx xs h⟩
theorem walk_zipT {K : PySem.W.Frag} {a b : Addr} {xs ys : List V} {n : Nat} (hn : n = min xs.length ys.length) : Walk (RZ.ItzT K a b) n (fun H => SqT K H a xs ∧ SqT K H b ys) (YPair (fun i => xs[i]?) (fun i => ys[i]?)) where
  goes := fun i H hi h => ⟨xs, ys, xs[i]'(by omega), ys[i]'(by omega), h.1, h.2, List.getElem?_eq_getElem _, List.getElem?_eq_getElem _⟩
  stops := fun H h => ⟨xs, ys, h.1, h.2, by omega⟩
  yields := fun i H x H' hi h hy => by
    obtain ⟨T, y, z, rfl, hT, rfl, hx, hy⟩ := hy
    exact ⟨T, y, z, rfl, hT, rfl, hx xs h.1, hy ys h.2⟩
end Ev
namespace Ev
open PySem PySem.Spec PyProof.Rows L2
def rIsX (K : PySem.W.Frag) (a : Addr) (cls : Value) (d : Option Addr) : List V → Hp → VK → Prop := fun xs H Q => ∃ (D : Addr) (c : V) (cv : Value) (b : Bool) (dd : Addr) (fs : List (Str × V)), xs = [.ref a, c] ∧ cls = .ref D ∧ d = some dd ∧ H dd = some (.xd fs) ∧ ExcC K D ∧ ClsV c cv ∧
  PySem.W.kitOne K (.ref D) cv = some b ∧ Q (.bl b) H
theorem call_isX {X : Cx} {a : Addr} {cls : Value} {d : Option Addr} {oe : Obj} {pn : List (Addr × Obj)} (hz : Zc cls d oe) (hf : ∃ vs, oe.data = .fields vs) : CallR (X.suite a ((a, oe) :: pn)) (.builtin "isinstance") (rIsX X.K a cls d) := by
  intro pins s σ H xs us Q I r h
  obtain ⟨D, c, cv, b, dd, fs, rfl, ec, ed, hd, C, hcv, e, q⟩ := h
  cases r with
  | cons rx rr =>
    cases rr with
    | cons rt rr =>
      cases rr
      cases rx
      have ecv := hcv.eq rt
      subst ecv
      subst ec
      subst ed
      obtain ⟨hget, _⟩ := I.pin (a, oe) (List.mem_append.mpr (.inl List.mem_cons_self))
      obtain ⟨vs, hv⟩ := hf
      have hx : ObjOk X.prog X.w H s.heap dd (.xd fs) := I.hok dd _ hd
      obtain ⟨mA, hns, hr⟩ := hx
      obtain ⟨od, ho, hl⟩ := lookIn_ns hns
      have J : PySem.W.InstAt s.heap a oe D (some od) := ⟨hget, hz.1, by unfold PySem.W.notCls; rw [hv] <;> rfl, by rw [hz.2]; exact ho⟩
      obtain ⟨cd, hcd, _⟩ := PySem.W.any_some C.hd
      exact PySem.W.kia_one (PySem.W.kitx_exc (by rw [hcd]; rfl) C.hg C.hk C.hs C.ha C.hn C.ht C.hm) I.kIn J e (fun z => nomatch z) fun tk => ⟨.bl b, H, I.kept (t' := tk) fun _ _ z => z, rfl, q⟩
structure OneF (K : PySem.W.Frag) (C fI : Addr) (f : Str) : Prop where
  ox : OexC K C
  no : PySem.W.findIn K (.ref C) f = some none
  iC : PySem.W.findIn K (.ref C) "__init__" = some (some (.ref fI))
  tI : PySem.W.typeIn K (.ref fI) = some (.type "function")
  xf : XfC K C
  ec : ExcC K C
def spOne (K : PySem.W.Frag) (f : Str) : Sp := fun vs H Q _ => ∃ (a C : Addr) (v : V), vs = [.ref a, v] ∧ H a = some (exo a C none) ∧ OexC K C ∧ PySem.W.findIn K (.ref C) f = some none ∧ ∀ dx, H dx = none → dx ≠ a → Q .non (upd (upd H dx (exd dx [(f, v)])) a (exo a C (some dx)))
/-- what such a raise leaves -/
def OneMade (f : Str) (v : V) (H : Hp) (d : Option Addr) (H' : Hp) : Prop := ∃ dd, d = some dd ∧ H' dd = some (.xd [(f, v)]) ∧ Same H H'
theorem one_end {K : PySem.W.Frag} {C fI : Addr} {f : Str} (T : OneF K C fI f) {v : V} {H1 : Hp} {E : XK} (h : ∀ d H', OneMade f v H1 d H' → E (.ref C) d H') :
    ∀ a, H1 a = none → spOne K f (.ref a :: ([v] ++ [])) (upd H1 a (exo a C none))
      (fun v H2 => v = .non ∧ ∃ (d : Addr) (fs : List (Str × V)), H2 a = some (exo a C (some d)) ∧ H2 d = some (exd d fs) ∧ H1 d = none ∧ E (.ref C) (some d) (upd (L2.del H2 a) d (.xd fs))) (fun _ _ _ => False) := by
  intro a ha
  refine ⟨a, C, v, rfl, upd_same, T.ox, T.no, fun dx hdx hne => ⟨rfl, dx, [(f, v)], upd_same, ?_, ?_, ?_⟩⟩
  · rw [upd_ne hne]; exact upd_same
  · rw [upd_ne hne] at hdx; exact hdx
  · refine h _ _ ⟨dx, rfl, upd_same, fun b o e => ?_⟩
    have hba : b ≠ a := ne_of_none e ha
    have hbd : b ≠ dx := fun z => by
      rw [← z, upd_ne hba, e] at hdx
      cases hdx
    rw [upd_ne hbd, L2.del_ne hba, upd_ne hba, upd_ne hbd, upd_ne hba]
    exact e
end Ev
namespace EvH
open PySem PySem.Spec PyProof.Rows L2 He Ev
def oexB (K : PySem.W.Frag) (C : Addr) : Bool := (match K.lookup C with
    | some ⟨.type "type", _, .cls cd, sl⟩ => (match cd.mro, sl.toList with
      | .ref D :: bm, [_, _, _, _, some (.builtin n), _] => D == C && (n == "ValueError.__new__" && (!cd.hasDel && (cd.hasDict && PySem.HandSPX.refsVE bm)))
      | _, _ => false)
    | _ => false) && (eqO (PySem.W.findIn K (.ref C) "__setattr__") (some (some (.builtin "object.__setattr__"))) && (decide (PySem.W.subIn K (.ref C) (.type "BaseException") = some true) &&
    (decide (PySem.W.typeIn K (.ref C) = some (.type "type")) && PySem.W.keepIn K (.ref C))))
theorem oexB_ok {K : PySem.W.Frag} {C : Addr} (h : oexB K C = true) : OexC K C := by
  obtain ⟨h1, h⟩ := ba h
  obtain ⟨h2, h⟩ := ba h
  obtain ⟨h3, h⟩ := ba h
  obtain ⟨h4, h5⟩ := ba h
  refine ⟨?_, eqO_ok h2, of_decide_eq_true h3, of_decide_eq_true h4, h5⟩
  clear h h2 h3 h4 h5
  split at h1
  · rename_i dd cd sl ho
    split at h1
    · rename_i D bm k0 k1 k2 k3 n k5 hm hs
      obtain ⟨e1, h1⟩ := ba h1
      obtain ⟨e2, h1⟩ := ba h1
      obtain ⟨e3, h1⟩ := ba h1
      obtain ⟨e4, e5⟩ := ba h1
      obtain rfl : D = C := eq_of_beq e1
      obtain rfl : n = "ValueError.__new__" := eq_of_beq e2
      obtain ⟨nm, bs, mro, ns, qn, hd, sn, sub, ab, col, del⟩ := cd
      dsimp only at hm e3 e4
      subst hm e4
      have e3 : del = false := by cases del with
        | false => rfl
        | true => cases e3
      subst e3
      have hsl : sl = #[k0, k1, k2, k3, some (.builtin "ValueError.__new__"), k5] := by
        obtain ⟨l⟩ := sl
        simp only at hs
        rw [hs]
      subst hsl
      exact ⟨nm, qn, ns, bs, bm, sn, sub, ab, col, dd, k0, k1, k2, k3, k5, ho, e5⟩
    · cases h1
  · cases h1
def gets (K : PySem.W.Frag) (C : Addr) : Bool := eqO (PySem.W.findIn K (.ref C) "__class__") (some (some (.builtin "object.__class__"))) && (decide (PySem.W.specialIn K (.builtin "object.__class__") "__get__" = some (some (.builtin "getset_descriptor.__get__"))) &&
  (decide (PySem.W.takesIn K (.builtin "object.__class__") = some true) && decide (PySem.W.mroIn K C (.type "object") = some true)))
def oneB (K : PySem.W.Frag) (C : Addr) (f : Str) : Bool := oexB K C && (eqO (PySem.W.findIn K (.ref C) f) (some none) && (eqO (PySem.W.findIn K (.ref C) "__init__") (some (some (.ref (ma K C "__init__")))) &&
  (decide (PySem.W.typeIn K (.ref (ma K C "__init__")) = some (.type "function")) && (xfB K C && gets K C))))
theorem oneB_ok {K : PySem.W.Frag} {C : Addr} {f : Str} (h : oneB K C f = true) : OneF K C (ma K C "__init__") f := by
  obtain ⟨h1, h⟩ := ba h
  obtain ⟨h2, h⟩ := ba h
  obtain ⟨h3, h⟩ := ba h
  obtain ⟨h4, h⟩ := ba h
  obtain ⟨h5, h6⟩ := ba h
  have X := xfB_ok h5
  obtain ⟨g1, g⟩ := ba h6
  obtain ⟨g2, g⟩ := ba g
  obtain ⟨g3, g4⟩ := ba g
  exact ⟨oexB_ok h1, eqO_ok h2, eqO_ok h3, of_decide_eq_true h4, X, ⟨X.ga, X.gg, X.exC, X.hdC, eqO_ok g1, of_decide_eq_true g2, of_decide_eq_true g3, of_decide_eq_true g4⟩⟩
def tgs : List Tg := [.non, .bl, .int, .str, .lst, .tup]
def grB (K : PySem.W.Frag) (C : Addr) : Bool := PySem.W.plainGet K C Str.empty && (PySem.W.hasDictIn K C && (PySem.W.plainOver K C && (eqO (PySem.W.findIn K (.ref C) "__setattr__") (some (some (.builtin "object.__setattr__"))) && (gets K C &&
  ((tgs.drop 1).all (fun g => decide (PySem.W.kitOne K (.ref C) (.type g.s) = some false)) && (tgs.all (fun g => decide (PySem.W.kitOne K (.type g.s) (.ref C) = some false)) && decide (PySem.W.kitOne K (.ref C) (.ref C) = some true)))))))
theorem grB_ok {K : PySem.W.Frag} {C : Addr} (h : grB K C = true) : GrT K C := by
  obtain ⟨h1, h⟩ := ba h
  obtain ⟨h2, h⟩ := ba h
  obtain ⟨h3, h⟩ := ba h
  obtain ⟨h4, h⟩ := ba h
  obtain ⟨h5, h⟩ := ba h
  obtain ⟨h6, h⟩ := ba h
  obtain ⟨h7, h8⟩ := ba h
  obtain ⟨g1, g⟩ := ba h5
  obtain ⟨g2, g⟩ := ba g
  obtain ⟨g3, g4⟩ := ba g
  refine ⟨⟨h1, h2, h3, eqO_ok h4⟩, eqO_ok g1, of_decide_eq_true g2, of_decide_eq_true g3, of_decide_eq_true g4, fun g e1 e2 => ?_, fun g e => ?_, of_decide_eq_true h8⟩
  · refine of_decide_eq_true (List.all_eq_true.mp h6 g ?_)
    cases g <;> first | exact absurd rfl e1 | exact absurd rfl e2 | (simp [tgs])
  · refine of_decide_eq_true (List.all_eq_true.mp h7 g ?_)
    cases g <;> first | exact absurd rfl e | (simp [tgs])
def mkB (K : PySem.W.Frag) (C : Addr) : Bool := PySem.W.makesIn K C && (eqO (PySem.W.findIn K (.ref C) "__init__") (some (some (.ref (ma K C "__init__")))) && (PySem.W.isFn K (.ref (ma K C "__init__")) && PySem.W.keepIn K (.ref C)))
theorem mkB_ok {K : PySem.W.Frag} {C : Addr} (h : mkB K C = true) : Mk K C (ma K C "__init__") := by
  obtain ⟨h1, h⟩ := ba h
  obtain ⟨h2, h⟩ := ba h
  obtain ⟨h3, h4⟩ := ba h
  exact ⟨h1, eqO_ok h2, h3, h4⟩
def exmB (K : PySem.W.Frag) (a b : Addr) (v : Bool) : Bool := decide (PySem.W.exmOne K (.ref a) (.ref b) = some v)
def kitB (K : PySem.W.Frag) (a b : Addr) (v : Bool) : Bool := decide (PySem.W.kitOne K (.ref a) (.ref b) = some v)
def obsEv (fa : List Fa) (ex : PySem.W.Frag → Bool) (fn : List He5.DefA) (K : PySem.W.Frag) : He.AlD := ((fa.all fun f => f.ok K) && (ex K && fn.all fun d => d.ok K), fn.map fun d => He5.fnA K (d.at_ K))
def valEv (fn : List He5.DefA) : He.AlD := (true, fn.map He5.DefA.val)
def SaysEv (fa : List Fa) (ex : PySem.W.Frag → Bool) (fn : List He5.DefA) (K : PySem.W.Frag) : Prop := obsEv fa ex fn K = valEv fn
def obsEvG (n : Nat) (fa : List Fa) (ex : PySem.W.Frag → Bool) (fn : List He5.DefA) (g : Addr → Option Obj) : He.AlD := obsEv fa ex fn (frG g (He5.asA g n))
def hookEv (n : Nat) (fa : List Fa) (ex : PySem.W.Frag → Bool) (fn : List He5.DefA) : PySem.W.Hook where
  α := He.AlD
  obs := fun s => obsEvG n fa ex fn s.heap.get?
  val := fun _ => valEv fn
  says := fun _ h => ∃ K : PySem.W.Frag, K.In h ∧ SaysEv fa ex fn K
  of := fun _ _ e => ⟨_, frG_in, e⟩
  keeps := fun _ _ _ ⟨K, hK, c⟩ k => ⟨K, PySem.W.Frag.In.keeps hK k, c⟩
theorem obsEvG_eq {n : Nat} {fa : List Fa} {ex : PySem.W.Frag → Bool} {fn : List He5.DefA} {g : Addr → Option Obj} {s : Shared} (h : ∀ a, g a = s.heap.get? a) : obsEvG n fa ex fn g = (hookEv n fa ex fn).obs s := by
  have e : g = s.heap.get? := funext h
  rw [e] <;> rfl
section
variable {fa : List Fa} {ex : PySem.W.Frag → Bool} {fn : List He5.DefA} {K : PySem.W.Frag}
theorem SaysEv.more (c : SaysEv fa ex fn K) : ex K = true := (ba (ba (show ((fa.all fun f => f.ok K) && (ex K && fn.all fun d => d.ok K)) = true from congrArg (fun z : He.AlD => z.1) c)).2).1
theorem SaysEv.fact (c : SaysEv fa ex fn K) (i : Nat) {f : Fa} (h : fa[i]? = some f := by rfl) : f.ok K = true := by
  have c1 := (ba (show ((fa.all fun f => f.ok K) && (ex K && fn.all fun d => d.ok K)) = true from congrArg (fun z : He.AlD => z.1) c)).1
  exact List.all_eq_true.mp c1 f (List.mem_of_getElem? h)
theorem SaysEv.def_ (c : SaysEv fa ex fn K) (i : Nat) {d : He5.DefA} (h : fn[i]? = some d := by rfl) : ∃ fd, L2.FunD K d.name d.qual d.params d.body d.scope (d.dvs K) (d.kws K) (d.at_ K) fd := by
  have c2 := (ba (ba (show ((fa.all fun f => f.ok K) && (ex K && fn.all fun d => d.ok K)) = true from congrArg (fun z : He.AlD => z.1) c)).2).2
  have e : fn.map (fun d => He5.fnA K (d.at_ K)) = fn.map He5.DefA.val := congrArg (fun z : He.AlD => z.2) c
  have e2 : (fn.map fun d => He5.fnA K (d.at_ K))[i]? = (fn.map He5.DefA.val)[i]? := by rw [e]
  rw [List.getElem?_map, List.getElem?_map, h] at e2
  exact He5.DefA.funD (Option.some.inj e2) (List.all_eq_true.mp c2 d (List.mem_of_getElem? h))
end
/-- a def of the module -/
def dG (x : Str) (st : Stmt) : He5.DefA := ⟨fun K => ga K x, x, x, defArgs st, defBody st, defScope st, [], []⟩
/-- a method of a class -/
def dM (c m qual : Str) (st : Stmt) : He5.DefA := ⟨fun K => ma K (ga K c) m, m, qual, defArgs st, defBody st, defScope st, [], []⟩
theorem SaysEv.fun_ {fa : List Fa} {ex : PySem.W.Frag → Bool} {fn : List He5.DefA} {K : PySem.W.Frag} (c : SaysEv fa ex fn K) (i : Nat) {at_ : PySem.W.Frag → Addr} {x q : Str} {st : Stmt} (h : fn[i]? = some ⟨at_, x, q, defArgs st, defBody st, defScope st, [], []⟩ := by rfl) : ∃ fd, L2.Fun K x q st (at_ K) fd := by
  obtain ⟨fd, F⟩ := c.def_ i h
  exact ⟨fd, He5.fun_of F⟩
end EvH
namespace Ev
open PySem PySem.Spec PyProof.Rows L2
def top (i : Nat) : Stmt := PySem.Challenge.pw_everypart_k14_chromatic_number_and_an_op.main.body.getD i (.Pass ⟨0, 0, 0, 0⟩)
def CS : List Str := ["Graph"]
def ES : List Str := ["InvalidNumber", "InvalidGraph", "InvalidSubset", "InvalidColoring", "TooLarge"]
abbrev C_MOST_VERTICES : Int := 24
abbrev C_MOST_EXHAUSTIVE : Int := 8
abbrev s_InvalidNumber___init__ : Stmt := inClass (top 3) 0
abbrev Ns_InvalidNumber___init__ : List Str := ["self", "value"]
theorem scs_InvalidNumber___init__ : FnScope Ns_InvalidNumber___init__ ["self", "value"] (defScope s_InvalidNumber___init__) := ⟨rfl, rfl, rfl, by decide +kernel, rfl, by decide +kernel, by decide +kernel⟩
abbrev s_InvalidGraph___init__ : Stmt := inClass (top 4) 0
abbrev Ns_InvalidGraph___init__ : List Str := ["self", "part", "place"]
theorem scs_InvalidGraph___init__ : FnScope Ns_InvalidGraph___init__ ["self", "part", "place"] (defScope s_InvalidGraph___init__) := ⟨rfl, rfl, rfl, by decide +kernel, rfl, by decide +kernel, by decide +kernel⟩
abbrev s_InvalidColoring___init__ : Stmt := inClass (top 6) 0
abbrev Ns_InvalidColoring___init__ : List Str := ["self", "value"]
theorem scs_InvalidColoring___init__ : FnScope Ns_InvalidColoring___init__ ["self", "value"] (defScope s_InvalidColoring___init__) := ⟨rfl, rfl, rfl, by decide +kernel, rfl, by decide +kernel, by decide +kernel⟩
abbrev s_TooLarge___init__ : Stmt := inClass (top 7) 0
abbrev Ns_TooLarge___init__ : List Str := ["self", "what"]
theorem scs_TooLarge___init__ : FnScope Ns_TooLarge___init__ ["self", "what"] (defScope s_TooLarge___init__) := ⟨rfl, rfl, rfl, by decide +kernel, rfl, by decide +kernel, by decide +kernel⟩
abbrev s_is_integer : Stmt := top 9
abbrev Ns_is_integer : List Str := ["value"]
theorem scs_is_integer : FnScope Ns_is_integer ["value"] (defScope s_is_integer) := ⟨rfl, rfl, rfl, by decide +kernel, rfl, by decide +kernel, by decide +kernel⟩
abbrev s_is_between : Stmt := top 10
abbrev Ns_is_between : List Str := ["value", "least", "greatest"]
theorem scs_is_between : FnScope Ns_is_between ["value", "least", "greatest"] (defScope s_is_between) := ⟨rfl, rfl, rfl, by decide +kernel, rfl, by decide +kernel, by decide +kernel⟩
abbrev s_is_sequence : Stmt := top 11
abbrev Ns_is_sequence : List Str := ["value"]
theorem scs_is_sequence : FnScope Ns_is_sequence ["value"] (defScope s_is_sequence) := ⟨rfl, rfl, rfl, by decide +kernel, rfl, by decide +kernel, by decide +kernel⟩
abbrev s_is_pair : Stmt := top 12
abbrev Ns_is_pair : List Str := ["value"]
theorem scs_is_pair : FnScope Ns_is_pair ["value"] (defScope s_is_pair) := ⟨rfl, rfl, rfl, by decide +kernel, rfl, by decide +kernel, by decide +kernel⟩
abbrev s_is_ascending : Stmt := top 13
abbrev Ns_is_ascending : List Str := ["values", "before", "behind"]
theorem scs_is_ascending : FnScope Ns_is_ascending ["values"] (defScope s_is_ascending) := ⟨rfl, rfl, rfl, by decide +kernel, rfl, by decide +kernel, by decide +kernel⟩
abbrev s_first_fault : Stmt := top 14
abbrev Ns_first_fault : List Str := ["values", "are_right", "place", "value"]
theorem scs_first_fault : FnScope Ns_first_fault ["values", "are_right"] (defScope s_first_fault) := ⟨rfl, rfl, rfl, by decide +kernel, rfl, by decide +kernel, by decide +kernel⟩
abbrev s_require_vertices : Stmt := top 18
abbrev Ns_require_vertices : List Str := ["count", "most"]
theorem scs_require_vertices : FnScope Ns_require_vertices ["count", "most"] (defScope s_require_vertices) := ⟨rfl, rfl, rfl, by decide +kernel, rfl, by decide +kernel, by decide +kernel⟩
abbrev s_require_exhaustible : Stmt := top 19
abbrev Ns_require_exhaustible : List Str := ["graph"]
theorem scs_require_exhaustible : FnScope Ns_require_exhaustible ["graph"] (defScope s_require_exhaustible) := ⟨rfl, rfl, rfl, by decide +kernel, rfl, by decide +kernel, by decide +kernel⟩
abbrev s_mask_of : Stmt := top 21
abbrev Ns_mask_of : List Str := ["subset", "vertex"]
theorem scs_mask_of : FnScope Ns_mask_of ["subset"] (defScope s_mask_of) := ⟨rfl, rfl, rfl, by decide +kernel, rfl, by decide +kernel, by decide +kernel⟩
abbrev s_has_vertex : Stmt := top 22
abbrev Ns_has_vertex : List Str := ["mask", "vertex"]
theorem scs_has_vertex : FnScope Ns_has_vertex ["mask", "vertex"] (defScope s_has_vertex) := ⟨rfl, rfl, rfl, by decide +kernel, rfl, by decide +kernel, by decide +kernel⟩
abbrev s_is_within : Stmt := top 23
abbrev Ns_is_within : List Str := ["part", "mask"]
theorem scs_is_within : FnScope Ns_is_within ["part", "mask"] (defScope s_is_within) := ⟨rfl, rfl, rfl, by decide +kernel, rfl, by decide +kernel, by decide +kernel⟩
abbrev s_independent_masks : Stmt := top 24
abbrev Ns_independent_masks : List Str := ["graph", "found", "vertex", "own", "barred", "longer", "row", "mask"]
theorem scs_independent_masks : FnScope Ns_independent_masks ["graph"] (defScope s_independent_masks) := ⟨rfl, rfl, rfl, by decide +kernel, rfl, by decide +kernel, by decide +kernel⟩
abbrev s_chromatic_numbers : Stmt := top 25
abbrev Ns_chromatic_numbers : List Str := ["sets", "numbers", "mask", "last", "part"]
theorem scs_chromatic_numbers : FnScope Ns_chromatic_numbers ["sets"] (defScope s_chromatic_numbers) := ⟨rfl, rfl, rfl, by decide +kernel, rfl, by decide +kernel, by decide +kernel⟩
abbrev s_color_masks : Stmt := top 26
abbrev Ns_color_masks : List Str := ["mask", "sets", "numbers", "colors", "left", "color"]
theorem scs_color_masks : FnScope Ns_color_masks ["mask", "sets", "numbers"] (defScope s_color_masks) := ⟨rfl, rfl, rfl, by decide +kernel, rfl, by decide +kernel, by decide +kernel⟩
abbrev s_first_color : Stmt := top 27
abbrev Ns_first_color : List Str := ["mask", "sets", "numbers", "last", "inside", "part"]
theorem scs_first_color : FnScope Ns_first_color ["mask", "sets", "numbers"] (defScope s_first_color) := ⟨rfl, rfl, rfl, by decide +kernel, rfl, by decide +kernel, by decide +kernel⟩
abbrev s_normal_form : Stmt := top 29
abbrev Ns_normal_form : List Str := ["coloring", "names", "number"]
theorem scs_normal_form : FnScope Ns_normal_form ["coloring"] (defScope s_normal_form) := ⟨rfl, rfl, rfl, by decide +kernel, rfl, by decide +kernel, by decide +kernel⟩
abbrev s_chromatic_number : Stmt := top 30
abbrev Ns_chromatic_number : List Str := ["graph"]
theorem scs_chromatic_number : FnScope Ns_chromatic_number ["graph"] (defScope s_chromatic_number) := ⟨rfl, rfl, rfl, by decide +kernel, rfl, by decide +kernel, by decide +kernel⟩
abbrev s_optimal_coloring : Stmt := top 31
abbrev Ns_optimal_coloring : List Str := ["graph", "sets"]
theorem scs_optimal_coloring : FnScope Ns_optimal_coloring ["graph"] (defScope s_optimal_coloring) := ⟨rfl, rfl, rfl, by decide +kernel, rfl, by decide +kernel, by decide +kernel⟩
abbrev s_subset_coloring : Stmt := top 32
abbrev Ns_subset_coloring : List Str := ["subset", "sets", "numbers", "colors", "vertex"]
theorem scs_subset_coloring : FnScope Ns_subset_coloring ["subset", "sets", "numbers"] (defScope s_subset_coloring) := ⟨rfl, rfl, rfl, by decide +kernel, rfl, by decide +kernel, by decide +kernel⟩
abbrev s_color_of : Stmt := top 33
abbrev Ns_color_of : List Str := ["vertex", "colors", "color", "members"]
theorem scs_color_of : FnScope Ns_color_of ["vertex", "colors"] (defScope s_color_of) := ⟨rfl, rfl, rfl, by decide +kernel, rfl, by decide +kernel, by decide +kernel⟩
abbrev s_are_colors : Stmt := top 34
abbrev Ns_are_colors : List Str := ["value", "number"]
theorem scs_are_colors : FnScope Ns_are_colors ["value"] (defScope s_are_colors) := ⟨rfl, rfl, rfl, by decide +kernel, rfl, by decide +kernel, by decide +kernel⟩
abbrev s_is_subset : Stmt := top 36
abbrev Ns_is_subset : List Str := ["value", "size", "vertex"]
theorem scs_is_subset : FnScope Ns_is_subset ["value", "size"] (defScope s_is_subset) := ⟨rfl, rfl, rfl, by decide +kernel, rfl, by decide +kernel, by decide +kernel⟩
abbrev s_Graph___init__ : Stmt := inClass (top 39) 0
abbrev Ns_Graph___init__ : List Str := ["self", "size", "edges", "place"]
theorem scs_Graph___init__ : FnScope Ns_Graph___init__ ["self", "size", "edges"] (defScope s_Graph___init__) := ⟨rfl, rfl, rfl, by decide +kernel, rfl, by decide +kernel, by decide +kernel⟩
abbrev s_Graph___len__ : Stmt := inClass (top 39) 1
abbrev Ns_Graph___len__ : List Str := ["self"]
theorem scs_Graph___len__ : FnScope Ns_Graph___len__ ["self"] (defScope s_Graph___len__) := ⟨rfl, rfl, rfl, by decide +kernel, rfl, by decide +kernel, by decide +kernel⟩
abbrev s_Graph___iter__ : Stmt := inClass (top 39) 2
abbrev Ns_Graph___iter__ : List Str := ["self"]
theorem scs_Graph___iter__ : FnScope Ns_Graph___iter__ ["self"] (defScope s_Graph___iter__) := ⟨rfl, rfl, rfl, by decide +kernel, rfl, by decide +kernel, by decide +kernel⟩
abbrev s_Graph_neighbors : Stmt := inClass (top 39) 9
abbrev Ns_Graph_neighbors : List Str := ["self", "vertex"]
theorem scs_Graph_neighbors : FnScope Ns_Graph_neighbors ["self", "vertex"] (defScope s_Graph_neighbors) := ⟨rfl, rfl, rfl, by decide +kernel, rfl, by decide +kernel, by decide +kernel⟩
abbrev s_first_wrong_edge : Stmt := top 40
abbrev Ns_first_wrong_edge : List Str := ["size", "edges", "edge"]
theorem scs_first_wrong_edge : FnScope Ns_first_wrong_edge ["size", "edges"] (defScope s_first_wrong_edge) := ⟨rfl, rfl, rfl, by decide +kernel, rfl, by decide +kernel, by decide +kernel⟩
abbrev s_is_edge : Stmt := top 41
abbrev Ns_is_edge : List Str := ["value", "size"]
theorem scs_is_edge : FnScope Ns_is_edge ["value", "size"] (defScope s_is_edge) := ⟨rfl, rfl, rfl, by decide +kernel, rfl, by decide +kernel, by decide +kernel⟩
abbrev s_neighbor_rows : Stmt := top 42
abbrev Ns_neighbor_rows : List Str := ["size", "edges", "rows", "one", "other", "_", "row"]
theorem scs_neighbor_rows : FnScope Ns_neighbor_rows ["size", "edges"] (defScope s_neighbor_rows) := ⟨rfl, rfl, rfl, by decide +kernel, rfl, by decide +kernel, by decide +kernel⟩
abbrev s__law_mixed : Stmt := top 46
abbrev Ns__law_mixed : List Str := ["cell", "turn", "first"]
theorem scs__law_mixed : FnScope Ns__law_mixed ["cell", "turn"] (defScope s__law_mixed) := ⟨rfl, rfl, rfl, by decide +kernel, rfl, by decide +kernel, by decide +kernel⟩
abbrev s__law_draw : Stmt := top 47
abbrev Ns__law_draw : List Str := ["pool", "limit", "cell", "digit"]
theorem scs__law_draw : FnScope Ns__law_draw ["pool", "limit"] (defScope s__law_draw) := ⟨rfl, rfl, rfl, by decide +kernel, rfl, by decide +kernel, by decide +kernel⟩
abbrev s__law_alike : Stmt := top 48
abbrev Ns__law_alike : List Str := ["found", "due", "k"]
theorem scs__law_alike : FnScope Ns__law_alike ["found", "due"] (defScope s__law_alike) := ⟨rfl, rfl, rfl, by decide +kernel, rfl, by decide +kernel, by decide +kernel⟩
abbrev s__law_shuffled : Stmt := top 49
abbrev Ns__law_shuffled : List Str := ["pool", "size", "row", "v"]
theorem scs__law_shuffled : FnScope Ns__law_shuffled ["pool", "size"] (defScope s__law_shuffled) := ⟨rfl, rfl, rfl, by decide +kernel, rfl, by decide +kernel, by decide +kernel⟩
abbrev s__law_near : Stmt := top 50
abbrev Ns__law_near : List Str := ["pool", "size", "kind", "dense", "marks", "place", "near", "a", "b", "joined", "v"]
theorem scs__law_near : FnScope Ns__law_near ["pool", "size"] (defScope s__law_near) := ⟨rfl, rfl, rfl, by decide +kernel, rfl, by decide +kernel, by decide +kernel⟩
abbrev s__law_edges : Stmt := top 51
abbrev Ns__law_edges : List Str := ["near", "found", "a", "b"]
theorem scs__law_edges : FnScope Ns__law_edges ["near"] (defScope s__law_edges) := ⟨rfl, rfl, rfl, by decide +kernel, rfl, by decide +kernel, by decide +kernel⟩
abbrev s__law_size : Stmt := top 52
abbrev Ns__law_size : List Str := ["pool", "kind"]
theorem scs__law_size : FnScope Ns__law_size ["pool"] (defScope s__law_size) := ⟨rfl, rfl, rfl, by decide +kernel, rfl, by decide +kernel, by decide +kernel⟩
abbrev s__law_free : Stmt := top 53
abbrev Ns__law_free : List Str := ["near", "joined", "size", "whole", "free", "mask", "rest", "v", "beside"]
theorem scs__law_free : FnScope Ns__law_free ["near", "joined"] (defScope s__law_free) := ⟨rfl, rfl, rfl, by decide +kernel, rfl, by decide +kernel, by decide +kernel⟩
abbrev s__law_fewest : Stmt := top 54
abbrev Ns__law_fewest : List Str := ["near", "free", "size", "fewest", "mask", "rest", "v", "beside", "best", "part", "k"]
theorem scs__law_fewest : FnScope Ns__law_fewest ["near", "free"] (defScope s__law_fewest) := ⟨rfl, rfl, rfl, by decide +kernel, rfl, by decide +kernel, by decide +kernel⟩
abbrev s__law_number : Stmt := top 55
abbrev Ns__law_number : List Str := ["graph", "named", "e"]
theorem scs__law_number : FnScope Ns__law_number ["graph", "named"] (defScope s__law_number) := ⟨rfl, rfl, rfl, by decide +kernel, rfl, by decide +kernel, by decide +kernel⟩
abbrev s__law_coloring : Stmt := top 56
abbrev Ns__law_coloring : List Str := ["graph", "named", "e"]
theorem scs__law_coloring : FnScope Ns__law_coloring ["graph", "named"] (defScope s__law_coloring) := ⟨rfl, rfl, rfl, by decide +kernel, rfl, by decide +kernel, by decide +kernel⟩
abbrev s__law_fits : Stmt := top 57
abbrev Ns__law_fits : List Str := ["near", "value", "fewest", "count", "v", "color", "w"]
theorem scs__law_fits : FnScope Ns__law_fits ["near", "value", "fewest"] (defScope s__law_fits) := ⟨rfl, rfl, rfl, by decide +kernel, rfl, by decide +kernel, by decide +kernel⟩
abbrev s__law_right : Stmt := top 58
abbrev Ns__law_right : List Str := ["near", "graph", "named", "told", "found", "due", "fewest"]
theorem scs__law_right : FnScope Ns__law_right ["near", "graph", "named"] (defScope s__law_right) := ⟨rfl, rfl, rfl, by decide +kernel, rfl, by decide +kernel, by decide +kernel⟩
abbrev s__law_asked : Stmt := top 59
abbrev Ns__law_asked : List Str := ["script", "pool", "near", "other", "graph", "beside", "named"]
theorem scs__law_asked : FnScope Ns__law_asked ["script"] (defScope s__law_asked) := ⟨rfl, rfl, rfl, by decide +kernel, rfl, by decide +kernel, by decide +kernel⟩
abbrev s_law : Stmt := top 60
abbrev Ns_law : List Str := ["script"]
theorem scs_law : FnScope Ns_law ["script"] (defScope s_law) := ⟨rfl, rfl, rfl, by decide +kernel, rfl, by decide +kernel, by decide +kernel⟩
end Ev
namespace EvH
open PySem PySem.Spec PyProof.Rows L2 He Ev
def opB (K : PySem.W.Frag) (C : Addr) (m : Str) : Bool := eqO (PySem.W.findIn K (.ref C) m) (some (some (.ref (ma K C m)))) && PySem.W.isFn K (.ref (ma K C m))
def twoB (K : PySem.W.Frag) (C : Addr) (f1 f2 : Str) : Bool := oneB K C f1 && eqO (PySem.W.findIn K (.ref C) f2) (some none)
def clssB (K : PySem.W.Frag) (cs : List Str) : Bool := (cs.all fun c => grB K (ga K c)) && cs.all fun c => cs.all fun d => kitB K (ga K c) (ga K d) (decide (c = d))
def clspB (K : PySem.W.Frag) (c : Str) (fs : List Str) : Bool := grB K (ga K c) && fs.all fun f => eqO (PySem.W.findIn K (.ref (ga K c)) f) (some none)
def ersB (K : PySem.W.Frag) (es : List Str) (g : Str) (b : Bool) : Bool := es.all fun c => exmB K (ga K c) (ga K g) (b || decide (c = g))
def erkB (K : PySem.W.Frag) (es : List Str) : Bool := (es.all fun c => es.all fun d => kitB K (ga K c) (ga K d) (decide (c = d))) && es.all fun c => xfB K (ga K c) && gets K (ga K c)
def xcpB (K : PySem.W.Frag) (c : Str) (fl : List Str) : Bool := xfB K (ga K c) && fl.all fun f => eqO (PySem.W.findIn K (.ref (ga K c)) f) (some none)
def fn : List He5.DefA := ([dG "_law_alike" s__law_alike, dG "_law_mixed" s__law_mixed, dG "_law_draw" s__law_draw, dG "_law_edges" s__law_edges, dG "_law_shuffled" s__law_shuffled, dG "_law_near" s__law_near, dG "is_within" s_is_within, dG "chromatic_numbers" s_chromatic_numbers, dG "mask_of" s_mask_of, dG "is_integer" s_is_integer, dG "is_between" s_is_between, dM "Graph" "neighbors" "Graph.neighbors" s_Graph_neighbors, dM "Graph" "__iter__" "Graph.__iter__" s_Graph___iter__, dG "independent_masks" s_independent_masks, dG "require_vertices" s_require_vertices, dG "require_exhaustible" s_require_exhaustible, dG "first_color" s_first_color, dG "color_masks" s_color_masks, dG "has_vertex" s_has_vertex, dG "color_of" s_color_of, dG "are_colors" s_are_colors, dG "normal_form" s_normal_form, dG "subset_coloring" s_subset_coloring, dM "Graph" "__len__" "Graph.__len__" s_Graph___len__, dG "optimal_coloring" s_optimal_coloring, dG "_law_coloring" s__law_coloring, dG "_law_fewest" s__law_fewest, dG "_law_fits" s__law_fits, dG "_law_free" s__law_free, dG "chromatic_number" s_chromatic_number] : List He5.DefA) ++ ([dG "_law_number" s__law_number, dG "_law_right" s__law_right, dG "_law_size" s__law_size, dG "first_fault" s_first_fault, dG "is_pair" s_is_pair, dG "is_ascending" s_is_ascending, dG "is_subset" s_is_subset, dG "is_edge" s_is_edge, dG "is_sequence" s_is_sequence, dG "first_wrong_edge" s_first_wrong_edge, dG "neighbor_rows" s_neighbor_rows, dM "Graph" "__init__" "Graph.__init__" s_Graph___init__, dG "_law_asked" s__law_asked, dM "InvalidNumber" "__init__" "InvalidNumber.__init__" s_InvalidNumber___init__, dM "TooLarge" "__init__" "TooLarge.__init__" s_TooLarge___init__, dM "InvalidColoring" "__init__" "InvalidColoring.__init__" s_InvalidColoring___init__, dM "InvalidGraph" "__init__" "InvalidGraph.__init__" s_InvalidGraph___init__, dG "law" s_law] : List He5.DefA)
def fa : List He.Fa := ([.glo "_law_alike", .glo "_law_mixed", .glo "_law_draw", .glo "_law_edges", .glo "_law_shuffled", .glo "_law_near", .glo "is_within", .glo "chromatic_numbers", .glo "mask_of", .glo "is_integer", .glo "is_between", .glo "independent_masks", .glo "require_vertices", .glo "require_exhaustible", .glo "first_color", .glo "color_masks", .glo "has_vertex", .glo "color_of", .glo "are_colors", .glo "normal_form", .glo "subset_coloring", .glo "optimal_coloring", .glo "_law_coloring", .glo "_law_fewest", .glo "_law_fits", .glo "_law_free", .glo "chromatic_number", .glo "_law_number", .glo "_law_right", .glo "_law_size"] : List He.Fa) ++ ([.glo "first_fault", .glo "is_pair", .glo "is_ascending", .glo "is_subset", .glo "is_edge", .glo "is_sequence", .glo "first_wrong_edge", .glo "neighbor_rows", .glo "_law_asked", .glo "law", .glo "Graph", .glo "GraphError", .glo "TooLarge", .glo "InvalidNumber", .glo "InvalidColoring", .glo "InvalidGraph", .free "isinstance", .free "int", .free "bool", .free "len", .free "list", .free "tuple", .free "str", .free "all", .free "zip", .free "range", .free "enumerate", .free "abs", .free "min", .free "iter"] : List He.Fa) ++ ([.free "sum", .int "MOST_EXHAUSTIVE" 8, .int "MOST_VERTICES" 24, .meth "Graph" "neighbors"] : List He.Fa)
def ex (K : PySem.W.Frag) : Bool := clssB K CS && (clspB K "Graph" ["size", "edges", "_vertices", "_rows"] && (xcpB K "TooLarge" ["what"] && (ersB K ES "GraphError" true && (erkB K ES && (oneB K (ga K "InvalidNumber") "value" && (oneB K (ga K "TooLarge") "what" && (oneB K (ga K "InvalidColoring") "value" && (twoB K (ga K "InvalidGraph") "part" "place" && (mkB K (ga K "Graph") && (opB K (ga K "Graph") "__iter__" && (opB K (ga K "Graph") "__len__")))))))))))
end EvH
set_option maxHeartbeats 0
namespace EvH
open PySem PySem.Spec PyProof.Rows L2
def looseN : List PySem.Str := (["_wall", "GraphError", "InvalidNumber", "InvalidGraph", "InvalidSubset", "InvalidColoring", "TooLarge", "is_integer", "is_between", "is_sequence", "is_pair", "is_ascending", "first_fault", "MOST_VERTICES", "MOST_EXHAUSTIVE", "require_vertices", "require_exhaustible", "mask_of", "has_vertex", "is_within", "independent_masks", "chromatic_numbers", "color_masks", "first_color", "normal_form", "chromatic_number", "optimal_coloring", "subset_coloring", "color_of", "are_colors"] : List PySem.Str) ++ (["is_subset", "vertex_pairs", "Graph", "first_wrong_edge", "is_edge", "neighbor_rows", "common_size", "moved_edges", "_law_mixed", "_law_draw", "_law_alike", "_law_shuffled", "_law_near", "_law_edges", "_law_size", "_law_free", "_law_fewest", "_law_number", "_law_coloring", "_law_fits", "_law_right", "_law_asked"] : List PySem.Str)
abbrev R : PySem.W.OpenRow := PySem.W.OpenLaw.row PySem.Challenge.rw_everypart_k14_chromatic_number_and_an_op
abbrev hk : PySem.W.Hook := hookEv 5 fa ex fn
def ob (s : PySem.W.SharedT) : He.AlD := obsEvG 5 fa ex fn (HandSHeadRun.getT s)
theorem ob_eq (s : PySem.W.SharedT) : ob s = hk.obs s.abs := obsEvG_eq (HandSHeadRun.getT_eq s)
theorem run (w : World) : HandSHeadRun.RunEq R (PySem.W.view R.prog [60]) hk ob 6000 looseN w := by
  intro os
  kernel_rfl
end EvH
namespace Ev
open PySem PySem.Spec PyProof.Rows L2
inductive PV where
  | non | bl (b : Bool) | int (i : Int) | str (x : Str)
  | tup (xs : List PV) | lst (xs : List PV) | scr (xs : List PV) | obj (c : Str) (fs : List (Str × PV)) | dic (kvs : List (Key × PV))
  deriving Inhabited
def KwL (K : PySem.W.Frag) (a : Addr) (xs : List V) : Prop := ∃ (o : Obj) (its : Array Value) (n : Nat), K.lookup a = some o ∧ o.cls = .type "list" ∧ o.dict = none ∧ o.data = .seq its n ∧ its.size ≤ sizeLine ∧ Vals xs its.toList
def KwT (K : PySem.W.Frag) (a : Addr) (xs : List V) : Prop := ∃ (o : Obj) (its : Array Value) (n : Nat), K.lookup a = some o ∧ o.cls = .type "tuple" ∧ o.data = .seq its n ∧ its.size ≤ sizeLine ∧ Vals xs its.toList
mutual
def Rep (K : PySem.W.Frag) (S : Addr → Prop) (H : Hp) : PV → V → Prop
  | .non, v => v = .non
  | .bl b, v => v = .bl b
  | .int i, v => v = .int i
  | .str x, v => v = .str x
  | .tup ps, v => ∃ a vs, v = .ref a ∧ ((¬ S a ∧ Rd H a (.tup vs)) ∨ KwT K a vs) ∧ Reps K S H ps vs
  | .lst ps, v => ∃ a vs, v = .ref a ∧ ¬ S a ∧ H a = some (.lst vs) ∧ Reps K S H ps vs
  | .scr ps, v => ∃ a vs, v = .ref a ∧ ((¬ S a ∧ Rd H a (.lst vs)) ∨ KwL K a vs) ∧ Reps K S H ps vs
  | .obj c fs, v => ∃ a dx vfs, v = .ref a ∧ ¬ S a ∧ H a = some (.ins (He.ga K c) dx vfs) ∧ RepF K S H fs vfs
  | .dic kvs, v => ∃ a vks, v = .ref a ∧ ¬ S a ∧ H a = some (.dK vks) ∧ RepD K S H kvs vks
def Reps (K : PySem.W.Frag) (S : Addr → Prop) (H : Hp) : List PV → List V → Prop
  | [], vs => vs = []
  | p :: ps, vs => ∃ v r, vs = v :: r ∧ Rep K S H p v ∧ Reps K S H ps r
def RepF (K : PySem.W.Frag) (S : Addr → Prop) (H : Hp) : List (Str × PV) → List (Str × V) → Prop
  | [], vs => vs = []
  | (f, p) :: ps, vs => ∃ v r, vs = (f, v) :: r ∧ Rep K S H p v ∧ RepF K S H ps r
def RepD (K : PySem.W.Frag) (S : Addr → Prop) (H : Hp) : List (Key × PV) → List (Key × V) → Prop
  | [], vs => vs = []
  | (f, p) :: ps, vs => ∃ v r, vs = (f, v) :: r ∧ Rep K S H p v ∧ RepD K S H ps r
end
/-- what is not in S stays -/
def Keep (S : Addr → Prop) (H H' : Hp) : Prop := ∀ b o, H b = some o → ¬ S b → H' b = some o
theorem Keep.refl {S : Addr → Prop} {H : Hp} : Keep S H H := fun _ _ h _ => h
theorem Keep.trans {S : Addr → Prop} {H H1 H2 : Hp} (a : Keep S H H1) (b : Keep S H1 H2) : Keep S H H2 := fun c o h n => b c o (a c o h n) n
theorem Keep.up {T S : Addr → Prop} {H H' : Hp} (k : Keep T H H') (h : ∀ s, T s → S s) : Keep S H H' := fun b o e n => k b o e fun z => n (h b z)
theorem Keep.of {S : Addr → Prop} {H H' : Hp} (s : Same H H') : Keep S H H' := fun b o h _ => s b o h
theorem Rd.fut {S : Addr → Prop} {H H' : Hp} (hk : Keep S H H') {a : Addr} {o : HO} (n : ¬ S a) (h : Rd H a o) : Rd H' a o := by
  rcases h with h | ⟨u, h⟩
  · exact .inl (hk _ _ h n)
  · exact .inr ⟨u, hk _ _ h n⟩
theorem Rd.some {H : Hp} {a : Addr} {o : HO} (h : Rd H a o) : ∃ u, H a = some u := by
  rcases h with h | ⟨u, h⟩ <;> exact ⟨_, h⟩
section
variable {K : PySem.W.Frag} {S S' : Addr → Prop} {H H' : Hp}
mutual
theorem Rep.fut (hk : Keep S H H') (hs : ∀ s, S' s → S s ∨ H s = none) : ∀ {p : PV} {v : V}, Rep K S H p v → Rep K S' H' p v
  | .non, _, h => h
  | .bl _, _, h => h
  | .int _, _, h => h
  | .str _, _, h => h
  | .tup ps, _, ⟨a, vs, e, h, r⟩ => ⟨a, vs, e, h.imp (fun h => ⟨fun z => (hs a z).elim h.1 (fun z => by obtain ⟨u, e⟩ := Rd.some h.2; rw [e] at z; cases z), Rd.fut hk h.1 h.2⟩) id, Reps.fut hk hs r⟩
  | .lst ps, _, ⟨a, vs, e, n, h, r⟩ => ⟨a, vs, e, fun z => (hs a z).elim n (fun z => by rw [h] at z; cases z), hk _ _ h n, Reps.fut hk hs r⟩
  | .scr ps, _, ⟨a, vs, e, h, r⟩ => ⟨a, vs, e, h.imp (fun h => ⟨fun z => (hs a z).elim h.1 (fun z => by obtain ⟨u, e⟩ := Rd.some h.2; rw [e] at z; cases z), Rd.fut hk h.1 h.2⟩) id, Reps.fut hk hs r⟩
  | .obj c fs, _, ⟨a, dx, vfs, e, n, h, r⟩ => ⟨a, dx, vfs, e, fun z => (hs a z).elim n (fun z => by rw [h] at z; cases z), hk _ _ h n, RepF.fut hk hs r⟩
  | .dic kvs, _, ⟨a, vks, e, n, h, r⟩ => ⟨a, vks, e, fun z => (hs a z).elim n (fun z => by rw [h] at z; cases z), hk _ _ h n, RepD.fut hk hs r⟩
theorem Reps.fut (hk : Keep S H H') (hs : ∀ s, S' s → S s ∨ H s = none) : ∀ {ps : List PV} {vs : List V}, Reps K S H ps vs → Reps K S' H' ps vs
  | [], _, h => h
  | p :: ps, _, ⟨v, r, e, h, t⟩ => ⟨v, r, e, Rep.fut hk hs h, Reps.fut hk hs t⟩
theorem RepF.fut (hk : Keep S H H') (hs : ∀ s, S' s → S s ∨ H s = none) : ∀ {ps : List (Str × PV)} {vs : List (Str × V)}, RepF K S H ps vs → RepF K S' H' ps vs
  | [], _, h => h
  | (f, p) :: ps, _, ⟨v, r, e, h, t⟩ => ⟨v, r, e, Rep.fut hk hs h, RepF.fut hk hs t⟩
theorem RepD.fut (hk : Keep S H H') (hs : ∀ s, S' s → S s ∨ H s = none) : ∀ {ps : List (Key × PV)} {vs : List (Key × V)}, RepD K S H ps vs → RepD K S' H' ps vs
  | [], _, h => h
  | (f, p) :: ps, _, ⟨v, r, e, h, t⟩ => ⟨v, r, e, Rep.fut hk hs h, RepD.fut hk hs t⟩
end
theorem Rep.keep (k : Keep S H H') {p : PV} {v : V} (h : Rep K S H p v) : Rep K S H' p v := h.fut k fun _ z => .inl z
theorem Reps.keep (k : Keep S H H') {p : List PV} {v : List V} (h : Reps K S H p v) : Reps K S H' p v := h.fut k fun _ z => .inl z
theorem RepF.keep (k : Keep S H H') {p : List (Str × PV)} {v : List (Str × V)} (h : RepF K S H p v) : RepF K S H' p v := h.fut k fun _ z => .inl z
theorem RepD.keep (k : Keep S H H') {p : List (Key × PV)} {v : List (Key × V)} (h : RepD K S H p v) : RepD K S H' p v := h.fut k fun _ z => .inl z
theorem Reps.len : ∀ {ps : List PV} {vs : List V}, Reps K S H ps vs → ps.length = vs.length
  | [], _, rfl => rfl
  | _ :: _, _, ⟨_, _, rfl, _, t⟩ => congrArg Nat.succ (Reps.len t)
theorem Reps.get : ∀ {ps : List PV} {vs : List V} {i : Nat} {p : PV}, Reps K S H ps vs → ps[i]? = some p → ∃ v, vs[i]? = some v ∧ Rep K S H p v
  | [], _, _, _, rfl, e => by simp at e
  | _ :: _, _, 0, _, ⟨v, _, rfl, h, _⟩, e => by simp at e; subst e; exact ⟨v, rfl, h⟩
  | _ :: _, _, i + 1, _, ⟨_, _, rfl, _, t⟩, e => by
    obtain ⟨v, h1, h2⟩ := Reps.get (i := i) t (by simpa using e)
    exact ⟨v, by simpa using h1, h2⟩
theorem Reps.getV : ∀ {ps : List PV} {vs : List V} {i : Nat} {v : V}, Reps K S H ps vs → vs[i]? = some v → ∃ p, ps[i]? = some p ∧ Rep K S H p v
  | [], _, _, _, rfl, e => by simp at e
  | p :: _, _, 0, _, ⟨v, _, rfl, h, _⟩, e => by simp at e; subst e; exact ⟨p, rfl, h⟩
  | _ :: _, _, i + 1, _, ⟨_, _, rfl, _, t⟩, e => by
    obtain ⟨p, h1, h2⟩ := Reps.getV (i := i) t (by simpa using e)
    exact ⟨p, by simpa using h1, h2⟩
theorem Reps.app : ∀ {ps qs : List PV} {vs ws : List V}, Reps K S H ps vs → Reps K S H qs ws → Reps K S H (ps ++ qs) (vs ++ ws)
  | [], _, _, _, rfl, s => s
  | _ :: _, _, _, _, ⟨v, r, rfl, h, t⟩, s => ⟨v, _, rfl, h, Reps.app t s⟩
theorem Reps.take (n : Nat) : ∀ {ps : List PV} {vs : List V}, Reps K S H ps vs → Reps K S H (ps.take n) (vs.take n) := by
  induction n with
  | zero => intro ps vs _; rw [List.take_zero, List.take_zero]; rfl
  | succ n ih =>
    intro ps vs h
    cases ps with
    | nil => cases h; rfl
    | cons p ps => obtain ⟨v, r, rfl, h, t⟩ := h; exact ⟨v, _, rfl, h, ih t⟩
theorem Reps.drop (n : Nat) : ∀ {ps : List PV} {vs : List V}, Reps K S H ps vs → Reps K S H (ps.drop n) (vs.drop n) := by
  induction n with
  | zero => intro ps vs h; exact h
  | succ n ih =>
    intro ps vs h
    cases ps with
    | nil => cases h; rfl
    | cons p ps => obtain ⟨v, r, rfl, h, t⟩ := h; exact ih t
theorem RepF.look {f : Str} : ∀ {ps : List (Str × PV)} {vs : List (Str × V)} {p : PV}, RepF K S H ps vs → ps.lookup f = some p → ∃ v, vs.lookup f = some v ∧ Rep K S H p v
  | [], _, _, _, e => by cases e
  | (g, q) :: ps, _, p, ⟨v, r, rfl, h, t⟩, e => by
    rw [List.lookup_cons] at e ⊢
    cases hb : (f == g) with
    | true => rw [hb] at e; cases e; exact ⟨v, rfl, h⟩
    | false => rw [hb] at e; exact RepF.look t e
theorem RepF.len : ∀ {ps : List (Str × PV)} {vs : List (Str × V)}, RepF K S H ps vs → ps.length = vs.length
  | [], _, rfl => rfl
  | (_, _) :: _, _, ⟨_, _, rfl, _, t⟩ => congrArg Nat.succ (RepF.len t)
end
inductive EV where
  | no | fr (p : PV) | ow (p : PV) | io (p : PV)
  deriving Inhabited
abbrev Env := List EV
structure PErr where
  cls : Str
  args : List (Str × PV)
inductive Res (α : Type) where
  | ok (a : α)
  | err (e : PErr) (ρ : Env)
  | bad
def Res.bind {α β : Type} : Res α → (α → Res β) → Res β
  | .ok a, k => k a
  | .err e ρ, _ => .err e ρ
  | .bad, _ => .bad
@[simp] theorem Res.bind_ok {α β : Type} (a : α) (k : α → Res β) : (Res.ok a).bind k = k a := rfl
@[simp] theorem Res.bind_err {α β : Type} (e : PErr) (ρ : Env) (k : α → Res β) : (Res.err e ρ).bind k = .err e ρ := rfl
@[simp] theorem Res.bind_bad {α β : Type} (k : α → Res β) : (Res.bad).bind k = .bad := rfl
def ofO {α : Type} : Option α → Env → Res (α × Env)
  | some a, ρ => .ok (a, ρ)
  | none, _ => .bad
@[simp] theorem ofO_some {α : Type} (a : α) (ρ : Env) : ofO (some a) ρ = .ok (a, ρ) := rfl
@[simp] theorem ofO_none {α : Type} (ρ : Env) : ofO (none : Option α) ρ = .bad := rfl
def Top (K : PySem.W.Frag) (S : Addr → Prop) (H : Hp) (a : Addr) : PV → Prop
  | .lst ps => ∃ vs, H a = some (.lst vs) ∧ Reps K S H ps vs
  | .dic kvs => ∃ vks, H a = some (.dK vks) ∧ RepD K S H kvs vks
  | .obj c fs => ∃ dx vfs, H a = some (.ins (He.ga K c) dx vfs) ∧ RepF K S H fs vfs
  | _ => False
def SlR (K : PySem.W.Frag) (T S : Addr → Prop) (H : Hp) (A : Option Addr) (own : Addr) : EV → Option (Option V) → Prop
  | .no, _ => True
  | .fr p, x => ∃ v, x = some (some v) ∧ Rep K S H p v
  | .ow p, x => x = some (some (.ref own)) ∧ T own ∧ Top K S H own p
  | .io p, x => ∃ a, A = some a ∧ x = some (some (.ref a)) ∧ T a ∧ Top K S H a p
def EV.adr (A : Option Addr) (own : Addr) : EV → Option Addr
  | .ow _ => some own
  | .io _ => A
  | _ => none
structure PSt (K : PySem.W.Frag) (H0 : Hp) (A : Nat → Option Addr) (Z T S : Addr → Prop) (own : Nat → Addr) (σ : L2.St) (H : Hp) (ρ : Env) : Prop where
  kp : ∀ b o, H0 b = some o → (∀ i, A i ≠ some b) → H b = some o
  ia : ∀ i a, A i = some a → T a
  i0 : ∀ i a, A i = some a → ∃ o, H0 a = some o
  z0 : ∀ s, Z s → ∃ o, H0 s = some o
  al : ∀ s, S s → ∃ o, H s = some o
  ts : ∀ s, T s → S s
  zs : ∀ s, Z s → S s
  ln : ρ.length = σ.length
  sl : ∀ i e, ρ[i]? = some e → SlR K T S H (A i) (own i) e σ[i]?
  fr : ∀ i p, ρ[i]? = some (.ow p) → H0 (own i) = none
  dj : ∀ (i j : Nat) (e f : EV) (a : Addr), ρ[i]? = some e → ρ[j]? = some f → e.adr (A i) (own i) = some a → f.adr (A j) (own j) = some a → i = j
section
variable {K : PySem.W.Frag} {H0 : Hp} {A : Nat → Option Addr} {Z T S : Addr → Prop} {own : Nat → Addr} {σ : L2.St} {H H' : Hp} {ρ : Env}
theorem Top.keep {S' : Addr → Prop} {a : Addr} (k : Keep S H H') (hs : ∀ s, S' s → S s ∨ H s = none) (ha : ∀ o, H a = some o → H' a = some o) : ∀ {p : PV}, Top K S H a p → Top K S' H' a p
  | .lst _, ⟨vs, h, r⟩ => ⟨vs, ha _ h, r.fut k hs⟩
  | .dic _, ⟨vs, h, r⟩ => ⟨vs, ha _ h, r.fut k hs⟩
  | .obj _ _, ⟨dx, vs, h, r⟩ => ⟨dx, vs, ha _ h, r.fut k hs⟩
theorem SlR.same {a : Option Addr} {b : Addr} {x : Option (Option V)} (s : Same H H') : ∀ {e : EV}, SlR K T S H a b e x → SlR K T S H' a b e x
  | .no, _ => trivial
  | .fr _, ⟨v, e, h⟩ => ⟨v, e, h.keep (.of s)⟩
  | .ow _, ⟨e, h, t⟩ => ⟨e, h, t.keep (.of s) (fun _ z => .inl z) (fun o h => s _ o h)⟩
  | .io _, ⟨c, z, e, h, t⟩ => ⟨c, z, e, h, t.keep (.of s) (fun _ z => .inl z) (fun o h => s _ o h)⟩
theorem PSt.same (s : Same H H') (h : PSt K H0 A Z T S own σ H ρ) : PSt K H0 A Z T S own σ H' ρ :=
  ⟨fun b o e n => s _ _ (h.kp b o e n), h.ia, h.i0, h.z0, fun a z => let ⟨o, e⟩ := h.al a z; ⟨o, s _ _ e⟩, h.ts, h.zs, h.ln, fun i e z => (h.sl i e z).same s, h.fr, h.dj⟩
theorem PSt.new {p : Addr} (h : PSt K H0 A Z T S own σ H ρ) (hp : H p = none) : ¬ S p := fun z => by
  obtain ⟨o, e⟩ := h.al p z
  rw [hp] at e
  cases e
theorem PSt.var {i : Nat} {p : PV} (h : PSt K H0 A Z T S own σ H ρ) (e : ρ[i]? = some (.fr p)) : ∃ v, σ[i]? = some (some v) ∧ Rep K S H p v := h.sl i _ e
end
abbrev E0S : L2.St → XK := fun _ => L2.E0
/-- an exception's own dict, holding the arguments -/
def ErrD (K : PySem.W.Frag) (S : Addr → Prop) (H : Hp) (e : PErr) (d : Addr) : Prop := ∃ vfs, H d = some (.xd vfs) ∧ RepF K S H e.args vfs
def okR {α : Type} (K : PySem.W.Frag) (H0 : Hp) (A : Nat → Option Addr) (Z T S : Addr → Prop) (own : Nat → Addr) (σ : L2.St) (E : L2.St → XK) (H : Hp) (r : Res (α × Env)) (post : α → Hp → Prop) : Prop := match r with
  | .ok z => ∀ H', PSt K H0 A Z T S own σ H' z.2 → Keep T H H' → post z.1 H'
  | .err e ρ' => ∀ d H', PSt K H0 A Z T S own σ H' ρ' → Keep T H H' → ErrD K S H' e d → E σ (.ref (He.ga K e.cls)) (some d) H'
  | .bad => False
section
variable {α β : Type} {K : PySem.W.Frag} {H0 : Hp} {A : Nat → Option Addr} {Z T S : Addr → Prop} {own : Nat → Addr} {σ : L2.St} {E : L2.St → XK} {H H1 : Hp} {ρ : Env}
theorem okR.mono {r : Res (α × Env)} {post post' : α → Hp → Prop} (h : okR K H0 A Z T S own σ E H r post) (f : ∀ a H', Keep T H H' → post a H' → post' a H') : okR K H0 A Z T S own σ E H r post' := by
  cases r with
  | ok z => exact fun H' P k => f _ _ k (h H' P k)
  | err e ρ' => exact h
  | bad => exact h
theorem okR.shift {r : Res (α × Env)} {post : α → Hp → Prop} (k : Keep T H H1) (h : okR K H0 A Z T S own σ E H r post) : okR K H0 A Z T S own σ E H1 r post := by
  cases r with
  | ok z => exact fun H' P k' => h H' P (k.trans k')
  | err e ρ' => exact fun d H' P k' => h d H' P (k.trans k')
  | bad => exact h
theorem okR.bnd {r : Res (α × Env)} {c : α × Env → Res (β × Env)} {post : β → Hp → Prop} (h : okR K H0 A Z T S own σ E H (r.bind c) post) :
    okR K H0 A Z T S own σ E H r fun a H1 => ∃ ρ1, PSt K H0 A Z T S own σ H1 ρ1 ∧ Keep S H H1 ∧ okR K H0 A Z T S own σ E H1 (c (a, ρ1)) post := by
  cases r with
  | ok z => exact fun H' P k => ⟨z.2, P, k.up P.ts, okR.shift k h⟩
  | err e ρ' => exact h
  | bad => exact h
end
/-- an expression's, a test's, an argument list's -/
def pE (K : PySem.W.Frag) (E : L2.St → XK) (f : Env → Res (PV × Env)) : TE := fun σ H Q => ∃ H0 A Z T S own ρ, PSt K H0 A Z T S own σ H ρ ∧ okR K H0 A Z T S own σ E H (f ρ) fun p H' => ∀ v, Rep K S H' p v → Q v H'
def pT (K : PySem.W.Frag) (E : L2.St → XK) (f : Env → Res (Bool × Env)) : TT := fun σ H Q => ∃ H0 A Z T S own ρ, PSt K H0 A Z T S own σ H ρ ∧ okR K H0 A Z T S own σ E H (f ρ) fun b H' => Q b H'
section
variable {X : Cx} {e : Expr}
theorem _root_.L2.PE.imp {t t' : TE} (h : PE X e t) (i : ∀ σ H Q, t' σ H Q → t σ H Q) : PE X e t' := ⟨fun pins s σ H Q I q => h.run pins s σ H Q I (i _ _ _ q)⟩
theorem _root_.L2.PT.imp {t t' : TT} (h : PT X e t) (i : ∀ σ H Q, t' σ H Q → t σ H Q) : PT X e t' := ⟨fun pins s σ H Q I q => h.run pins s σ H Q I (i _ _ _ q)⟩
theorem _root_.L2.PW.imp {t t' : TT} (h : PW X e t) (i : ∀ σ H Q, t' σ H Q → t σ H Q) : PW X e t' := ⟨fun wh pins s σ H Q I q => h.run wh pins s σ H Q I (i _ _ _ q)⟩
theorem _root_.L2.PA.imp {es : List Expr} {t t' : TA} (h : PA X es t) (i : ∀ σ H Q, t' σ H Q → t σ H Q) : PA X es t' := ⟨fun pos pins s σ H Q I q => h.run pos pins s σ H Q I (i _ _ _ q)⟩
theorem _root_.L2.PS.imp {st : Stmt} {t t' : TS} (h : PS X st t) (i : ∀ D σ H, t' D σ H → t D σ H) : PS X st t' := ⟨fun pins s σ H D I q => h.run pins s σ H D I (i _ _ _ q)⟩
theorem _root_.L2.PSs.imp {st : List Stmt} {t t' : TS} (h : PSs X st t) (i : ∀ D σ H, t' D σ H → t D σ H) : PSs X st t' := ⟨fun pins s σ H D I q => h.run pins s σ H D I (i _ _ _ q)⟩
theorem _root_.L2.PG.imp {tg : Expr} {t t' : TG} (h : PG X tg t) (i : ∀ v σ H Q, t' v σ H Q → t v σ H Q) : PG X tg t' := ⟨fun pins s σ H v u Q I r q => h.run pins s σ H v u Q I r (i _ _ _ _ q)⟩
theorem _root_.L2.PI.imp {tg it : Expr} {t t' : TI} (h : PI X tg it t) (i : ∀ σ H R, t' σ H R → t σ H R) : PI X tg it t' := ⟨fun pins s σ H R I q => h.run pins s σ H R I (i _ _ _ q)⟩
end
end Ev
namespace Ev
open PySem PySem.Spec PyProof.Rows L2
def rP (K : PySem.W.Frag) (g : PV → PV → Option PV) : R2 := fun x y H Q => ∃ S p q z, (∀ s, S s → ∃ o, H s = some o) ∧ Rep K S H p x ∧ Rep K S H q y ∧ g p q = some z ∧ ∀ v H', Same H H' → Rep K S H' z v → Q v H'
def rP1 (K : PySem.W.Frag) (g : PV → Option PV) : V → Hp → VK → Prop := fun x H Q => ∃ S p z, (∀ s, S s → ∃ o, H s = some o) ∧ Rep K S H p x ∧ g p = some z ∧ ∀ v H', Same H H' → Rep K S H' z v → Q v H'
abbrev PO (X : Cx) (f : Value → Value → Sem Value) (g : PV → PV → Option PV) : Prop := OpR X f (rP X.K g)
abbrev PU (X : Cx) (f : Value → Sem Value) (g : PV → Option PV) : Prop := UnR X f (rP1 X.K g)
section
variable {X : Cx} {f : Value → Value → Sem Value} {g g' : PV → PV → Option PV} {S : Addr → Prop} {H : Hp}
theorem po_of {r : R2} (h : OpR X f r) (i : ∀ (S : Addr → Prop) (p q z : PV) (x y : V) (H : Hp) (Q : VK), (∀ s, S s → ∃ o, H s = some o) → Rep X.K S H p x → Rep X.K S H q y → g p q = some z → (∀ v H', Same H H' → Rep X.K S H' z v → Q v H') → r x y H Q) : PO X f g :=
  fun pins s σ H x y v u Q I r1 r2 ⟨S, p, q, z, al, h1, h2, e, k⟩ => h pins s σ H x y v u Q I r1 r2 (i S p q z x y H Q al h1 h2 e k)
theorem new_nS {p : Addr} (al : ∀ s, S s → ∃ o, H s = some o) (hp : H p = none) : ¬ S p := fun z => by
  obtain ⟨o, e⟩ := al p z
  rw [hp] at e
  cases e
theorem sqT_of {K : PySem.W.Frag} {a : Addr} {vs : List V} (h : (¬ S a ∧ Rd H a (.tup vs)) ∨ KwT K a vs) : SqT K H a vs := h.elim (fun h => .inl h.2) .inr
theorem sqL_of {K : PySem.W.Frag} {a : Addr} {vs : List V} (h : (¬ S a ∧ Rd H a (.lst vs)) ∨ KwL K a vs) : SqL K H a vs := h.elim (fun h => .inl h.2) .inr
theorem rep_new_tup {K : PySem.W.Frag} {a : Addr} {ps : List PV} {vs : List V} (al : ∀ s, S s → ∃ o, H s = some o) (hp : H a = none) (h : Reps K S H ps vs) : Rep K S (upd H a (.tup vs)) (.tup ps) (.ref a) :=
  ⟨a, vs, rfl, .inl ⟨new_nS al hp, .inl upd_same⟩, h.keep (.of (same_new hp))⟩
theorem rep_new_lst {K : PySem.W.Frag} {a : Addr} {ps : List PV} {vs : List V} (al : ∀ s, S s → ∃ o, H s = some o) (hp : H a = none) (h : Reps K S H ps vs) : Rep K S (upd H a (.lst vs)) (.lst ps) (.ref a) :=
  ⟨a, vs, rfl, new_nS al hp, upd_same, h.keep (.of (same_new hp))⟩
def pAdd : PV → PV → Option PV
  | .int i, .int j => some (.int (i + j))
  | .str i, .str j => if i.length + j.length ≤ sizeLine then some (.str (i ++ j)) else none
  | .lst a, .lst b => if a.length + b.length ≤ sizeLine then some (.lst (a ++ b)) else none
  | .tup a, .tup b => if a.length + b.length ≤ sizeLine then some (.tup (a ++ b)) else none
  | _, _ => none
theorem reps_nil {K : PySem.W.Frag} {ps : List PV} {vs : List V} (h : Reps K S H ps vs) (e : vs = []) : ps = [] := by
  have := h.len
  subst e
  exact List.eq_nil_of_length_eq_zero this
theorem po_add : PO X (binaryOp .Add) pAdd := po_of (op_add.or (op_add_str.or (op_cat.or op_catA))) (by
  intro S p q z x y H Q al h1 h2 e k
  cases p <;> cases q <;> try (cases e; done)
  · obtain rfl := h1; obtain rfl := h2; cases e
    exact .inl ⟨_, _, rfl, rfl, k _ _ (.refl _) rfl⟩
  · obtain rfl := h1; obtain rfl := h2
    simp only [pAdd] at e
    split at e
    · rename_i hl; cases e; exact .inr (.inl ⟨_, _, rfl, rfl, hl, k _ _ (.refl _) rfl⟩)
    · cases e
  · obtain ⟨a, vs, rfl, ha, ra⟩ := h1; obtain ⟨b, ws, rfl, hb, rb⟩ := h2
    simp only [pAdd] at e
    split at e
    · rename_i hl
      cases e
      refine .inr (.inr (.inr ⟨a, b, vs, ws, rfl, rfl, sqT_of ha, sqT_of hb, by rw [← ra.len, ← rb.len]; exact hl, fun e => ?_, fun _ e => ?_, fun _ _ p hp => k _ _ (same_new hp) (rep_new_tup al hp (ra.app rb))⟩))
      · rw [reps_nil ra e] at k
        exact k _ _ (.refl _) ⟨b, ws, rfl, hb, rb⟩
      · rw [reps_nil rb e, List.append_nil] at k
        exact k _ _ (.refl _) ⟨a, vs, rfl, ha, ra⟩
    · cases e
  · obtain ⟨a, vs, rfl, na, ha, ra⟩ := h1; obtain ⟨b, ws, rfl, nb, hb, rb⟩ := h2
    simp only [pAdd] at e
    split at e
    · rename_i hl
      cases e
      exact .inr (.inr (.inl ⟨a, b, vs, ws, rfl, rfl, ha, hb, by rw [← ra.len, ← rb.len]; exact hl, fun p hp => k _ _ (same_new hp) (rep_new_lst al hp (ra.app rb))⟩))
    · cases e)
def pI2 (C : Int → Int → Bool) (g : Int → Int → PV) : PV → PV → Option PV
  | .int i, .int j => if C i j = true then some (g i j) else none
  | _, _ => none
theorem po_I {CC : Int → Int → Prop} {C : Int → Int → Bool} {gv : Int → Int → V} {gp : Int → Int → PV} (h : OpR X f (rI CC gv)) (hC : ∀ i j, C i j = true → CC i j) (hg : ∀ (i j : Int) (K : PySem.W.Frag) (S : Addr → Prop) (H : Hp), Rep K S H (gp i j) (gv i j)) : PO X f (pI2 C gp) := po_of h (by
  intro S p q z x y H Q al h1 h2 e k
  cases p <;> cases q <;> try (cases e; done)
  obtain rfl := h1; obtain rfl := h2
  simp only [pI2] at e
  split at e
  · rename_i hc; cases e; exact ⟨_, _, rfl, rfl, hC _ _ hc, k _ _ (.refl _) (hg _ _ _ _ _)⟩
  · cases e)
theorem po_I0 {gv : Int → Int → V} {gp : Int → Int → PV} (h : OpR X f (rI0 gv)) (hg : ∀ (i j : Int) (K : PySem.W.Frag) (S : Addr → Prop) (H : Hp), Rep K S H (gp i j) (gv i j)) : PO X f (pI2 (fun _ _ => true) gp) := po_of h (by
  intro S p q z x y H Q al h1 h2 e k
  cases p <;> cases q <;> try (cases e; done)
  obtain rfl := h1; obtain rfl := h2
  cases e
  exact ⟨_, _, rfl, rfl, k _ _ (.refl _) (hg _ _ _ _ _)⟩)
abbrev yes2 : Int → Int → Bool := fun _ _ => true
abbrev pSub := pI2 yes2 fun i j => .int (i - j)
theorem po_sub : PO X (binaryOp .Sub) pSub := po_I0 op_sub fun _ _ _ _ _ => rfl
def cMulW : Int → Int → Bool := fun i j => decide (-(2 ^ 64) < i ∧ i < 2 ^ 64) || (decide (-(2 ^ 64) < j ∧ j < 2 ^ 64) || decide (i.natAbs.log2 + j.natAbs.log2 < 1000000))
theorem cMulW_ok {i j : Int} (h : cMulW i j = true) : CMul i j ∨ CMulW i j := by
  unfold cMulW at h
  rw [Bool.or_eq_true, Bool.or_eq_true] at h
  rcases h with h | h | h
  · exact .inl (.inl (of_decide_eq_true h))
  · exact .inl (.inr (of_decide_eq_true h))
  · exact .inr (of_decide_eq_true (p := i.natAbs.log2 + j.natAbs.log2 < 1000000) h)
def pMul : PV → PV → Option PV
  | .int i, .int j => if cMulW i j = true then some (.int (i * j)) else none
  | .lst a, .int k => if decide (-(2 ^ 63) ≤ k) && decide (k < 2 ^ 63) && decide (a.length * k.toNat ≤ sizeLine) then some (.lst (List.replicate k.toNat a).flatten) else none
  | _, _ => none
theorem reps_rep {K : PySem.W.Frag} {ps : List PV} {vs : List V} (h : Reps K S H ps vs) : ∀ n : Nat, Reps K S H (List.replicate n ps).flatten (List.replicate n vs).flatten
  | 0 => rfl
  | n + 1 => by rw [List.replicate_succ, List.replicate_succ, List.flatten_cons, List.flatten_cons]; exact h.app (reps_rep h n)
theorem po_mul : PO X (binaryOp .Mult) pMul := po_of ((op_mul.or op_mulW).or op_rep) (by
  intro S p q z x y H Q al h1 h2 e k
  cases p <;> cases q <;> try (cases e; done)
  · obtain rfl := h1; obtain rfl := h2
    simp only [pMul] at e
    split at e
    · rename_i hc; cases e; exact .inl ((cMulW_ok hc).imp (fun h => ⟨_, _, rfl, rfl, h, k _ _ (.refl _) rfl⟩) fun h => ⟨_, _, rfl, rfl, h, k _ _ (.refl _) rfl⟩)
    · cases e
  · obtain ⟨a, vs, rfl, na, ha, ra⟩ := h1; obtain rfl := h2
    simp only [pMul] at e
    split at e
    · rename_i hc
      cases e
      rw [Bool.and_eq_true, Bool.and_eq_true, decide_eq_true_eq, decide_eq_true_eq, decide_eq_true_eq] at hc
      exact .inr ⟨a, _, vs, rfl, rfl, ha, hc.1.1, hc.1.2, by rw [← ra.len]; exact hc.2, fun p hp => k _ _ (same_new hp) (rep_new_lst al hp (reps_rep ra _))⟩
    · cases e)
def cDivW : Int → Int → Bool := fun _ j => decide (0 < j) && decide (j.natAbs.log2 < 9000)
abbrev pDiv := pI2 cDivW fun i j => .int (i / j)
theorem po_div : PO X (binaryOp .FloorDiv) pDiv := po_I op_fdivW (fun i j h => by unfold cDivW at h; rw [Bool.and_eq_true, decide_eq_true_eq, decide_eq_true_eq] at h; exact h) fun _ _ _ _ _ => rfl
abbrev pMod := pI2 (fun _ j => decide (0 < j)) fun i j => .int (i % j)
theorem po_mod : PO X (binaryOp .Mod) pMod := po_I op_mod (fun i j h => of_decide_eq_true h) fun _ _ _ _ _ => rfl
def cPow : Int → Int → Bool := fun i j => decide (0 ≤ j) && decide (j ≤ 1000000) && decide (i.natAbs < 2 ^ 64)
theorem cPow_ok (i j : Int) (h : cPow i j = true) : CPow i j := by
  unfold cPow at h
  rw [Bool.and_eq_true, Bool.and_eq_true, decide_eq_true_eq, decide_eq_true_eq, decide_eq_true_eq] at h
  exact ⟨h.1.1, h.1.2, h.2⟩
abbrev pPow := pI2 cPow fun i j => .int (i ^ j.toNat)
theorem po_pow : PO X (binaryOp .Pow) pPow := po_I op_pow cPow_ok fun _ _ _ _ _ => rfl
abbrev pShl := pI2 cPow fun i j => .int (i * 2 ^ j.toNat)
theorem po_shl : PO X (binaryOp .LShift) pShl := po_I op_shl cPow_ok fun _ _ _ _ _ => rfl
abbrev pShr := pI2 (fun _ j => decide (0 ≤ j)) fun i j => .int (i / 2 ^ j.toNat)
theorem po_shr : PO X (binaryOp .RShift) pShr := po_I op_shr (fun i j h => of_decide_eq_true h) fun _ _ _ _ _ => rfl
abbrev pAndB := pI2 yes2 fun i j => .int (Builtin.bitAnd i j)
theorem po_and : PO X (binaryOp .BitAnd) pAndB := po_I0 op_and fun _ _ _ _ _ => rfl
abbrev pOrB := pI2 yes2 fun i j => .int (Builtin.bitOr i j)
theorem po_or : PO X (binaryOp .BitOr) pOrB := po_I0 op_or fun _ _ _ _ _ => rfl
abbrev pXorB := pI2 yes2 fun i j => .int (Builtin.bitXor i j)
theorem po_xor : PO X (binaryOp .BitXor) pXorB := po_I0 op_xor fun _ _ _ _ _ => rfl
mutual
/-- as plain data -/
def dataOf : PV → Option PyData
  | .non => some .none
  | .bl b => some (.bool b)
  | .int i => some (.int i)
  | .str s => some (.str s)
  | .lst xs => (datasOf xs).map .list
  | .scr xs => (datasOf xs).map .list
  | .tup xs => (datasOf xs).map .tuple
  | _ => none
def datasOf : List PV → Option (List PyData)
  | [] => some []
  | p :: ps => match dataOf p, datasOf ps with
    | some d, some ds => some (d :: ds)
    | _, _ => none
end
mutual
theorem dp_rep {K : PySem.W.Frag} : ∀ {p : PV} {d : PyData} {v : V}, dataOf p = some d → Rep K S H p v → Dp K H v d
  | .non, _, _, e, h => by cases e; cases h; exact .non
  | .bl _, _, _, e, h => by cases e; cases h; exact .bl _
  | .int _, _, _, e, h => by cases e; cases h; exact .int _
  | .str _, _, _, e, h => by cases e; cases h; exact .str _
  | .lst xs, d, _, e, h => by
    obtain ⟨a, vs, rfl, na, ha, ra⟩ := h
    unfold dataOf at e
    obtain ⟨ds, e1, e2⟩ := Option.map_eq_some_iff.mp e
    subst e2
    exact .lst (SqL.of ha) (dps_rep e1 ra)
  | .scr xs, d, _, e, h => by
    obtain ⟨a, vs, rfl, ha, ra⟩ := h
    unfold dataOf at e
    obtain ⟨ds, e1, e2⟩ := Option.map_eq_some_iff.mp e
    subst e2
    exact .lst (sqL_of ha) (dps_rep e1 ra)
  | .tup xs, d, _, e, h => by
    obtain ⟨a, vs, rfl, ha, ra⟩ := h
    unfold dataOf at e
    obtain ⟨ds, e1, e2⟩ := Option.map_eq_some_iff.mp e
    subst e2
    exact .tup (sqT_of ha) (dps_rep e1 ra)
  | .obj _ _, _, _, e, _ => by cases e
  | .dic _, _, _, e, _ => by cases e
theorem dps_rep {K : PySem.W.Frag} : ∀ {ps : List PV} {ds : List PyData} {vs : List V}, datasOf ps = some ds → Reps K S H ps vs → DpAll K H vs ds
  | [], _, _, e, h => by cases e; cases h; exact .nil
  | p :: ps, ds, _, e, h => by
    obtain ⟨v, r, rfl, h1, h2⟩ := h
    unfold datasOf at e
    cases e1 : dataOf p with
    | none => rw [e1] at e; cases e
    | some d =>
      cases e2 : datasOf ps with
      | none => rw [e1, e2] at e; cases e
      | some ds' => rw [e1, e2] at e; cases e; exact .cons (dp_rep e1 h1) (dps_rep e2 h2)
end
def pEqB (p q : PV) : Option Bool := match dataOf p, dataOf q with
  | some d, some e => if SeqAt.shaped d && SeqAt.shaped e then some (PyData.eqv d e) else none
  | _, _ => none
def pEq (p q : PV) : Option PV := (pEqB p q).map .bl
def pNe (p q : PV) : Option PV := (pEqB p q).map fun b => .bl (!b)
theorem eqB_ok {K : PySem.W.Frag} {p q : PV} {x y : V} {b : Bool} (e : pEqB p q = some b) (h1 : Rep K S H p x) (h2 : Rep K S H q y) : ∃ d e, Dp K H x d ∧ Dp K H y e ∧ SeqAt.shaped d = true ∧ SeqAt.shaped e = true ∧ PyData.eqv d e = b := by
  unfold pEqB at e
  split at e
  · rename_i d d' e1 e2
    split at e
    · rename_i hs
      rw [Bool.and_eq_true] at hs
      exact ⟨d, d', dp_rep e1 h1, dp_rep e2 h2, hs.1, hs.2, Option.some.inj e⟩
    · cases e
  · cases e
theorem po_eq (hu : X.A.units + 64 < cLine) : PO X (compareOp .Eq) pEq := po_of (op_eqD hu) (by
  intro S p q z x y H Q al h1 h2 e k
  obtain ⟨b, e1, e2⟩ := Option.map_eq_some_iff.mp e
  subst e2
  obtain ⟨d, d', a1, a2, a3, a4, a5⟩ := eqB_ok e1 h1 h2
  exact ⟨d, d', a1, a2, a3, a4, by rw [a5]; exact k _ _ (.refl _) rfl⟩)
theorem po_ne (hu : X.A.units + 64 < cLine) : PO X (compareOp .NotEq) pNe := po_of (op_neD hu) (by
  intro S p q z x y H Q al h1 h2 e k
  obtain ⟨b, e1, e2⟩ := Option.map_eq_some_iff.mp e
  subst e2
  obtain ⟨d, d', a1, a2, a3, a4, a5⟩ := eqB_ok e1 h1 h2
  exact ⟨d, d', a1, a2, a3, a4, by rw [a5]; exact k _ _ (.refl _) rfl⟩)
def intsOf : List PV → Option (List Int)
  | [] => some []
  | .int i :: ps => (intsOf ps).map (i :: ·)
  | _ :: _ => none
theorem ints_rep {K : PySem.W.Frag} : ∀ {ps : List PV} {ns : List Int} {vs : List V}, intsOf ps = some ns → Reps K S H ps vs → vs = ns.map V.int
  | [], _, _, e, h => by cases e; cases h; rfl
  | p :: ps, ns, _, e, h => by
    obtain ⟨v, r, rfl, h1, h2⟩ := h
    cases p <;> try (cases e; done)
    unfold intsOf at e
    obtain ⟨ms, e1, e2⟩ := Option.map_eq_some_iff.mp e
    subst e2
    cases h1
    rw [ints_rep e1 h2]
    rfl
def pLt : PV → PV → Option PV
  | .int i, .int j => some (.bl (decide (i < j)))
  | .tup a, .tup b => match intsOf a, intsOf b with
    | some ns, some ms => some (.bl (HT.lexLt ns ms))
    | _, _ => none
  | _, _ => none
theorem po_lt (hu : X.A.units < cLine) : PO X (compareOp .Lt) pLt := po_of (op_lt.or (op_ltT hu)) (by
  intro S p q z x y H Q al h1 h2 e k
  cases p <;> cases q <;> try (cases e; done)
  · obtain rfl := h1; obtain rfl := h2; cases e
    exact .inl ⟨_, _, rfl, rfl, k _ _ (.refl _) rfl⟩
  · obtain ⟨a, vs, rfl, ha, ra⟩ := h1; obtain ⟨b, ws, rfl, hb, rb⟩ := h2
    simp only [pLt] at e
    split at e
    · rename_i ns ms e1 e2
      cases e
      obtain rfl := ints_rep e1 ra
      obtain rfl := ints_rep e2 rb
      exact .inr ⟨a, b, ns, ms, rfl, rfl, sqT_of ha, sqT_of hb, k _ _ (.refl _) rfl⟩
    · cases e)
def leT (ns ms : List Int) : Bool := Ob.lexAt (fun j => decide (ns.getD j 0 = ms.getD j 0)) (fun j => decide (ns.getD j 0 ≤ ms.getD j 0)) (decide (ns.length ≤ ms.length)) 0 (min ns.length ms.length)
def pLe : PV → PV → Option PV
  | .int i, .int j => some (.bl (decide (i ≤ j)))
  | .tup a, .tup b => match intsOf a, intsOf b with
    | some ns, some ms => some (.bl (leT ns ms))
    | _, _ => none
  | _, _ => none
theorem po_le (hu : X.A.units < cLine) : PO X (compareOp .LtE) pLe := po_of (op_le.or (op_leT hu)) (by
  intro S p q z x y H Q al h1 h2 e k
  cases p <;> cases q <;> try (cases e; done)
  · obtain rfl := h1; obtain rfl := h2; cases e
    exact .inl ⟨_, _, rfl, rfl, k _ _ (.refl _) rfl⟩
  · obtain ⟨a, vs, rfl, ha, ra⟩ := h1; obtain ⟨b, ws, rfl, hb, rb⟩ := h2
    simp only [pLe] at e
    split at e
    · rename_i ns ms e1 e2
      cases e
      obtain rfl := ints_rep e1 ra
      obtain rfl := ints_rep e2 rb
      exact .inr ⟨a, b, ns, ms, rfl, rfl, sqT_of ha, sqT_of hb, k _ _ (.refl _) rfl⟩
    · cases e)
abbrev pGt := pI2 yes2 fun i j => .bl (decide (j < i))
theorem po_gt : PO X (compareOp .Gt) pGt := po_I0 op_gt fun _ _ _ _ _ => rfl
def pIsN : PV → PV → Option PV
  | .non, .non => some (.bl true)
  | _, .non => some (.bl false)
  | _, _ => none
def pNotN : PV → PV → Option PV
  | .non, .non => some (.bl false)
  | _, .non => some (.bl true)
  | _, _ => none
theorem rep_non {K : PySem.W.Frag} {p : PV} {v : V} (h : Rep K S H p v) : (v = .non) ↔ p = .non := by
  cases p with
  | non => exact ⟨fun _ => rfl, fun _ => h⟩
  | bl b => cases h; exact ⟨fun z => (nomatch z), fun z => (nomatch z)⟩
  | int b => cases h; exact ⟨fun z => (nomatch z), fun z => (nomatch z)⟩
  | str b => cases h; exact ⟨fun z => (nomatch z), fun z => (nomatch z)⟩
  | tup b => obtain ⟨a, vs, rfl, _⟩ := h; exact ⟨fun z => (nomatch z), fun z => (nomatch z)⟩
  | lst b => obtain ⟨a, vs, rfl, _⟩ := h; exact ⟨fun z => (nomatch z), fun z => (nomatch z)⟩
  | scr b => obtain ⟨a, vs, rfl, _⟩ := h; exact ⟨fun z => (nomatch z), fun z => (nomatch z)⟩
  | obj c b => obtain ⟨a, vs, _, rfl, _⟩ := h; exact ⟨fun z => (nomatch z), fun z => (nomatch z)⟩
  | dic b => obtain ⟨a, vs, rfl, _⟩ := h; exact ⟨fun z => (nomatch z), fun z => (nomatch z)⟩
theorem po_isN : PO X (compareOp .Is) pIsN := po_of op_isN (by
  intro S p q z x y H Q al h1 h2 e k
  cases q <;> try (cases p <;> cases e; done)
  obtain rfl := h2
  refine ⟨rfl, ?_⟩
  have hn := rep_non h1
  by_cases hp : p = .non
  · rw [decide_eq_true (hn.mpr hp)]
    subst hp
    cases e
    exact k _ _ (.refl _) rfl
  · rw [decide_eq_false (fun z => hp (hn.mp z))]
    cases p <;> first | exact absurd rfl hp | (cases e; exact k _ _ (.refl _) rfl))
theorem po_notN : PO X (compareOp .IsNot) pNotN := po_of op_notN (by
  intro S p q z x y H Q al h1 h2 e k
  cases q <;> try (cases p <;> cases e; done)
  obtain rfl := h2
  refine ⟨rfl, ?_⟩
  have hn := rep_non h1
  by_cases hp : p = .non
  · rw [decide_eq_true (hn.mpr hp)]
    subst hp
    cases e
    exact k _ _ (.refl _) rfl
  · rw [decide_eq_false (fun z => hp (hn.mp z))]
    cases p <;> first | exact absurd rfl hp | (cases e; exact k _ _ (.refl _) rfl))
end
end Ev
namespace Ev
open PySem PySem.Spec PyProof.Rows L2
abbrev FE := Env → Res (PV × Env)
abbrev FT := Env → Res (Bool × Env)
abbrev FA := Env → Res (List PV × Env)
def fVar (i : Nat) : FE := fun ρ => match ρ[i]? with
  | some (.fr p) => .ok (p, ρ)
  | _ => .bad
def fC (p : PV) : FE := fun ρ => .ok (p, ρ)
def fBin (g : PV → PV → Option PV) (fa fb : FE) : FE := fun ρ => (fa ρ).bind fun z => (fb z.2).bind fun w => ofO (g z.1 w.1) w.2
def fUn (g : PV → Option PV) (fa : FE) : FE := fun ρ => (fa ρ).bind fun z => ofO (g z.1) z.2
def asB : PV → Option Bool
  | .bl b => some b
  | _ => none
def asI : PV → Option Int
  | .int i => some i
  | _ => none
def fT (f : FE) : FT := fun ρ => (f ρ).bind fun z => ofO (asB z.1) z.2
def fChain (g g' : PV → PV → Option PV) (fa fb fc : FE) : FE := fun ρ => (fa ρ).bind fun z => (fb z.2).bind fun w => (ofO ((g z.1 w.1).bind asB) w.2).bind fun k => if k.1 = true then (fc k.2).bind fun u => ofO (g' w.1 u.1) u.2 else .ok (.bl false, k.2)
def fAnd (fa fb : FE) : FE := fun ρ => (fT fa ρ).bind fun k => if k.1 = true then fb k.2 else .ok (.bl false, k.2)
def fOr (fa fb : FE) : FE := fun ρ => (fT fa ρ).bind fun k => if k.1 = true then .ok (.bl true, k.2) else fb k.2
def fNot (fa : FE) : FE := fun ρ => (fT fa ρ).bind fun k => .ok (.bl (!k.1), k.2)
def tAndF (fa fb : FT) : FT := fun ρ => (fa ρ).bind fun k => if k.1 = true then fb k.2 else .ok (false, k.2)
def tOrF (fa fb : FT) : FT := fun ρ => (fa ρ).bind fun k => if k.1 = true then .ok (true, k.2) else fb k.2
def tNotF (fa : FT) : FT := fun ρ => (fa ρ).bind fun k => .ok (!k.1, k.2)
def fIf (c : FT) (fa fb : FE) : FE := fun ρ => (c ρ).bind fun k => if k.1 = true then fa k.2 else fb k.2
def fNil : FA := fun ρ => .ok ([], ρ)
def fCons (f : FE) (r : FA) : FA := fun ρ => (f ρ).bind fun z => (r z.2).bind fun w => .ok (z.1 :: w.1, w.2)
def fTup (fa : FA) : FE := fun ρ => (fa ρ).bind fun z => if z.1.length ≤ 1000 then .ok (.tup z.1, z.2) else .bad
def fLst (fa : FA) : FE := fun ρ => (fa ρ).bind fun z => if z.1.length ≤ 1000 then .ok (.lst z.1, z.2) else .bad
def pA (K : PySem.W.Frag) (E : L2.St → XK) (f : FA) : TA := fun σ H Q => ∃ H0 A Z T S own ρ, PSt K H0 A Z T S own σ H ρ ∧ okR K H0 A Z T S own σ E H (f ρ) fun ps H' => ∀ vs, Reps K S H' ps vs → Q vs H'
section
variable {X : Cx} {E : L2.St → XK} {e a b c : Expr} {es : List Expr} {x : Str} {pos : Pos} {fa fb fc : FE} {ta tb tc : FT} {ra : FA} {g g' : PV → PV → Option PV} {g1 : PV → Option PV}
theorem ofO_ok {α : Type} {K : PySem.W.Frag} {H0 : Hp} {A : Nat → Option Addr} {Z T S : Addr → Prop} {own : Nat → Addr} {σ : L2.St} {H : Hp} {ρ : Env} {o : Option α} {post : α → Hp → Prop} (P : PSt K H0 A Z T S own σ H ρ) (h : okR K H0 A Z T S own σ E H (ofO o ρ) post) :
    ∃ z, o = some z ∧ ∀ H', Same H H' → post z H' := by
  cases o with
  | none => exact h.elim
  | some z => exact ⟨z, rfl, fun H' s => h H' (P.same s) (.of s)⟩
theorem same_small {n : Nat} (h : n ≤ 1000) : n ≤ sizeLine := Nat.le_trans h (by decide)
theorem ue_var (i : Nat) (hN : X.N[i]? = some x := by rfl) (hv : Vis X.env.scope x := by first | exact Or.inl rfl | exact Or.inr (Or.inl rfl) | exact Or.inr (Or.inr rfl)) (hd : (x == ("__debug__" : Str)) = false := by decide)
    (hcd : (x == ("__classdict__" : Str)) = false := by decide) : PE X (.Name x pos) (pE X.K E (fVar i)) := (pe_var hN hv hd hcd).imp (by
  rintro σ H Q ⟨H0, A, Z, T, S, own, ρ, P, h⟩
  unfold fVar at h
  cases e : ρ[i]? with
  | none => rw [e] at h; exact h.elim
  | some z =>
    rw [e] at h
    cases z with
    | fr p =>
      obtain ⟨v, h1, h2⟩ := P.var e
      exact ⟨v, h1, h H P .refl v h2⟩
    | _ => exact h.elim)
theorem ue_c {v : V} {p : PV} (h : PE X e (tC v)) (hr : ∀ (K : PySem.W.Frag) (S : Addr → Prop) (H : Hp), Rep K S H p v) : PE X e (pE X.K E (fC p)) := h.imp (by
  rintro σ H Q ⟨H0, A, Z, T, S, own, ρ, P, h⟩
  exact h H P .refl v (hr _ _ _))
theorem ue_int {i : Int} {j : Nat} : PE X (.Constant (.int i) j pos) (pE X.K E (fC (.int i))) := ue_c pe_int fun _ _ _ => rfl
theorem ue_bl {b : Bool} {j : Nat} : PE X (.Constant (.bool b) j pos) (pE X.K E (fC (.bl b))) := ue_c pe_bl fun _ _ _ => rfl
theorem ue_non {j : Nat} : PE X (.Constant .none j pos) (pE X.K E (fC .non)) := ue_c pe_non fun _ _ _ => rfl
theorem ue_str {z : Str} {j : Nat} : PE X (.Constant (.str z) j pos) (pE X.K E (fC (.str z))) := ue_c pe_str fun _ _ _ => rfl
theorem ue_gint {i : Int} (hg : Gl X x) (h : ∃ u, X.mg x = some u ∧ RelV (.int i) u) (hd : (x == ("__debug__" : Str)) = false := by decide) : PE X (.Name x pos) (pE X.K E (fC (.int i))) := ue_c (C8.pe_gc hg h hd) fun _ _ _ => rfl
theorem bin_imp {σ : L2.St} {H : Hp} {Q : VK} (h : pE X.K E (fBin g fa fb) σ H Q) : tOp (rP X.K g) (pE X.K E fa) (pE X.K E fb) σ H Q := by
  obtain ⟨H0, A, Z, T, S, own, ρ, P, h⟩ := h
  refine ⟨H0, A, Z, T, S, own, ρ, P, h.bnd.mono ?_⟩
  rintro p H1 - ⟨ρ1, P1, k1, h1⟩ v r1
  refine ⟨H0, A, Z, T, S, own, ρ1, P1, h1.bnd.mono ?_⟩
  rintro q H2 - ⟨ρ2, P2, k2, h2⟩ w r2
  obtain ⟨z, e, k⟩ := ofO_ok P2 h2
  exact ⟨S, p, q, z, P2.al, r1.keep k2, r2, e, fun u H' s r => k H' s u r⟩
theorem ue_op {op : Operator} (ho : PO X (binaryOp op) g) (ha : PE X a (pE X.K E fa)) (hb : PE X b (pE X.K E fb)) : PE X (.BinOp a op b pos) (pE X.K E (fBin g fa fb)) := (pe_op ho ha hb).imp fun _ _ _ => bin_imp
theorem ue_un {op : UnaryOp} (ho : PU X (unaryOp op) g1) (ha : PE X a (pE X.K E fa)) : PE X (.UnaryOp op a pos) (pE X.K E (fUn g1 fa)) := (pe_un ho ha).imp (by
  rintro σ H Q ⟨H0, A, Z, T, S, own, ρ, P, h⟩
  refine ⟨H0, A, Z, T, S, own, ρ, P, h.bnd.mono ?_⟩
  rintro p H1 - ⟨ρ1, P1, k1, h1⟩ v r1
  obtain ⟨z, e, k⟩ := ofO_ok P1 h1
  exact ⟨S, p, z, P1.al, r1, e, fun u H' s r => k H' s u r⟩)
theorem ue_cmp {op : CmpOp} (ho : PO X (compareOp op) g) (ha : PE X a (pE X.K E fa)) (hb : PE X b (pE X.K E fb)) (hm : behindInMarks op b = false) : PE X (.Compare a [op] [b] pos) (pE X.K E (fBin g fa fb)) := (pe_cmpR ho ha hb hm).imp fun _ _ _ => bin_imp
theorem asB_rep {K : PySem.W.Frag} {S : Addr → Prop} {H : Hp} {p : PV} {v : V} {b : Bool} (e : asB p = some b) (h : Rep K S H p v) : v = .bl b := by
  cases p <;> first | (cases e; exact h) | cases e
theorem fT_imp {f : FE} {σ : L2.St} {H : Hp} {Q : Bool → Hp → Prop} (h : pT X.K E (fT f) σ H Q) : pE X.K E f σ H fun v H' => ∃ k, v = .bl k ∧ Q k H' := by
  obtain ⟨H0, A, Z, T, S, own, ρ, P, h⟩ := h
  refine ⟨H0, A, Z, T, S, own, ρ, P, h.bnd.mono ?_⟩
  rintro p H1 - ⟨ρ1, P1, k1, h1⟩ v r1
  obtain ⟨z, e, k⟩ := ofO_ok P1 h1
  exact ⟨z, asB_rep e r1, k H1 (.refl _)⟩
theorem ut_cmp {op : CmpOp} (ho : PO X (compareOp op) g) (ha : PE X a (pE X.K E fa)) (hb : PE X b (pE X.K E fb)) (hm : behindInMarks op b = false) : PT X (.Compare a [op] [b] pos) (pT X.K E (fT (fBin g fa fb))) :=
  (pt_cmpR ho ha hb hm).imp fun _ _ _ h => bin_imp (fT_imp h)
theorem ut_val (h : PE X e (pE X.K E fa)) (he : ∀ whole, isTrue e X.env whole = (do let v ← whole; standAt e.pos; holding [v] (truthy v)) := by intro _; rfl) : PT X e (pT X.K E (fT fa)) := (pt_val h he).imp fun _ _ _ => fT_imp
theorem chain_imp {σ : L2.St} {H : Hp} {Q : VK} (h : pE X.K E (fChain g g' fa fb fc) σ H Q) : tChain (rP X.K g) (rP X.K g') (pE X.K E fa) (pE X.K E fb) (pE X.K E fc) σ H Q := by
  obtain ⟨H0, A, Z, T, S, own, ρ, P, h⟩ := h
  refine ⟨H0, A, Z, T, S, own, ρ, P, h.bnd.mono ?_⟩
  rintro p H1 - ⟨ρ1, P1, k1, h1⟩ v r1
  refine ⟨H0, A, Z, T, S, own, ρ1, P1, h1.bnd.mono ?_⟩
  rintro q H2 - ⟨ρ2, P2, k2, h2⟩ w r2
  dsimp only at h2
  cases e : g p q with
  | none => rw [e] at h2; exact h2.elim
  | some z =>
  rw [e] at h2
  change okR _ _ _ _ _ _ _ _ _ _ ((ofO (asB z) ρ2).bind _) _ at h2
  cases e2 : asB z with
  | none => rw [e2] at h2; exact h2.elim
  | some k =>
  rw [e2] at h2
  refine ⟨S, p, q, z, P2.al, r1.keep k2, r2, e, fun u H' s r => ⟨k, asB_rep e2 r, ?_⟩⟩
  have P' := P2.same s
  have h3 := h2.shift (.of s)
  cases k with
  | false => exact iteF (h3 H' P' .refl _ rfl)
  | true =>
    refine iteT ⟨H0, A, Z, T, S, own, ρ2, P', (okR.bnd (r := fc ρ2) h3).mono ?_⟩
    rintro p3 H3 - ⟨ρ3, P3, k3, h4⟩ y r3
    obtain ⟨z4, e4, k4⟩ := ofO_ok P3 h4
    exact ⟨S, q, p3, z4, P3.al, (r2.keep (.of s)).keep k3, r3, e4, fun u H'' s' r' => k4 H'' s' u r'⟩
theorem ue_chain {op op' : CmpOp} (ho : PO X (compareOp op) g) (ho' : PO X (compareOp op') g') (ha : PE X a (pE X.K E fa)) (hb : PE X b (pE X.K E fb)) (hc : PE X c (pE X.K E fc)) (hm : lastMarks [op, op'] [b, c] = false := by rfl) : PE X (.Compare a [op, op'] [b, c] pos) (pE X.K E (fChain g g' fa fb fc)) :=
  (pe_chain ho ho' ha hb hc hm).imp fun _ _ _ => chain_imp
theorem ue_and {rest : List Expr} (ha : PE X a (pE X.K E fa)) (hb : PE X (.BoolOp .And (b :: rest) pos) (pE X.K E fb)) : PE X (.BoolOp .And (a :: b :: rest) pos) (pE X.K E (fAnd fa fb)) := (pe_and ha hb).imp (by
  rintro σ H Q ⟨H0, A, Z, T, S, own, ρ, P, h⟩
  unfold fAnd fT at h
  have h := okR.bnd h
  refine ⟨H0, A, Z, T, S, own, ρ, P, h.bnd.mono ?_⟩
  rintro p H1 - ⟨ρ1, P1, k1, h1⟩ v r1
  obtain ⟨k, e, h1⟩ := ofO_ok P1 h1
  obtain ⟨ρ2, P2, k2, h2⟩ := h1 H1 (.refl _)
  refine ⟨k, asB_rep e r1, ?_⟩
  cases k with
  | true => exact iteT ⟨H0, A, Z, T, S, own, ρ2, P2, h2⟩
  | false => exact iteF (h2 H1 P2 .refl _ rfl))
theorem ue_or {rest : List Expr} (ha : PE X a (pE X.K E fa)) (hb : PE X (.BoolOp .Or (b :: rest) pos) (pE X.K E fb)) : PE X (.BoolOp .Or (a :: b :: rest) pos) (pE X.K E (fOr fa fb)) := (pe_or ha hb).imp (by
  rintro σ H Q ⟨H0, A, Z, T, S, own, ρ, P, h⟩
  unfold fOr fT at h
  have h := okR.bnd h
  refine ⟨H0, A, Z, T, S, own, ρ, P, h.bnd.mono ?_⟩
  rintro p H1 - ⟨ρ1, P1, k1, h1⟩ v r1
  obtain ⟨k, e, h1⟩ := ofO_ok P1 h1
  obtain ⟨ρ2, P2, k2, h2⟩ := h1 H1 (.refl _)
  refine ⟨k, asB_rep e r1, ?_⟩
  cases k with
  | true => exact iteT (h2 H1 P2 .refl _ rfl)
  | false => exact iteF ⟨H0, A, Z, T, S, own, ρ2, P2, h2⟩)
theorem ue_not (ha : PE X a (pE X.K E fa)) : PE X (.UnaryOp .Not a pos) (pE X.K E (fNot fa)) := (pe_not ha).imp (by
  rintro σ H Q ⟨H0, A, Z, T, S, own, ρ, P, h⟩
  unfold fNot fT at h
  have h := okR.bnd h
  refine ⟨H0, A, Z, T, S, own, ρ, P, h.bnd.mono ?_⟩
  rintro p H1 - ⟨ρ1, P1, k1, h1⟩ v r1
  obtain ⟨k, e, h1⟩ := ofO_ok P1 h1
  obtain ⟨ρ2, P2, k2, h2⟩ := h1 H1 (.refl _)
  exact ⟨k, asB_rep e r1, h2 H1 P2 .refl _ rfl⟩)
theorem ut_not (ha : PT X a (pT X.K E ta)) : PT X (.UnaryOp .Not a pos) (pT X.K E (tNotF ta)) := (pt_not ha).imp (by
  rintro σ H Q ⟨H0, A, Z, T, S, own, ρ, P, h⟩
  refine ⟨H0, A, Z, T, S, own, ρ, P, h.bnd.mono ?_⟩
  rintro p H1 - ⟨ρ1, P1, k1, h1⟩
  exact h1 H1 P1 .refl)
theorem uw_and1 (ha : PT X a (pT X.K E ta)) : PW X (.BoolOp .And [a] pos) (pT X.K E ta) := pw_and1 ha
theorem uw_or1 (ha : PT X a (pT X.K E ta)) : PW X (.BoolOp .Or [a] pos) (pT X.K E ta) := pw_or1 ha
theorem uw_and {rest : List Expr} (ha : PT X a (pT X.K E ta)) (hb : PW X (.BoolOp .And (b :: rest) pos) (pT X.K E tb)) : PW X (.BoolOp .And (a :: b :: rest) pos) (pT X.K E (tAndF ta tb)) := (pw_and ha hb).imp (by
  rintro σ H Q ⟨H0, A, Z, T, S, own, ρ, P, h⟩
  refine ⟨H0, A, Z, T, S, own, ρ, P, h.bnd.mono ?_⟩
  rintro k H1 - ⟨ρ1, P1, k1, h1⟩
  cases k with
  | true => exact iteT ⟨H0, A, Z, T, S, own, ρ1, P1, h1⟩
  | false => exact iteF (h1 H1 P1 .refl))
theorem uw_or {rest : List Expr} (ha : PT X a (pT X.K E ta)) (hb : PW X (.BoolOp .Or (b :: rest) pos) (pT X.K E tb)) : PW X (.BoolOp .Or (a :: b :: rest) pos) (pT X.K E (tOrF ta tb)) := (pw_or ha hb).imp (by
  rintro σ H Q ⟨H0, A, Z, T, S, own, ρ, P, h⟩
  refine ⟨H0, A, Z, T, S, own, ρ, P, h.bnd.mono ?_⟩
  rintro k H1 - ⟨ρ1, P1, k1, h1⟩
  cases k with
  | true => exact iteT (h1 H1 P1 .refl)
  | false => exact iteF ⟨H0, A, Z, T, S, own, ρ1, P1, h1⟩)
theorem ua_nil : PA X [] (pA X.K E fNil) := pa_nil.imp (by
  rintro σ H Q ⟨H0, A, Z, T, S, own, ρ, P, h⟩
  exact h H P .refl _ rfl)
theorem ua_cons (ha : PE X e (pE X.K E fa)) (hr : PA X es (pA X.K E ra)) (hs : starEach (e :: es) X.env = (false, eval e X.env) :: starEach es X.env := by rfl) : PA X (e :: es) (pA X.K E (fCons fa ra)) := (pa_cons ha hr hs).imp (by
  rintro σ H Q ⟨H0, A, Z, T, S, own, ρ, P, h⟩
  refine ⟨H0, A, Z, T, S, own, ρ, P, h.bnd.mono ?_⟩
  rintro p H1 - ⟨ρ1, P1, k1, h1⟩ v r1
  refine ⟨H0, A, Z, T, S, own, ρ1, P1, h1.bnd.mono ?_⟩
  rintro ps H2 - ⟨ρ2, P2, k2, h2⟩ vs r2
  exact h2 H2 P2 .refl _ ⟨v, vs, rfl, r1.keep k2, r2⟩)
theorem ue_tup {x1} (h : PA X es (pA X.K E ra)) : PE X (.Tuple es x1 pos) (pE X.K E (fTup ra)) := (pe_tup h).imp (by
  rintro σ H Q ⟨H0, A, Z, T, S, own, ρ, P, h⟩
  refine ⟨H0, A, Z, T, S, own, ρ, P, h.bnd.mono ?_⟩
  rintro ps H1 - ⟨ρ1, P1, k1, h1⟩ vs r1
  dsimp only at h1
  split at h1
  · rename_i hl
    rw [r1.len] at hl
    exact ⟨same_small hl, fun p hp => h1 _ (P1.same (same_new hp)) (.of (same_new hp)) _ (rep_new_tup P1.al hp r1)⟩
  · exact h1.elim)
theorem ue_lst (h : PA X es (pA X.K E ra)) : PE X (.List es pos) (pE X.K E (fLst ra)) := (pe_lst h).imp (by
  rintro σ H Q ⟨H0, A, Z, T, S, own, ρ, P, h⟩
  refine ⟨H0, A, Z, T, S, own, ρ, P, h.bnd.mono ?_⟩
  rintro ps H1 - ⟨ρ1, P1, k1, h1⟩ vs r1
  dsimp only at h1
  split at h1
  · rename_i hl
    rw [r1.len] at hl
    exact ⟨same_small hl, fun p hp => h1 _ (P1.same (same_new hp)) (.of (same_new hp)) _ (rep_new_lst P1.al hp r1)⟩
  · exact h1.elim)
end
def pIdx : PV → PV → Option PV
  | .lst xs, .int i => atI xs i
  | .scr xs, .int i => atI xs i
  | .tup xs, .int i => atI xs i
  | .str z, .int i => if z.length ≤ sizeLine then (atI z.cps.toList i).map fun c => .str ⟨#[c]⟩ else none
  | _, _ => none
theorem atI_rep {K : PySem.W.Frag} {S : Addr → Prop} {H : Hp} {ps : List PV} {vs : List V} {i : Int} {p : PV} (h : Reps K S H ps vs) (e : atI ps i = some p) : ∃ v, atI vs i = some v ∧ Rep K S H p v := by
  unfold atI at e ⊢
  rw [← h.len]
  cases e1 : ixN ps.length i with
  | none => rw [e1] at e; cases e
  | some j => rw [e1] at e; exact h.get e
theorem ix_any {X : Cx} : IxR X (rP X.K pIdx) := fun value slice pins s σ H x y v u Q I r1 r2 ⟨S, p, q, z, al, h1, h2, e, k⟩ hs => ix_seq value slice pins s σ H x y v u Q I r1 r2 (by
  cases p <;> cases q <;> try (cases e; done)
  · obtain rfl := h1; obtain rfl := h2
    unfold pIdx at e
    dsimp only at e
    split at e
    · rename_i hl
      obtain ⟨c, e1, e2⟩ := Option.map_eq_some_iff.mp e
      subst e2
      exact .inr (.inr ⟨_, _, c, rfl, rfl, hl, e1, k _ _ (.refl _) rfl⟩)
    · cases e
  · obtain ⟨a, vs, rfl, ha, ra⟩ := h1; obtain rfl := h2
    obtain ⟨w, e1, e2⟩ := atI_rep ra e
    exact .inr (.inl ⟨a, vs, _, w, rfl, rfl, sqT_of ha, e1, k _ _ (.refl _) e2⟩)
  · obtain ⟨a, vs, rfl, na, ha, ra⟩ := h1; obtain rfl := h2
    obtain ⟨w, e1, e2⟩ := atI_rep ra e
    exact .inl ⟨a, vs, _, w, rfl, rfl, SqL.of ha, e1, k _ _ (.refl _) e2⟩
  · obtain ⟨a, vs, rfl, ha, ra⟩ := h1; obtain rfl := h2
    obtain ⟨w, e1, e2⟩ := atI_rep ra e
    exact .inl ⟨a, vs, _, w, rfl, rfl, sqL_of ha, e1, k _ _ (.refl _) e2⟩) hs
def cutP (xs : List PV) (lo hi : Option Int) : List PV := (xs.drop (HT.sIx xs.length 0 lo)).take (HT.sIx xs.length xs.length hi - HT.sIx xs.length 0 lo)
def pCut (p : PV) (lo hi : Option Int) : Option PV := match p with
  | .lst xs => some (.lst (cutP xs lo hi))
  | .scr xs => some (.lst (cutP xs lo hi))
  | .tup xs => some (.tup (cutP xs lo hi))
  | _ => none
theorem cut_rep {K : PySem.W.Frag} {S : Addr → Prop} {H : Hp} {ps : List PV} {vs : List V} {lo hi : Option Int} (h : Reps K S H ps vs) : Reps K S H (cutP ps lo hi) (cutV vs lo hi) := by
  unfold cutP cutV
  rw [← h.len]
  exact (h.drop _).take _
def FO := Env → Res (Option Int × Env)
def fNo : FO := fun ρ => .ok (none, ρ)
def fSo (f : FE) : FO := fun ρ => (f ρ).bind fun z => ofO ((asI z.1).map some) z.2
def pO (K : PySem.W.Frag) (E : L2.St → XK) (f : FO) : TO := fun σ H Q => ∃ H0 A Z T S own ρ, PSt K H0 A Z T S own σ H ρ ∧ okR K H0 A Z T S own σ E H (f ρ) fun o H' => Q o H'
def fCut (f : FE) (lo hi : FO) : FE := fun ρ => (f ρ).bind fun z => (lo z.2).bind fun l => (hi l.2).bind fun u => ofO (pCut z.1 l.1 u.1) u.2
section
variable {X : Cx} {E : L2.St → XK} {e a b c : Expr} {es : List Expr} {x : Str} {pos p2 : Pos} {fa fb fc : FE} {lo hi : Option Expr} {fl fh : FO}
theorem _root_.L2.PO.imp {e : Option Expr} {t t' : TO} (h : L2.PO X e t) (i : ∀ σ H Q, t' σ H Q → t σ H Q) : L2.PO X e t' := ⟨fun pins s σ H Q I q => h.run pins s σ H Q I (i _ _ _ q)⟩
theorem uo_none : L2.PO X none (pO X.K E fNo) := po_none.imp (by
  rintro σ H Q ⟨H0, A, Z, T, S, own, ρ, P, h⟩
  exact h H P .refl)
theorem asI_rep {K : PySem.W.Frag} {S : Addr → Prop} {H : Hp} {p : PV} {v : V} {b : Int} (e : asI p = some b) (h : Rep K S H p v) : v = .int b := by
  cases p <;> first | (cases e; exact h) | cases e
theorem uo_some (h : PE X e (pE X.K E fa)) : L2.PO X (some e) (pO X.K E (fSo fa)) := (po_some h).imp (by
  rintro σ H Q ⟨H0, A, Z, T, S, own, ρ, P, h⟩
  refine ⟨H0, A, Z, T, S, own, ρ, P, h.bnd.mono ?_⟩
  rintro p H1 - ⟨ρ1, P1, k1, h1⟩ v r1
  obtain ⟨z, e, k⟩ := ofO_ok P1 h1
  obtain ⟨i, e1, e2⟩ := Option.map_eq_some_iff.mp e
  subst e2
  exact ⟨i, asI_rep e1 r1, k H1 (.refl _)⟩)
theorem ue_ix (ha : PE X a (pE X.K E fa)) (hb : PE X b (pE X.K E fb)) (hs : PlainIx b) : PE X (.Subscript a b pos) (pE X.K E (fBin pIdx fa fb)) := (pe_ix ix_any ha hb hs).imp fun _ _ _ => bin_imp
theorem ue_cut (he : PE X e (pE X.K E fa)) (hl : L2.PO X lo (pO X.K E fl)) (hh : L2.PO X hi (pO X.K E fh)) : PE X (.Subscript e (.Slice lo hi none p2) pos) (pE X.K E (fCut fa fl fh)) := (pe_slice (sl_list.or sl_tupA) he hl hh).imp (by
  rintro σ H Q ⟨H0, A, Z, T, S, own, ρ, P, h⟩
  refine ⟨H0, A, Z, T, S, own, ρ, P, h.bnd.mono ?_⟩
  rintro p H1 - ⟨ρ1, P1, k1, h1⟩ v r1
  refine ⟨H0, A, Z, T, S, own, ρ1, P1, h1.bnd.mono ?_⟩
  rintro l H2 - ⟨ρ2, P2, k2, h2⟩
  refine ⟨H0, A, Z, T, S, own, ρ2, P2, h2.bnd.mono ?_⟩
  rintro u H3 - ⟨ρ3, P3, k3, h3⟩
  obtain ⟨z, e, k⟩ := ofO_ok P3 h3
  have r3 := (r1.keep k2).keep k3
  cases p <;> try (cases e; done)
  · obtain ⟨a, vs, rfl, ha, ra⟩ := r3
    cases e
    refine .inr ⟨a, vs, rfl, sqT_of ha, fun hw => ?_, fun _ p hp => k _ (same_new hp) _ (rep_new_tup P3.al hp (cut_rep ra))⟩
    refine k _ (.refl _) _ ⟨a, vs, rfl, ha, ?_⟩
    have := cut_rep (lo := l) (hi := u) ra
    have e2 : cutV vs l u = vs := by
      unfold cutV
      rw [hw.1, hw.2]
      exact List.take_of_length_le (Nat.le_refl _)
    rw [e2] at this
    exact this
  · obtain ⟨a, vs, rfl, na, ha, ra⟩ := r3
    cases e
    exact .inl ⟨a, vs, rfl, SqL.of ha, fun p hp => k _ (same_new hp) _ (rep_new_lst P3.al hp (cut_rep ra))⟩
  · obtain ⟨a, vs, rfl, ha, ra⟩ := r3
    cases e
    exact .inl ⟨a, vs, rfl, sqL_of ha, fun p hp => k _ (same_new hp) _ (rep_new_lst P3.al hp (cut_rep ra))⟩)
/-- what the layer asks of an own class: it is plain, and has no attributes of the fields' names -/
structure ClsP (K : PySem.W.Frag) (c : Str) (fs : List Str) : Prop where
  cl : Cls K (He.ga K c)
  no : ∀ f ∈ fs, NoAttr K (He.ga K c) f
def pFld (c f : Str) : PV → Option PV
  | .obj c' fs => if c' = c then fs.lookup f else none
  | _ => none
theorem ue_fld {f : Str} (c : Str) {fs : List Str} (C : ClsP X.K c fs) (hf : f ∈ fs) (ha : PE X e (pE X.K E fa)) (hb : attributeBase e f X.env (eval e X.env) = eval e X.env) : PE X (.Attribute e f pos) (pE X.K E (fUn (pFld c f) fa)) := (pe_fld ha hb).imp (by
  rintro σ H Q ⟨H0, A, Z, T, S, own, ρ, P, h⟩
  refine ⟨H0, A, Z, T, S, own, ρ, P, h.bnd.mono ?_⟩
  rintro p H1 - ⟨ρ1, P1, k1, h1⟩ v r1
  obtain ⟨z, e, k⟩ := ofO_ok P1 h1
  cases p <;> try (cases e; done)
  rename_i c' pfs
  unfold pFld at e
  dsimp only at e
  split at e
  · rename_i hc
    subst hc
    obtain ⟨a, dx, vfs, rfl, na, ha, ra⟩ := r1
    obtain ⟨w, e1, e2⟩ := ra.look e
    exact ⟨a, _, dx, vfs, w, rfl, ha, C.cl, C.no f hf, e1, k H1 (.refl _) w e2⟩
  · cases e)
end
end Ev
namespace Ev
open PySem PySem.Spec PyProof.Rows L2
inductive Tg1 where
  | nm (i : Nat)
  | tp (ts : List Tg1)
mutual
def Tg1.vars : Tg1 → List Nat
  | .nm i => [i]
  | .tp ts => Tg1.varss ts
def Tg1.varss : List Tg1 → List Nat
  | [] => []
  | t :: ts => t.vars ++ Tg1.varss ts
end
def setE (i : Nat) (e : EV) (ρ : Env) : Option Env := match ρ[i]? with
  | some (.io _) => none
  | some _ => some (ρ.set i e)
  | none => none
mutual
def asg : Tg1 → PV → Env → Option Env
  | .nm i, p, ρ => setE i (.fr p) ρ
  | .tp ts, .tup ps, ρ => asgs ts ps ρ
  | _, _, _ => none
def asgs : List Tg1 → List PV → Env → Option Env
  | [], [], ρ => some ρ
  | t :: ts, p :: ps, ρ => (asg t p ρ).bind fun ρ1 => asgs ts ps ρ1
  | _, _, _ => none
end
def Off (vs : List Nat) (σ σ' : L2.St) : Prop := σ'.length = σ.length ∧ ∀ i, i ∉ vs → σ'[i]? = σ[i]?
theorem Off.refl {vs : List Nat} {σ : L2.St} : Off vs σ σ := ⟨rfl, fun _ _ => rfl⟩
def pG (K : PySem.W.Frag) (t : Tg1) : TG := fun v σ H Q => ∃ H0 A Z T S own ρ p ρ', PSt K H0 A Z T S own σ H ρ ∧ Rep K S H p v ∧ asg t p ρ = some ρ' ∧ ∀ σ', PSt K H0 A Z T S own σ' H ρ' → Off t.vars σ σ' → Q σ' H
def pGs (K : PySem.W.Frag) (ts : List Tg1) : TGs := fun vs σ H Q => ∃ H0 A Z T S own ρ ps ρ', PSt K H0 A Z T S own σ H ρ ∧ Reps K S H ps vs ∧ asgs ts ps ρ = some ρ' ∧ ∀ σ', PSt K H0 A Z T S own σ' H ρ' → Off (Tg1.varss ts) σ σ' → Q σ' H
section
variable {K : PySem.W.Frag} {H0 : Hp} {A : Nat → Option Addr} {Z T S : Addr → Prop} {own : Nat → Addr} {σ : L2.St} {H H' : Hp} {ρ ρ' : Env}
/-- a slot is given a frozen value -/
theorem PSt.set {i : Nat} {p : PV} {v : V} (P : PSt K H0 A Z T S own σ H ρ) (r : Rep K S H p v) (e : setE i (.fr p) ρ = some ρ') : PSt K H0 A Z T S own (σ.set i (some v)) H ρ' := by
  unfold setE at e
  have key : ∃ f, ρ[i]? = some f ∧ (∀ q, f ≠ .io q) ∧ ρ' = ρ.set i (.fr p) := by
    cases e1 : ρ[i]? with
    | none => rw [e1] at e; cases e
    | some f => rw [e1] at e; cases f <;> first | (cases e; done) | (cases e; exact ⟨_, rfl, (fun q z => nomatch z), rfl⟩)
  obtain ⟨f, e1, nf, rfl⟩ := key
  have hil : i < ρ.length := (List.getElem?_eq_some_iff.mp e1).1
  have get : ∀ j, (ρ.set i (.fr p))[j]? = if i = j then some (.fr p) else ρ[j]? := fun j => by
    rw [List.getElem?_set]
    by_cases h : i = j
    · subst h; rw [if_pos rfl, if_pos rfl, if_pos hil]
    · rw [if_neg h, if_neg h]
  refine ⟨P.kp, P.ia, P.i0, P.z0, P.al, P.ts, P.zs, by rw [List.length_set, List.length_set]; exact P.ln, fun j e h => ?_, fun j q h => ?_, fun j k e g a h1 h2 => ?_⟩
  · rw [get] at h
    by_cases hj : i = j
    · subst hj
      rw [if_pos rfl] at h
      cases h
      exact ⟨v, by rw [List.getElem?_set, if_pos rfl, if_pos (P.ln ▸ hil)], r⟩
    · rw [if_neg hj] at h
      rw [List.getElem?_set, if_neg hj]
      exact P.sl j e h
  · rw [get] at h
    by_cases hj : i = j
    · rw [if_pos hj] at h; cases h
    · rw [if_neg hj] at h; exact P.fr j q h
  · rw [get] at h1 h2
    by_cases hj : i = j
    · rw [if_pos hj] at h1; cases h1; intro z; cases z
    · by_cases hk : i = k
      · rw [if_pos hk] at h2; cases h2; intro _ z; cases z
      · rw [if_neg hj] at h1
        rw [if_neg hk] at h2
        exact P.dj j k e g a h1 h2
theorem off_set {i : Nat} {v : Option V} : Off [i] σ (σ.set i v) := ⟨List.length_set .., fun j hj => by rw [List.getElem?_set, if_neg (fun z => hj (by rw [← z]; exact List.mem_singleton.mpr rfl))]⟩
end
section
variable {X : Cx} {e : Expr} {es : List Expr} {x : Str} {pos : Pos} {t : Tg1} {ts : List Tg1}
theorem ug_nm {i : Nat} (hN : X.N.Nodup) (hi : X.N[i]? = some x) (hx : Loc X.env.scope x) (hf : X.fn x = true ∨ X.env.scope.names.lookup x = some .local := by first | exact .inl rfl | exact .inr rfl | assumption) : PG X (.Name x pos) (pG X.K (.nm i)) :=
  (pg_name hN hi hx hf).imp (by
    rintro v σ H Q ⟨H0, A, Z, T, S, own, ρ, p, ρ', P, r, e, k⟩
    exact k _ (P.set r e) off_set)
theorem _root_.L2.PGs.imp {es : List Expr} {t t' : TGs} (h : PGs X es t) (i : ∀ v σ H Q, t' v σ H Q → t v σ H Q) : PGs X es t' := ⟨fun pins s σ H vs us Q I r q => h.run pins s σ H vs us Q I r (i _ _ _ _ q)⟩
theorem ugs_nil : PGs X [] (pGs X.K []) := pgs_nil.imp (by
  rintro v σ H Q ⟨H0, A, Z, T, S, own, ρ, p, ρ', P, r, e, k⟩
  cases p with
  | nil => cases e; cases r; exact ⟨rfl, k _ P .refl⟩
  | cons _ _ => cases e)
theorem ugs_cons (h1 : PG X e (pG X.K t)) (h2 : PGs X es (pGs X.K ts)) (hs : (assignEach (e :: es) X.env).map (·.2) = assign e X.env :: (assignEach es X.env).map (·.2) := by rfl) : PGs X (e :: es) (pGs X.K (t :: ts)) := (pgs_cons h1 h2 hs).imp (by
  rintro v σ H Q ⟨H0, A, Z, T, S, own, ρ, p, ρ', P, r, e, k⟩
  cases p with
  | nil => cases e
  | cons p ps =>
    obtain ⟨v, vs, rfl, r1, r2⟩ := r
    unfold asgs at e
    cases e1 : asg t p ρ with
    | none => rw [e1] at e; cases e
    | some ρ1 =>
      rw [e1] at e
      refine ⟨v, vs, rfl, H0, A, Z, T, S, own, ρ, p, ρ1, P, r1, e1, fun σ1 P1 o1 => ⟨H0, A, Z, T, S, own, ρ1, ps, ρ', P1, r2, e, fun σ2 P2 o2 => k σ2 P2 ⟨o2.1.trans o1.1, fun i hi => ?_⟩⟩⟩
      have hi' : i ∉ t.vars ++ Tg1.varss ts := hi
      rw [List.mem_append, not_or] at hi'
      exact (o2.2 i hi'.2).trans (o1.2 i hi'.1))
theorem asgs_len : ∀ {ts : List Tg1} {ps : List PV} {ρ ρ' : Env}, asgs ts ps ρ = some ρ' → ps.length = ts.length
  | [], [], _, _, _ => rfl
  | [], _ :: _, _, _, e => by cases e
  | _ :: _, [], _, _, e => by cases e
  | t :: ts, p :: ps, ρ, ρ', e => by
    unfold asgs at e
    cases e1 : asg t p ρ with
    | none => rw [e1] at e; cases e
    | some ρ1 => rw [e1] at e; exact congrArg Nat.succ (asgs_len e)
theorem ug_tp {k n : Nat} (hc : X.calm = true) (h : PGs X es (pGs X.K ts)) (hl : ts.length = n := by rfl) (hn : (assignEach es X.env).length = n := by rfl) (hst : (assignEach es X.env).findIdx? (·.1) = none := by rfl) : PG X (.Tuple es k pos) (pG X.K (.tp ts)) := (pg_tup hc h hn hst).imp (by
  rintro v σ H Q ⟨H0, A, Z, T, S, own, ρ, p, ρ', P, r, e, k⟩
  cases p <;> try (cases e; done)
  obtain ⟨a, vs, rfl, ha, ra⟩ := r
  exact ⟨a, vs, rfl, sqT_of ha, by rw [← ra.len, asgs_len e]; exact hl, H0, A, Z, T, S, own, ρ, _, ρ', P, ra, e, k⟩)
end
structure Wk (K : PySem.W.Frag) (S : Addr → Prop) (H : Hp) (J : It) (items : List PV) : Prop where
  go : ∀ (i : Nat) (H' : Hp), Keep S H H' → i < items.length → J.go i H'
  stop : ∀ (H' : Hp), Keep S H H' → J.stop items.length H'
  yld : ∀ (i : Nat) (S' : Addr → Prop) (H' : Hp) (x : V) (H3 : Hp), Keep S H H' → (∀ s, S' s → S s ∨ H s = none) → (∀ s, S' s → ∃ o, H' s = some o) → i < items.length → J.yld i H' x H3 → Same H' H3 ∧ ∃ p, items[i]? = some p ∧ Rep K S' H3 p x
def pI (K : PySem.W.Frag) (E : L2.St → XK) (f : FA) : TI := fun σ H R => ∃ H0 A Z T S own ρ, PSt K H0 A Z T S own σ H ρ ∧ okR K H0 A Z T S own σ E H (f ρ) fun items H1 => items.length ≤ sizeLine → ∀ J, Wk K S H1 J items → R J H1
section
variable {K : PySem.W.Frag} {S : Addr → Prop} {H : Hp}
theorem Wk.of {J : It} {n : Nat} {G : Hp → Prop} {Y : Nat → Hp → V → Hp → Prop} {items : List PV} (w : Walk J n G Y) (hn : items.length = n) (hG : ∀ H', Keep S H H' → G H')
    (hY : ∀ (i : Nat) (S' : Addr → Prop) (H' : Hp) (x : V) (H3 : Hp), Keep S H H' → (∀ s, S' s → S s ∨ H s = none) → (∀ s, S' s → ∃ o, H' s = some o) → i < n → Y i H' x H3 → Same H' H3 ∧ ∃ p, items[i]? = some p ∧ Rep K S' H3 p x) : Wk K S H J items :=
  ⟨fun i H' k hi => w.goes i H' (hn ▸ hi) (hG H' k), fun H' k => hn ▸ w.stops H' (hG H' k), fun i S' H' x H3 k hs al hi y => hY i S' H' x H3 k hs al (hn ▸ hi) (w.yields i H' x H3 (hn ▸ hi) (hG H' k) y)⟩
theorem sqL_keep {a : Addr} {vs : List V} {H' : Hp} (h : (¬ S a ∧ Rd H a (.lst vs)) ∨ KwL K a vs) (k : Keep S H H') : SqL K H' a vs := h.elim (fun h => .inl (Rd.fut k h.1 h.2)) .inr
theorem sqT_keep {a : Addr} {vs : List V} {H' : Hp} (h : (¬ S a ∧ Rd H a (.tup vs)) ∨ KwT K a vs) (k : Keep S H H') : SqT K H' a vs := h.elim (fun h => .inl (Rd.fut k h.1 h.2)) .inr
theorem reps_at {ps : List PV} {vs : List V} {i : Nat} {x : V} {S' : Addr → Prop} {H' : Hp} (r : Reps K S H ps vs) (k : Keep S H H') (hs : ∀ s, S' s → S s ∨ H s = none) (hx : vs[i]? = some x) : ∃ p, ps[i]? = some p ∧ Rep K S' H' p x := by
  obtain ⟨p, e, h⟩ := r.getV hx
  exact ⟨p, e, h.fut k hs⟩
theorem wk_list {a : Addr} {ps : List PV} {vs : List V} (h : (¬ S a ∧ Rd H a (.lst vs)) ∨ KwL K a vs) (r : Reps K S H ps vs) : Wk K S H (Itl K a) ps := Wk.of (walk_list (xs := vs)) r.len (fun H' k => sqL_keep h k) (by
  rintro i S' H' x H3 k hs al hi ⟨rfl, hx⟩
  exact ⟨.refl _, reps_at r k hs hx⟩)
theorem wk_tup {a : Addr} {ps : List PV} {vs : List V} (h : (¬ S a ∧ Rd H a (.tup vs)) ∨ KwT K a vs) (r : Reps K S H ps vs) : Wk K S H (Itt K a) ps := Wk.of (walk_tup (xs := vs)) r.len (fun H' k => sqT_keep h k) (by
  rintro i S' H' x H3 k hs al hi ⟨rfl, hx⟩
  exact ⟨.refl _, reps_at r k hs hx⟩)
def numF (n : Nat) : List PV → List PV
  | [] => []
  | p :: ps => .tup [.int (n : Nat), p] :: numF (n + 1) ps
theorem numF_len (n : Nat) : ∀ ps : List PV, (numF n ps).length = ps.length := fun ps => by
  induction ps generalizing n with
  | nil => rfl
  | cons p ps ih => exact congrArg Nat.succ (ih (n + 1))
theorem numF_get (n i : Nat) : ∀ ps : List PV, (numF n ps)[i]? = ps[i]?.map fun p => .tup [.int ((n + i : Nat) : Int), p] := fun ps => by
  induction ps generalizing n i with
  | nil => rfl
  | cons p ps ih =>
    cases i with
    | zero => rfl
    | succ i =>
      show (numF (n + 1) ps)[i]? = _
      rw [ih, List.getElem?_cons_succ, show n + 1 + i = n + (i + 1) by omega]
theorem wk_pairs {J : It} {n : Nat} {G : Hp → Prop} {xs ys : Nat → Option V} {items : List PV} (w : Walk J n G (YPair xs ys)) (hn : items.length = n) (hG : ∀ H', Keep S H H' → G H')
    (hY : ∀ (i : Nat) (S' : Addr → Prop) (H' : Hp) (x y : V), Keep S H H' → (∀ s, S' s → S s ∨ H s = none) → xs i = some x → ys i = some y → i < n → ∃ p q, items[i]? = some (.tup [p, q]) ∧ Rep K S' H' p x ∧ Rep K S' H' q y) : Wk K S H J items := Wk.of w hn hG (by
  rintro i S' H' v H3 k hs al hi ⟨T, x, y, rfl, hT, rfl, hx, hy⟩
  obtain ⟨p, q, e, r1, r2⟩ := hY i S' H' x y k hs hx hy hi
  exact ⟨same_new hT, _, e, rep_new_tup al hT ⟨x, [y], rfl, r1, y, [], rfl, r2, rfl⟩⟩)
theorem wk_enumL {a : Addr} {ps : List PV} {vs : List V} (h : (¬ S a ∧ Rd H a (.lst vs)) ∨ KwL K a vs) (r : Reps K S H ps vs) : Wk K S H (Ite K a) (numF 0 ps) := wk_pairs (walk_enum (xs := vs)) ((numF_len 0 ps).trans r.len) (fun H' k => sqL_keep h k) (by
  rintro i S' H' x y k hs hx hy hi
  cases hx
  obtain ⟨p, e, h⟩ := reps_at r k hs hy
  exact ⟨.int (i : Nat), p, by rw [numF_get, e, Nat.zero_add]; rfl, rfl, h⟩)
theorem wk_enumT {a : Addr} {ps : List PV} {vs : List V} (h : (¬ S a ∧ Rd H a (.tup vs)) ∨ KwT K a vs) (r : Reps K S H ps vs) : Wk K S H (IteT K a) (numF 0 ps) := wk_pairs (walk_enumT (xs := vs)) ((numF_len 0 ps).trans r.len) (fun H' k => sqT_keep h k) (by
  rintro i S' H' x y k hs hx hy hi
  cases hx
  obtain ⟨p, e, h⟩ := reps_at r k hs hy
  exact ⟨.int (i : Nat), p, by rw [numF_get, e, Nat.zero_add]; rfl, rfl, h⟩)
def zipP (ps qs : List PV) : List PV := List.zipWith (fun p q => PV.tup [p, q]) ps qs
theorem zip_at {ps qs : List PV} {vs ws : List V} {i : Nat} {x y : V} {S' : Addr → Prop} {H' : Hp} (r : Reps K S H ps vs) (r' : Reps K S H qs ws) (k : Keep S H H') (hs : ∀ s, S' s → S s ∨ H s = none) (hx : vs[i]? = some x) (hy : ws[i]? = some y) :
    ∃ p q, (zipP ps qs)[i]? = some (.tup [p, q]) ∧ Rep K S' H' p x ∧ Rep K S' H' q y := by
  obtain ⟨p, e1, h1⟩ := reps_at r k hs hx
  obtain ⟨q, e2, h2⟩ := reps_at r' k hs hy
  exact ⟨p, q, by unfold zipP; rw [List.getElem?_zipWith, e1, e2], h1, h2⟩
theorem zip_len {ps qs : List PV} {vs ws : List V} (r : Reps K S H ps vs) (r' : Reps K S H qs ws) : (zipP ps qs).length = min vs.length ws.length := by
  unfold zipP
  rw [List.length_zipWith, r.len, r'.len]
end
/-- all lists and tuples are within the line -/
def Small (K : PySem.W.Frag) (H : Hp) : Prop := ∀ a xs, SqL K H a xs ∨ SqT K H a xs → xs.length ≤ sizeLine
theorem Inv.small {X : Cx} {pins : List (Addr × Obj)} {σ : L2.St} {H : Hp} {s : Shared} (I : Inv X pins σ H s) : Small X.K H := fun a xs h => by
  rcases h with h | h
  · obtain ⟨_, _, _, hz⟩ := I.list h; exact hz
  · obtain ⟨_, rv, _, hz⟩ := I.tuple h
    first | exact hz | (have := rv.length; omega)
section
variable {X : Cx} {tg it e : Expr} {E : L2.St → XK} {fa : FE}
theorem _root_.L2.PE.small {t : TE} (h : PE X e t) : PE X e (fun σ H Q => t σ H fun v H1 => Small X.K H1 → Q v H1) := ⟨fun pins s σ H Q I q => thn (h.run pins s σ H _ I q) fun u s' ⟨v, H', I', r, k⟩ => ⟨v, H', I', r, k (Inv.small I')⟩⟩
theorem _root_.L2.PA.small {es : List Expr} {t : TA} (h : PA X es t) : PA X es (fun σ H Q => t σ H fun v H1 => Small X.K H1 → Q v H1) := ⟨fun pos pins s σ H Q I q => thn (h.run pos pins s σ H _ I q) fun u s' ⟨v, H', I', r, k⟩ => ⟨v, H', I', r, k (Inv.small I')⟩⟩
def seqP : PV → Option (List PV)
  | .lst xs => some xs
  | .scr xs => some xs
  | .tup xs => some xs
  | _ => none
def fSeq (fa : FE) : FA := fun ρ => (fa ρ).bind fun z => ofO (seqP z.1) z.2
def iSeq0 (K : PySem.W.Frag) (tl : TE) : TI := fun σ H R => tl σ H fun x H1 => ∃ a xs, x = .ref a ∧ ((SqL K H1 a xs ∧ R (Itl K a) H1) ∨ (SqT K H1 a xs ∧ R (Itt K a) H1))
theorem pi_seq0 {tg l : Expr} {tl : TE} (hl : PE X l tl) : PI X tg l (iSeq0 X.K tl) := by
  refine ⟨fun pins s σ H R I h => ?_⟩
  refine thn (hl.run pins s σ H _ I h) fun v s1 ⟨x, H1, I1, r1, q1⟩ => ?_
  obtain ⟨a, xs, e, q1⟩ := q1
  subst e
  cases r1
  rcases q1 with ⟨hq, q⟩ | ⟨hq, q⟩
  · obtain ⟨its, rv, p, hz⟩ := I1.list hq
    refine wpAny_pyIter_list p.isList ?_
    refine ⟨s1.heap.objs.size, [s1.heap.objs.size], _, _, H1, rfl, I1.kept (t' := s1.toks) fun b o e => Heap.get?_push_of_some _ e, turn_list a _, ⟨_, Heap.get?_push_size _ rfl, rfl, rfl⟩, fun b hb => ?_, q⟩
    have e : b = s1.heap.objs.size := by simpa using hb
    subst e
    exact I1.fpOk (Nat.le_refl _) (I1.hok.fresh (Nat.le_refl _))
  · obtain ⟨its, rv, p, hz⟩ := I1.tuple hq
    refine wpAny_pyIter_tuple (show s1.heap.IsTuple a its.toArray from p) ?_
    refine ⟨s1.heap.objs.size, [s1.heap.objs.size], _, _, H1, rfl, I1.kept (t' := s1.toks) fun b o e => Heap.get?_push_of_some _ e, turn_tuple a _, ⟨_, Heap.get?_push_size _ rfl, rfl, rfl⟩, fun b hb => ?_, q⟩
    have e : b = s1.heap.objs.size := by simpa using hb
    subst e
    exact I1.fpOk (Nat.le_refl _) (I1.hok.fresh (Nat.le_refl _))
theorem ui_seq (ha : PE X it (pE X.K E fa)) : PI X tg it (pI X.K E (fSeq fa)) := (pi_seq0 ha.small).imp (by
  rintro σ H R ⟨H0, A, Z, T, S, own, ρ, P, h⟩
  refine ⟨H0, A, Z, T, S, own, ρ, P, h.bnd.mono ?_⟩
  rintro p H1 - ⟨ρ1, P1, k1, h1⟩ v r1 sm
  obtain ⟨items, e, k⟩ := ofO_ok P1 h1
  have k := k H1 (.refl _)
  cases p <;> try (cases e; done)
  · obtain ⟨a, vs, rfl, ha, ra⟩ := r1
    cases e
    exact ⟨a, vs, rfl, .inr ⟨sqT_of ha, k (by rw [ra.len]; exact sm a vs (.inr (sqT_of ha))) _ (wk_tup ha ra)⟩⟩
  · obtain ⟨a, vs, rfl, na, ha, ra⟩ := r1
    cases e
    exact ⟨a, vs, rfl, .inl ⟨SqL.of ha, k (by rw [ra.len]; exact sm a vs (.inl (SqL.of ha))) _ (wk_list (.inl ⟨na, .inl ha⟩) ra)⟩⟩
  · obtain ⟨a, vs, rfl, ha, ra⟩ := r1
    cases e
    exact ⟨a, vs, rfl, .inl ⟨sqL_of ha, k (by rw [ra.len]; exact sm a vs (.inl (sqL_of ha))) _ (wk_list ha ra)⟩⟩)
def rngP (lo hi : Int) : List PV := (List.range (hi - lo).toNat).map fun i => .int (lo + (i : Nat))
def rng1P : PV → Option (List PV)
  | .int j => if decide (-1000000 ≤ j) && decide (j ≤ 1000000) then some (rngP 0 j) else none
  | _ => none
def rng2P : PV → PV → Option (List PV)
  | .int i, .int j => if decide (-1000000 ≤ i) && decide (i ≤ 1000000) && decide (-1000000 ≤ j) && decide (j ≤ 1000000) then some (rngP i j) else none
  | _, _ => none
def fRng1 (fa : FE) : FA := fun ρ => (fa ρ).bind fun z => ofO (rng1P z.1) z.2
def fRng2 (fa fb : FE) : FA := fun ρ => (fa ρ).bind fun z => (fb z.2).bind fun w => ofO (rng2P z.1 w.1) w.2
theorem wk_range {K : PySem.W.Frag} {S : Addr → Prop} {H : Hp} {lo hi : Int} : Wk K S H (Itr lo (hi - lo).toNat) (rngP lo hi) := Wk.of walk_range (by unfold rngP; rw [List.length_map, List.length_range]) (fun _ _ => trivial) (by
  rintro i S' H' x H3 k hs al hi ⟨rfl, rfl⟩
  exact ⟨.refl _, .int (lo + (i : Nat)), by unfold rngP; rw [List.getElem?_map, List.getElem?_range hi]; rfl, rfl⟩)
theorem rng_small {lo hi : Int} (h1 : -1000000 ≤ lo) (h2 : hi ≤ 1000000) : (rngP lo hi).length ≤ sizeLine := by
  unfold rngP
  rw [List.length_map, List.length_range]
  exact Nat.le_trans (by omega : (hi - lo).toNat ≤ 2000000) (by decide)
theorem ui_rng1 {a : Expr} {p pos : Pos} (hg : Gl X "range") (hm : X.mg "range" = none) (ha : PE X a (pE X.K E fa)) (hs : starEach [a] X.env = [(false, eval a X.env)] := by rfl) : PI X tg (.Call (.Name "range" p) [a] [] pos) (pI X.K E (fRng1 fa)) := (pi_range1 hg hm (pa_cons ha pa_nil hs) hs).imp (by
  rintro σ H R ⟨H0, A, Z, T, S, own, ρ, P, h⟩
  refine ⟨H0, A, Z, T, S, own, ρ, P, h.bnd.mono ?_⟩
  rintro p H1 - ⟨ρ1, P1, k1, h1⟩ v r1
  obtain ⟨items, e, k⟩ := ofO_ok P1 h1
  have k := k H1 (.refl _)
  cases p <;> try (cases e; done)
  cases r1
  rename_i j
  unfold rng1P at e
  dsimp only at e
  split at e
  · rename_i hc
    cases e
    rw [Bool.and_eq_true, decide_eq_true_eq, decide_eq_true_eq] at hc
    have := k (rng_small (by omega) (by omega)) _ wk_range
    rw [Int.sub_zero] at this
    exact ⟨j, rfl, by omega, by omega, this⟩
  · cases e)
theorem ui_rng2 {a b : Expr} {fb : FE} {p pos : Pos} (hg : Gl X "range") (hm : X.mg "range" = none) (ha : PE X a (pE X.K E fa)) (hb : PE X b (pE X.K E fb)) (hs : starEach [a, b] X.env = [(false, eval a X.env), (false, eval b X.env)] := by rfl) (hs2 : starEach [b] X.env = [(false, eval b X.env)] := by rfl) :
    PI X tg (.Call (.Name "range" p) [a, b] [] pos) (pI X.K E (fRng2 fa fb)) := (pi_range2 hg hm (pa_cons ha (pa_cons hb pa_nil hs2) (by rw [hs, hs2])) hs hs2).imp (by
  rintro σ H R ⟨H0, A, Z, T, S, own, ρ, P, h⟩
  refine ⟨H0, A, Z, T, S, own, ρ, P, h.bnd.mono ?_⟩
  rintro p H1 - ⟨ρ1, P1, k1, h1⟩ v r1
  refine ⟨H0, A, Z, T, S, own, ρ1, P1, h1.bnd.mono ?_⟩
  rintro q H2 - ⟨ρ2, P2, k2, h2⟩ w r2
  obtain ⟨items, e, k⟩ := ofO_ok P2 h2
  have k := k H2 (.refl _)
  cases p <;> try (cases q <;> cases e; done)
  cases q <;> try (cases e; done)
  cases r1
  cases r2
  rename_i i j
  unfold rng2P at e
  dsimp only at e
  split at e
  · rename_i hc
    cases e
    rw [Bool.and_eq_true, Bool.and_eq_true, Bool.and_eq_true, decide_eq_true_eq, decide_eq_true_eq, decide_eq_true_eq, decide_eq_true_eq] at hc
    exact ⟨i, j, rfl, ⟨by omega, by omega, by omega, by omega⟩, k (rng_small (by omega) (by omega)) _ wk_range⟩
  · cases e)
def fEnum (fa : FE) : FA := fun ρ => (fa ρ).bind fun z => ofO ((seqP z.1).map (numF 0)) z.2
theorem ui_enum {a : Expr} {p pos tpos : Pos} {elts : List Expr} {kk : Nat} (hg : Gl X "enumerate") (hm : X.mg "enumerate" = none) (ha : PE X a (pE X.K E fa)) (hs : starEach [a] X.env = [(false, eval a X.env)] := by rfl) :
    PI X (.Tuple elts kk tpos) (.Call (.Name "enumerate" p) [a] [] pos) (pI X.K E (fEnum fa)) := (pi_enumA hg hm (pa_cons ha.small pa_nil hs) hs).imp (by
  rintro σ H R ⟨H0, A, Z, T, S, own, ρ, P, h⟩
  refine ⟨H0, A, Z, T, S, own, ρ, P, h.bnd.mono ?_⟩
  rintro p H1 - ⟨ρ1, P1, k1, h1⟩ v r1 sm
  obtain ⟨items, e1, k⟩ := ofO_ok P1 h1
  have k := k H1 (.refl _)
  cases p <;> try (cases e1; done)
  · obtain ⟨a, vs, rfl, ha, ra⟩ := r1
    cases e1
    exact ⟨a, vs, rfl, .inr ⟨sqT_of ha, k (by rw [numF_len, ra.len]; exact sm a vs (.inr (sqT_of ha))) _ (wk_enumT ha ra)⟩⟩
  · obtain ⟨a, vs, rfl, na, ha, ra⟩ := r1
    cases e1
    exact ⟨a, vs, rfl, .inl ⟨SqL.of ha, k (by rw [numF_len, ra.len]; exact sm a vs (.inl (SqL.of ha))) _ (wk_enumL (.inl ⟨na, .inl ha⟩) ra)⟩⟩
  · obtain ⟨a, vs, rfl, ha, ra⟩ := r1
    cases e1
    exact ⟨a, vs, rfl, .inl ⟨sqL_of ha, k (by rw [numF_len, ra.len]; exact sm a vs (.inl (sqL_of ha))) _ (wk_enumL ha ra)⟩⟩)
def zip2 (p q : PV) : Option (List PV) := match p, q with
  | .tup xs, .tup ys => some (zipP xs ys)
  | .lst xs, .lst ys => some (zipP xs ys)
  | .lst xs, .scr ys => some (zipP xs ys)
  | .scr xs, .lst ys => some (zipP xs ys)
  | .scr xs, .scr ys => some (zipP xs ys)
  | _, _ => none
def fZip (fa fb : FE) : FA := fun ρ => (fa ρ).bind fun z => (fb z.2).bind fun w => ofO (zip2 z.1 w.1) w.2
theorem wk_zipL {K : PySem.W.Frag} {S : Addr → Prop} {H : Hp} {a b : Addr} {ps qs : List PV} {vs ws : List V} (h : (¬ S a ∧ Rd H a (.lst vs)) ∨ KwL K a vs) (h' : (¬ S b ∧ Rd H b (.lst ws)) ∨ KwL K b ws) (r : Reps K S H ps vs) (r' : Reps K S H qs ws) : Wk K S H (Itz K a b) (zipP ps qs) :=
  wk_pairs (walk_zip (xs := vs) (ys := ws) rfl) (zip_len r r') (fun H' k => ⟨sqL_keep h k, sqL_keep h' k⟩) (fun i S' H' x y k hs hx hy _ => zip_at r r' k hs hx hy)
theorem wk_zipT {K : PySem.W.Frag} {S : Addr → Prop} {H : Hp} {a b : Addr} {ps qs : List PV} {vs ws : List V} (h : (¬ S a ∧ Rd H a (.tup vs)) ∨ KwT K a vs) (h' : (¬ S b ∧ Rd H b (.tup ws)) ∨ KwT K b ws) (r : Reps K S H ps vs) (r' : Reps K S H qs ws) : Wk K S H (RZ.ItzT K a b) (zipP ps qs) :=
  wk_pairs (walk_zipT (xs := vs) (ys := ws) rfl) (zip_len r r') (fun H' k => ⟨sqT_keep h k, sqT_keep h' k⟩) (fun i S' H' x y k hs hx hy _ => zip_at r r' k hs hx hy)
theorem lst_or {K : PySem.W.Frag} {S : Addr → Prop} {H : Hp} {a : Addr} {vs : List V} (n : ¬ S a) (h : H a = some (.lst vs)) : (¬ S a ∧ Rd H a (.lst vs)) ∨ KwL K a vs := .inl ⟨n, .inl h⟩
theorem ui_zip {a b : Expr} {fb : FE} {p pos tpos : Pos} {elts : List Expr} {kk : Nat} (hg : Gl X "zip") (hm : X.mg "zip" = none) (ha : PE X a (pE X.K E fa)) (hb : PE X b (pE X.K E fb))
    (hs : starEach [a, b] X.env = (false, eval a X.env) :: starEach [b] X.env := by rfl) (hs2 : starEach [b] X.env = (false, eval b X.env) :: starEach [] X.env := by rfl) (hpl : (backTo pos (starEach [b] X.env)).any (·.1) = false := by rfl) :
    PI X (.Tuple elts kk tpos) (.Call (.Name "zip" p) [a, b] [] pos) (pI X.K E (fZip fa fb)) := (RZ.pi_zipA hg hm (pa_cons ha (pa_cons hb.small pa_nil hs2) hs) hs hpl).imp (by
  rintro σ H R ⟨H0, A, Z, T, S, own, ρ, P, h⟩
  refine ⟨H0, A, Z, T, S, own, ρ, P, h.bnd.mono ?_⟩
  rintro p H1 - ⟨ρ1, P1, k1, h1⟩ v r1
  refine ⟨H0, A, Z, T, S, own, ρ1, P1, h1.bnd.mono ?_⟩
  rintro q H2 - ⟨ρ2, P2, k2, h2⟩ w r2 sm
  obtain ⟨items, e, k⟩ := ofO_ok P2 h2
  have k := k H2 (.refl _)
  have r1 := r1.keep k2
  cases p <;> try (cases q <;> cases e; done)
  all_goals cases q <;> try (cases e; done)
  · obtain ⟨a, vs, rfl, ha, ra⟩ := r1
    obtain ⟨b, ws, rfl, hb, rb⟩ := r2
    cases e
    exact ⟨a, b, vs, ws, rfl, .inr ⟨sqT_of ha, sqT_of hb, k (by rw [zip_len ra rb]; exact Nat.le_trans (Nat.min_le_left _ _) (sm a vs (.inr (sqT_of ha)))) _ (wk_zipT ha hb ra rb)⟩⟩
  · obtain ⟨a, vs, rfl, na, ha, ra⟩ := r1
    obtain ⟨b, ws, rfl, nb, hb, rb⟩ := r2
    cases e
    exact ⟨a, b, vs, ws, rfl, .inl ⟨SqL.of ha, SqL.of hb, k (by rw [zip_len ra rb]; exact Nat.le_trans (Nat.min_le_left _ _) (sm a vs (.inl (SqL.of ha)))) _ (wk_zipL (lst_or na ha) (lst_or nb hb) ra rb)⟩⟩
  · obtain ⟨a, vs, rfl, na, ha, ra⟩ := r1
    obtain ⟨b, ws, rfl, hb, rb⟩ := r2
    cases e
    exact ⟨a, b, vs, ws, rfl, .inl ⟨SqL.of ha, sqL_of hb, k (by rw [zip_len ra rb]; exact Nat.le_trans (Nat.min_le_left _ _) (sm a vs (.inl (SqL.of ha)))) _ (wk_zipL (lst_or na ha) hb ra rb)⟩⟩
  · obtain ⟨a, vs, rfl, ha, ra⟩ := r1
    obtain ⟨b, ws, rfl, nb, hb, rb⟩ := r2
    cases e
    exact ⟨a, b, vs, ws, rfl, .inl ⟨sqL_of ha, SqL.of hb, k (by rw [zip_len ra rb]; exact Nat.le_trans (Nat.min_le_left _ _) (sm a vs (.inl (sqL_of ha)))) _ (wk_zipL ha (lst_or nb hb) ra rb)⟩⟩
  · obtain ⟨a, vs, rfl, ha, ra⟩ := r1
    obtain ⟨b, ws, rfl, hb, rb⟩ := r2
    cases e
    exact ⟨a, b, vs, ws, rfl, .inl ⟨sqL_of ha, sqL_of hb, k (by rw [zip_len ra rb]; exact Nat.le_trans (Nat.min_le_left _ _) (sm a vs (.inl (sqL_of ha)))) _ (wk_zipL ha hb ra rb)⟩⟩)
end
end Ev
namespace Ev
open PySem PySem.Spec PyProof.Rows L2
def noErr {α : Type} : Res α → Res α
  | .ok a => .ok a
  | _ => .bad
@[simp] theorem noErr_ok {α : Type} (a : α) : noErr (Res.ok a) = .ok a := rfl
def plainAt (vs : List Nat) (ρ : Env) : Bool := vs.all fun v => match ρ[v]? with
  | some .no => true
  | some (.fr _) => true
  | _ => false
def wipeE : List Nat → Env → Env
  | [], ρ => ρ
  | v :: vs, ρ => (wipeE vs ρ).set v .no
def restE (ρ : Env) : List Nat → Env → Env
  | [], ρ' => ρ'
  | v :: vs, ρ' => (restE ρ vs ρ').set v (ρ[v]?.getD .no)
def wipeO (vs : List Nat) (ρ : Env) : Option Env := if plainAt vs ρ = true then some (wipeE vs ρ) else none
def lcL (vs : List Nat) (t : Tg1) (c : FT) (f : FE) : List PV → Env → List PV → Res (List PV × Env)
  | [], ρ, acc => .ok (acc, ρ)
  | x :: xs, ρ, acc => match asg t x ρ with
    | none => .bad
    | some ρ1 => (noErr (c ρ1)).bind fun k => if k.1 = true then (noErr (f k.2)).bind fun z => match wipeO vs z.2 with
        | some ρ2 => lcL vs t c f xs ρ2 (acc ++ [z.1])
        | none => .bad
      else match wipeO vs k.2 with
        | some ρ2 => lcL vs t c f xs ρ2 acc
        | none => .bad
def fLc (fi : FA) (vs : List Nat) (t : Tg1) (c : FT) (f : FE) : FE := fun ρ => (fi ρ).bind fun z => match wipeO vs z.2 with
  | some ρw => (lcL vs t c f z.1 ρw []).bind fun w => .ok (.lst w.1, restE z.2 vs w.2)
  | none => .bad
theorem wipeE_len (ρ : Env) : ∀ vs : List Nat, (wipeE vs ρ).length = ρ.length
  | [] => rfl
  | v :: vs => by unfold wipeE; rw [List.length_set, wipeE_len ρ vs]
theorem restE_len (ρ ρ' : Env) : ∀ vs : List Nat, (restE ρ vs ρ').length = ρ'.length
  | [] => rfl
  | v :: vs => by unfold restE; rw [List.length_set, restE_len ρ ρ' vs]
theorem wipeE_in {ρ : Env} {i : Nat} {e : EV} : ∀ {vs : List Nat}, i ∈ vs → (wipeE vs ρ)[i]? = some e → e = .no
  | [], h, _ => by cases h
  | v :: vs, h, h2 => by
    unfold wipeE at h2
    rw [List.getElem?_set] at h2
    by_cases hv : v = i
    · rw [if_pos hv] at h2
      split at h2
      · exact (Option.some.inj h2).symm
      · cases h2
    · rw [if_neg hv] at h2
      rcases List.mem_cons.mp h with e | h
      · exact absurd e.symm hv
      · exact wipeE_in h h2
theorem wipeE_out {ρ : Env} {i : Nat} : ∀ {vs : List Nat}, i ∉ vs → (wipeE vs ρ)[i]? = ρ[i]?
  | [], _ => rfl
  | v :: vs, h => by
    rw [List.mem_cons, not_or] at h
    unfold wipeE
    rw [List.getElem?_set, if_neg (fun z => h.1 z.symm), wipeE_out h.2]
theorem restE_in {ρ ρ' : Env} {i : Nat} {e : EV} : ∀ {vs : List Nat}, i ∈ vs → (restE ρ vs ρ')[i]? = some e → e = ρ[i]?.getD .no
  | [], h, _ => by cases h
  | v :: vs, h, h2 => by
    unfold restE at h2
    rw [List.getElem?_set] at h2
    by_cases hv : v = i
    · rw [if_pos hv] at h2
      split at h2
      · rw [← hv]; exact (Option.some.inj h2).symm
      · cases h2
    · rw [if_neg hv] at h2
      rcases List.mem_cons.mp h with e | h
      · exact absurd e.symm hv
      · exact restE_in h h2
theorem restE_out {ρ ρ' : Env} {i : Nat} : ∀ {vs : List Nat}, i ∉ vs → (restE ρ vs ρ')[i]? = ρ'[i]?
  | [], _ => rfl
  | v :: vs, h => by
    rw [List.mem_cons, not_or] at h
    unfold restE
    rw [List.getElem?_set, if_neg (fun z => h.1 z.symm), restE_out h.2]
theorem plainAt_at {vs : List Nat} {ρ : Env} (h : plainAt vs ρ = true) {i : Nat} (hi : i ∈ vs) : ρ[i]? = some .no ∨ ∃ p, ρ[i]? = some (.fr p) := by
  have := List.all_eq_true.mp h i hi
  cases e : ρ[i]? with
  | none => rw [e] at this; cases this
  | some f => rw [e] at this; cases f <;> first | exact .inl rfl | exact .inr ⟨_, rfl⟩ | cases this
section
variable {K : PySem.W.Frag} {H0 : Hp} {A : Nat → Option Addr} {Z T S : Addr → Prop} {own : Nat → Addr} {σ : L2.St} {H H' : Hp} {ρ ρ' : Env} {vs : List Nat}
theorem PSt.wipe (P : PSt K H0 A Z T S own σ H ρ) (h : plainAt vs ρ = true) : PSt K H0 A Z T S own (wipe σ vs) H (wipeE vs ρ) := by
  have out : ∀ i e, (wipeE vs ρ)[i]? = some e → e ≠ .no → i ∉ vs ∧ ρ[i]? = some e := fun i e h1 h2 => by
    by_cases hi : i ∈ vs
    · exact absurd (wipeE_in hi h1) h2
    · rw [wipeE_out hi] at h1; exact ⟨hi, h1⟩
  refine ⟨P.kp, P.ia, P.i0, P.z0, P.al, P.ts, P.zs, by rw [wipeE_len, wipe_length]; exact P.ln, fun i e he => ?_, fun i p hp => P.fr i p (out i _ hp (fun z => nomatch z)).2, fun i j e f a h1 h2 h3 h4 => ?_⟩
  · by_cases hi : i ∈ vs
    · rw [wipeE_in hi he]; trivial
    · rw [wipeE_out hi] at he
      rw [wipe_out hi]
      exact P.sl i e he
  · refine P.dj i j e f a (out i e h1 ?_).2 (out j f h2 ?_).2 h3 h4
    · intro z; rw [z] at h3; cases h3
    · intro z; rw [z] at h4; cases h4
/-- a list at D more is kept out of sight -/
def Sand (S : Addr → Prop) (D : Addr) : Addr → Prop := fun s => S s ∨ s = D
theorem PSt.sand {D : Addr} {o : HO} (P : PSt K H0 A Z T S own σ H ρ) (hD : H D = none) : PSt K H0 A Z T (Sand S D) own σ (upd H D o) ρ := by
  have hs : ∀ s, Sand S D s → S s ∨ H s = none := fun s h => h.imp id fun e => by rw [e]; exact hD
  have k : Keep S H (upd H D o) := .of (same_new hD)
  refine ⟨fun b u hb n => same_new hD _ _ (P.kp b u hb n), P.ia, P.i0, P.z0, fun s h => ?_, fun s h => .inl (P.ts s h), fun s h => .inl (P.zs s h), P.ln, fun i e he => ?_, P.fr, P.dj⟩
  · rcases h with h | rfl
    · obtain ⟨u, e⟩ := P.al s h; exact ⟨u, same_new hD _ _ e⟩
    · exact ⟨o, upd_same⟩
  · have := P.sl i e he
    cases e with
    | no => trivial
    | fr p => obtain ⟨v, e1, r⟩ := this; exact ⟨v, e1, r.fut k hs⟩
    | ow p => obtain ⟨e1, h1, t⟩ := this; exact ⟨e1, h1, t.keep k hs fun u e => same_new hD _ _ e⟩
    | io p => obtain ⟨c, z, e1, h1, t⟩ := this; exact ⟨c, z, e1, h1, t.keep k hs fun u e => same_new hD _ _ e⟩
/-- the list at D is changed -/
theorem PSt.putD {D : Addr} {o : HO} (P : PSt K H0 A Z T (Sand S D) own σ H ρ) (hH0 : H0 D = none) (hTD : ¬ T D) : PSt K H0 A Z T (Sand S D) own σ (upd H D o) ρ := by
  have k : Keep (Sand S D) H (upd H D o) := fun b u e n => by rw [upd_ne (fun z => n (.inr z))]; exact e
  refine ⟨fun b u hb n => ?_, P.ia, P.i0, P.z0, fun s h => ?_, P.ts, P.zs, P.ln, fun i e he => ?_, P.fr, P.dj⟩
  · have : b ≠ D := fun z => by rw [z, hH0] at hb; cases hb
    rw [upd_ne this]; exact P.kp b u hb n
  · by_cases e : s = D
    · rw [e]; exact ⟨o, upd_same⟩
    · rw [upd_ne e]; exact P.al s h
  · have := P.sl i e he
    cases e with
    | no => trivial
    | fr p => obtain ⟨v, e1, r⟩ := this; exact ⟨v, e1, r.keep k⟩
    | ow p => obtain ⟨e1, h1, t⟩ := this; exact ⟨e1, h1, t.keep k (fun _ z => .inl z) fun u e => by rw [upd_ne (fun z => hTD (by rw [← z]; exact h1))]; exact e⟩
    | io p => obtain ⟨c, z, e1, h1, t⟩ := this; exact ⟨c, z, e1, h1, t.keep k (fun _ z => .inl z) fun u e => by rw [upd_ne (fun z => hTD (by rw [← z]; exact h1))]; exact e⟩
/-- less is hidden -/
theorem PSt.less {S' : Addr → Prop} (P : PSt K H0 A Z T S own σ H ρ) (h : ∀ s, S' s → S s) (ht : ∀ s, T s → S' s) (hz : ∀ s, Z s → S' s) : PSt K H0 A Z T S' own σ H ρ := by
  have hs : ∀ s, S' s → S s ∨ H s = none := fun s z => .inl (h s z)
  refine ⟨P.kp, P.ia, P.i0, P.z0, fun s z => P.al s (h s z), ht, hz, P.ln, fun i e he => ?_, P.fr, P.dj⟩
  have := P.sl i e he
  cases e with
  | no => trivial
  | fr p => obtain ⟨v, e1, r⟩ := this; exact ⟨v, e1, r.fut .refl hs⟩
  | ow p => obtain ⟨e1, h1, t⟩ := this; exact ⟨e1, h1, t.keep .refl hs fun _ z => z⟩
  | io p => obtain ⟨c, z, e1, h1, t⟩ := this; exact ⟨c, z, e1, h1, t.keep .refl hs fun _ z => z⟩
theorem PSt.nT {p : Addr} (h : PSt K H0 A Z T S own σ H ρ) (hp : H p = none) : ¬ T p := fun z => h.new hp (h.ts p z)
theorem PSt.H0n' {p : Addr} (h : PSt K H0 A Z T S own σ H ρ) (hp : H p = none) : H0 p = none := by
  cases e : H0 p with
  | none => rfl
  | some o =>
    have := h.kp p o e fun i z => h.nT hp (h.ia i p z)
    rw [hp] at this
    cases this
/-- back out of a comprehension -/
theorem PSt.rest {D : Addr} {H1 : Hp} (P : PSt K H0 A Z T S own σ H1 ρ) (hD : H1 D = none) (P' : PSt K H0 A Z T (Sand S D) own (L2.wipe σ vs) H' ρ') (k : Keep S H1 H') (h : plainAt vs ρ = true) (hl : ρ'.length = ρ.length) : PSt K H0 A Z T (Sand S D) own σ H' (restE ρ vs ρ') := by
  have hs : ∀ s, Sand S D s → Sand S D s ∨ H' s = none := fun s z => .inl z
  have hs1 : ∀ s, Sand S D s → S s ∨ H1 s = none := fun s h => h.imp id fun e => by rw [e]; exact hD
  have ow : ∀ (i : Nat) (e : EV), (restE ρ vs ρ')[i]? = some e → (e = .no ∨ ∃ p, e = .fr p ∧ i ∈ vs ∧ ρ[i]? = some (.fr p)) ∨ (i ∉ vs ∧ ρ'[i]? = some e) := fun i e he => by
    by_cases hi : i ∈ vs
    · left
      have e1 := restE_in hi he
      rcases plainAt_at h hi with z | ⟨q, z⟩
      · rw [z] at e1; exact .inl e1
      · rw [z] at e1; exact .inr ⟨q, e1, hi, z⟩
    · rw [restE_out hi] at he; exact .inr ⟨hi, he⟩
  refine ⟨P'.kp, P'.ia, P'.i0, P'.z0, P'.al, P'.ts, P'.zs, by rw [restE_len, hl]; exact P.ln, fun i e he => ?_, fun i p hp => ?_, fun i j e f a h1 h2 h3 h4 => ?_⟩
  · rcases ow i e he with (rfl | ⟨p, rfl, hi, z⟩) | ⟨hi, he⟩
    · trivial
    · obtain ⟨v, e1, r⟩ := P.sl i _ z
      exact ⟨v, e1, r.fut k hs1⟩
    · have := P'.sl i e he
      rw [wipe_out hi] at this
      cases e with
      | no => trivial
      | fr p => obtain ⟨v, e1, r⟩ := this; exact ⟨v, e1, r.fut .refl hs⟩
      | ow p => obtain ⟨e1, h1, t⟩ := this; exact ⟨e1, h1, t.keep .refl hs fun _ z => z⟩
      | io p => obtain ⟨c, z, e1, h1, t⟩ := this; exact ⟨c, z, e1, h1, t.keep .refl hs fun _ z => z⟩
  · rcases ow i _ hp with (z | ⟨p, z, _⟩) | ⟨hi, he⟩
    · cases z
    · cases z
    · exact P'.fr i p he
  · have a1 : i ∉ vs ∧ ρ'[i]? = some e := by
      rcases ow i e h1 with (rfl | ⟨p, rfl, _⟩) | z
      · cases h3
      · cases h3
      · exact z
    have a2 : j ∉ vs ∧ ρ'[j]? = some f := by
      rcases ow j f h2 with (rfl | ⟨p, rfl, _⟩) | z
      · cases h4
      · cases h4
      · exact z
    exact P'.dj i j e f a a1.2 a2.2 h3 h4
theorem off_wipe {σ σ' : L2.St} (h : Off vs σ σ') : wipe σ' vs = wipe σ vs := by
  refine List.ext_getElem? fun i => ?_
  by_cases hi : i ∈ vs
  · have z : ∀ (τ : L2.St) (ws : List Nat), i ∈ ws → (wipe τ ws)[i]? = if i < τ.length then some none else none := fun τ ws => by
      induction ws with
      | nil => intro h; cases h
      | cons w ws ih =>
        intro h
        unfold wipe
        rw [List.getElem?_set]
        by_cases hw : w = i
        · rw [if_pos hw, wipe_length, hw]
        · rw [if_neg hw]
          exact ih ((List.mem_cons.mp h).resolve_left fun z => hw z.symm)
    rw [z σ' vs hi, z σ vs hi, h.1]
  · rw [wipe_out hi, wipe_out hi, h.2 i hi]
theorem off_mono {σ σ' : L2.St} {ws : List Nat} (h : Off ws σ σ') (s : ∀ i ∈ ws, i ∈ vs) : Off vs σ σ' := ⟨h.1, fun i hi => h.2 i fun z => hi (s i z)⟩
theorem wipe_wipe (σ : L2.St) (vs : List Nat) : wipe (wipe σ vs) vs = wipe σ vs := off_wipe ⟨wipe_length σ vs, fun i hi => wipe_out hi⟩
end
theorem lc_imp {K : PySem.W.Frag} {E : L2.St → XK} {fi : FA} {vs : List Nat} {t : Tg1} {c : FT} {f : FE} {σ : L2.St} {H : Hp} {Q : VK} (hv : ∀ i ∈ t.vars, i ∈ vs) (h : pE K E (fLc fi vs t c f) σ H Q) : tLc (pI K E fi) (pG K t) (pT K E0S c) (pE K E0S f) vs σ H Q := by
  obtain ⟨H0, A, Z, T, S, own, ρ, P, h⟩ := h
  refine ⟨H0, A, Z, T, S, own, ρ, P, h.bnd.mono ?_⟩
  rintro items H1 - ⟨ρ1, P1, k1, h1⟩ hlen J wk D hD
  dsimp only at h1
  cases ew : wipeO vs ρ1 with
  | none => rw [ew] at h1; exact h1.elim
  | some ρw =>
  rw [ew] at h1
  dsimp only at h1
  have hp : plainAt vs ρ1 = true ∧ ρw = wipeE vs ρ1 := by
    unfold wipeO at ew
    split at ew
    · rename_i z; cases ew; exact ⟨z, rfl⟩
    · cases ew
  obtain ⟨hp, rfl⟩ := hp
  have noE : ∀ (xs : List PV) (ρ : Env) (acc : List PV), (∃ w, lcL vs t c f xs ρ acc = .ok w) ∨ lcL vs t c f xs ρ acc = .bad := by
    intro xs
    induction xs with
    | nil => intro ρ acc; exact .inl ⟨_, rfl⟩
    | cons x xs ih =>
      intro ρ acc
      unfold lcL
      split
      · exact .inr rfl
      · rename_i ρa ea
        cases c ρa with
        | err e r => exact .inr rfl
        | bad => exact .inr rfl
        | ok k =>
          show (∃ w, (if k.1 = true then _ else _) = Res.ok w) ∨ (if k.1 = true then _ else _) = Res.bad
          split
          · cases f k.2 with
            | err e r => exact .inr rfl
            | bad => exact .inr rfl
            | ok z =>
              show (∃ w, (match wipeO vs z.2 with | some ρ2 => lcL vs t c f xs ρ2 (acc ++ [z.1]) | none => .bad) = Res.ok w) ∨ (match wipeO vs z.2 with | some ρ2 => lcL vs t c f xs ρ2 (acc ++ [z.1]) | none => .bad) = Res.bad
              cases wipeO vs z.2 with
              | none => exact .inr rfl
              | some r => exact ih _ _
          · cases wipeO vs k.2 with
            | none => exact .inr rfl
            | some r => exact ih _ _
  obtain ⟨w, ew2⟩ : ∃ w, lcL vs t c f items (wipeE vs ρ1) [] = .ok w := by
    rcases noE items (wipeE vs ρ1) [] with h | h
    · exact h
    · rw [h] at h1; exact h1.elim
  rw [ew2] at h1
  have h1 : okR K H0 A Z T S own σ E H1 (.ok (PV.lst w.1, restE ρ1 vs w.2)) fun p H' => ∀ v, Rep K S H' p v → Q v H' := h1
  have hH0 := P1.H0n' hD
  have hTD := P1.nT hD
  have hSD := P1.new hD
  have hs : ∀ s, Sand S D s → S s ∨ H1 s = none := fun s h => h.imp id fun e => by rw [e]; exact hD
  -- the invariant
  refine ⟨fun i m H => m = items.length - i ∧ i ≤ items.length ∧ ∃ ρi acc vacc, PSt K H0 A Z T (Sand S D) own (L2.wipe σ vs) H ρi ∧ Keep T H1 H ∧ H D = some (.lst vacc) ∧ Reps K (Sand S D) H acc vacc ∧ acc.length ≤ i ∧ ρi.length = ρ1.length ∧ lcL vs t c f (items.drop i) ρi acc = .ok w, ⟨_, rfl, Nat.zero_le _, wipeE vs ρ1, [], [], (P1.wipe hp).sand hD, .of (same_new hD), upd_same, rfl, Nat.le_refl _, wipeE_len _ _, by rw [List.drop_zero]; exact ew2⟩, ?_⟩
  rintro i m H2 ⟨rfl, hi, ρi, acc, vacc, P2, k2, hD2, r2, hl2, hρ2, e2⟩
  have kS2 : Keep S H1 H2 := k2.up P1.ts
  by_cases hlt : i < items.length
  · right
    refine ⟨wk.go i H2 kS2 hlt, fun H => i + 1 ≤ items.length ∧ ∃ ρi acc vacc, PSt K H0 A Z T (Sand S D) own (L2.wipe σ vs) H ρi ∧ Keep T H1 H ∧ H D = some (.lst vacc) ∧ Reps K (Sand S D) H acc vacc ∧ acc.length ≤ i + 1 ∧ ρi.length = ρ1.length ∧ lcL vs t c f (items.drop (i + 1)) ρi acc = .ok w, fun H' h' => ⟨_, by omega, rfl, h'⟩, fun v H3 hy => ?_⟩
    obtain ⟨s3, x, hx, rx⟩ := wk.yld i (Sand S D) H2 v H3 kS2 hs P2.al hlt hy
    have hxi : items.drop i = x :: items.drop (i + 1) := by
      obtain ⟨h1, h2⟩ := List.getElem?_eq_some_iff.mp hx
      rw [List.drop_eq_getElem_cons h1, h2]
    rw [hxi] at e2
    unfold lcL at e2
    have P3 := P2.same s3
    cases ea : asg t x ρi with
    | none => rw [ea] at e2; cases e2
    | some ρa =>
    rw [ea] at e2
    dsimp only at e2
    refine ⟨H0, A, Z, T, Sand S D, own, ρi, x, ρa, P3, rx, ea, fun σ' P' off => ?_⟩
    have ewp : L2.wipe σ' vs = L2.wipe σ vs := (off_wipe (off_mono off hv)).trans (wipe_wipe σ vs)
    refine ⟨ewp, H0, A, Z, T, Sand S D, own, ρa, P', ?_⟩
    cases ec : c ρa with
    | err e r => rw [ec] at e2; cases e2
    | bad => rw [ec] at e2; cases e2
    | ok kk =>
    obtain ⟨b, ρb⟩ := kk
    rw [ec] at e2
    intro H4 P4 k4
    have e2 : (if b = true then (noErr (f ρb)).bind fun z => match wipeO vs z.2 with | some ρ2 => lcL vs t c f (items.drop (i + 1)) ρ2 (acc ++ [z.1]) | none => .bad else match wipeO vs ρb with | some ρ2 => lcL vs t c f (items.drop (i + 1)) ρ2 acc | none => .bad) = Res.ok w := e2
    have hD4 : H4 D = some (.lst vacc) := k4 _ _ (s3 _ _ hD2) hTD
    have k14 : Keep T H1 H4 := (k2.trans (.of s3)).trans k4
    have r4 : Reps K (Sand S D) H4 acc vacc := (r2.keep (.of s3)).keep (k4.up P3.ts)
    have lenW : ∀ (ρ' : Env) (H' : Hp), PSt K H0 A Z T (Sand S D) own σ' H' ρ' → ρ'.length = ρ1.length := fun ρ' H' P' => by
      rw [P'.ln, P1.ln, off.1, wipe_length]
    cases b with
    | false =>
      refine iteF ?_
      rw [if_neg Bool.false_ne_true] at e2
      cases eo : wipeO vs ρb with
      | none => rw [eo] at e2; cases e2
      | some ρ5 =>
        rw [eo] at e2
        unfold wipeO at eo
        split at eo
        · rename_i hpl
          cases eo
          have := P4.wipe hpl
          rw [ewp] at this
          exact ⟨hlt, _, acc, vacc, this, k14, hD4, r4, by omega, by rw [wipeE_len]; exact lenW _ _ P4, e2⟩
        · cases eo
    | true =>
      refine iteT ?_
      rw [if_pos rfl] at e2
      cases ef : f ρb with
      | err e r => rw [ef] at e2; cases e2
      | bad => rw [ef] at e2; cases e2
      | ok zz =>
      obtain ⟨z, ρc⟩ := zz
      rw [ef] at e2
      have e2 : (match wipeO vs ρc with | some ρ2 => lcL vs t c f (items.drop (i + 1)) ρ2 (acc ++ [z]) | none => .bad) = Res.ok w := e2
      refine ⟨H0, A, Z, T, Sand S D, own, ρb, P4, ?_⟩
      rw [ef]
      intro H5 P5 k5 y ry
      have hD5 : H5 D = some (.lst vacc) := k5 _ _ hD4 hTD
      have r5 := r4.keep (k5.up P3.ts)
      cases eo : wipeO vs ρc with
      | none => rw [eo] at e2; cases e2
      | some ρ6 =>
        rw [eo] at e2
        unfold wipeO at eo
        split at eo
        · rename_i hpl
          cases eo
          have P6 := (P5.wipe hpl).putD (o := .lst (vacc ++ [y])) hH0 hTD
          rw [ewp] at P6
          have kD : Keep (Sand S D) H5 (upd H5 D (.lst (vacc ++ [y]))) := fun b u e n => by rw [upd_ne (fun z => n (.inr z))]; exact e
          refine ⟨vacc, hD5, ?_, hlt, _, acc ++ [z], vacc ++ [y], P6, fun b o hb n => ?_, upd_same, (r5.app (show Reps K (Sand S D) H5 [z] [y] from ⟨y, [], rfl, ry, rfl⟩)).keep kD, by rw [List.length_append]; show acc.length + 1 ≤ i + 1; omega, by rw [wipeE_len]; exact lenW _ _ P5, e2⟩
          · rw [← r5.len]; omega
          · rw [upd_ne (fun z => by rw [z, hD] at hb; cases hb)]
            exact k5 _ _ (k14 _ _ hb n) n
        · cases eo
  · left
    have e : i = items.length := by omega
    subst e
    rw [List.drop_of_length_le (Nat.le_refl _)] at e2
    cases e2
    exact ⟨wk.stop H2 kS2, h1 H2 ((P1.rest hD P2 kS2 hp hρ2).less (fun s h => .inl h) P1.ts P1.zs) k2 _ ⟨D, vacc, rfl, hSD, hD2, r2.fut .refl fun s z => .inl (.inl z)⟩⟩
section
variable {X : Cx} {E : L2.St → XK}
theorem ue_lc {elt tg iter : Expr} {ifs : List Expr} {scope : Scope} {own : List (Str × Nat)} {pos : Pos} {fi : FA} {t : Tg1} {c : FT} {f : FE} (hc : X.calm = true) (hN : X.N.Nodup) (hi : PI X tg iter (pI X.K E fi)) (ok : BlkOk X.N X.env.scope scope own)
    (hg : ∀ (s : Shared) (H : Hp) (C : Addr) (cl : List (Str × Addr)) (fp : List Addr), PG (X.blk s H scope (compEnvC scope cl C X.env) fp) tg (pG X.K t)) (ht : ∀ (s : Shared) (H : Hp) (C : Addr) (cl : List (Str × Addr)) (fp : List Addr), PTs (X.blk s H scope (compEnvC scope cl C X.env) fp) ifs (pT X.K E0S c))
    (he : ∀ (s : Shared) (H : Hp) (C : Addr) (cl : List (Str × Addr)) (fp : List Addr), PE (X.blk s H scope (compEnvC scope cl C X.env) fp) elt (pE X.K E0S f)) (hv : ∀ i ∈ t.vars, i ∈ own.map (·.2)) (hs : ∀ x, foldedSetIterable iter X.env x = pure x := by intro _; rfl) :
    PE X (.ListComp elt [⟨tg, iter, ifs, 0⟩] scope pos) (pE X.K E (fLc fi (own.map (·.2)) t c f)) := (pe_lc hc hN hi ok hg ht he hs).imp fun _ _ _ h => lc_imp hv h
def fYes : FT := fun ρ => .ok (true, ρ)
theorem uts_nil : PTs X [] (pT X.K E fYes) := ⟨fun pins s σ H Q I h => pts_nil.run pins s σ H Q I (by
  obtain ⟨H0, A, Z, T, S, own, ρ, P, h⟩ := h
  exact h H P .refl)⟩
theorem uts_one {c : Expr} {t : FT} (h : PT X c (pT X.K E t)) : PTs X [c] (pT X.K E t) := pts_one h
end
end Ev
namespace Ev
open PySem PySem.Spec PyProof.Rows L2
inductive Fl where
  | nx (ρ : Env)
  | bk (ρ : Env)
  | ct (ρ : Env)
  | rt (r : EV) (ρ : Env)
abbrev FS := Env → Res Fl
structure Fut (T S : Addr → Prop) (H : Hp) (T' S' : Addr → Prop) (H' : Hp) : Prop where
  kp : Keep T H H'
  ss : ∀ s, S' s → S s ∨ H s = none
  tt : ∀ s, T' s → T s ∨ H s = none
theorem Fut.refl {T S : Addr → Prop} {H : Hp} : Fut T S H T S H := ⟨.refl, fun _ h => .inl h, fun _ h => .inl h⟩
theorem Fut.same {T S : Addr → Prop} {H H' : Hp} (k : Keep T H H') : Fut T S H T S H' := ⟨k, fun _ h => .inl h, fun _ h => .inl h⟩
theorem Fut.trans {T S T1 S1 T2 S2 : Addr → Prop} {H H1 H2 : Hp} (ts : ∀ s, T s → S s) (a : Fut T S H T1 S1 H1) (b : Fut T1 S1 H1 T2 S2 H2) : Fut T S H T2 S2 H2 := by
  have old : ∀ s, H1 s = none → T s ∨ H s = none := fun s h => by
    cases e : H s with
    | none => exact .inr rfl
    | some o =>
      by_cases ht : T s
      · exact .inl ht
      · have := a.kp s o e ht; rw [h] at this; cases this
  refine ⟨fun c o h n => b.kp c o (a.kp c o h n) fun z => (a.tt c z).elim n fun e => (by rw [e] at h; cases h), fun s h => ?_, fun s h => ?_⟩
  · rcases b.ss s h with z | z
    · exact a.ss s z
    · exact (old s z).imp (ts s) id
  · rcases b.tt s h with z | z
    · exact a.tt s z
    · exact old s z
def okF (K : PySem.W.Frag) (H0 : Hp) (A : Nat → Option Addr) (Z : Addr → Prop) (E : L2.St → XK) (T S : Addr → Prop) (H : Hp) (D : Ends) : Res Fl → Prop
  | .ok (.nx ρ') => ∀ σ' H' T' S' own', PSt K H0 A Z T' S' own' σ' H' ρ' → Fut T S H T' S' H' → D.nx σ' H'
  | .ok (.bk ρ') => ∀ σ' H' T' S' own', PSt K H0 A Z T' S' own' σ' H' ρ' → Fut T S H T' S' H' → D.bk σ' H'
  | .ok (.ct ρ') => ∀ σ' H' T' S' own', PSt K H0 A Z T' S' own' σ' H' ρ' → Fut T S H T' S' H' → D.ct σ' H'
  | .ok (.rt (.fr p) ρ') => ∀ v σ' H' T' S' own', PSt K H0 A Z T' S' own' σ' H' ρ' → Rep K S' H' p v → D.rt v H'
  | .ok (.rt (.ow p) ρ') => ∀ a σ' H' T' S' own', PSt K H0 A Z T' S' own' σ' H' ρ' → H0 a = none → S' a → Top K S' H' a p → D.rt (.ref a) H'
  | .err e ρ' => ∀ d σ' H' T' S' own', PSt K H0 A Z T' S' own' σ' H' ρ' → Fut T S H T' S' H' → ErrD K S' H' e d → E σ' (.ref (He.ga K e.cls)) (some d) H'
  | _ => False
def pS (K : PySem.W.Frag) (E : L2.St → XK) (g : FS) : TS := fun D σ H => ∃ H0 A Z T S own ρ, PSt K H0 A Z T S own σ H ρ ∧ okF K H0 A Z E T S H D (g ρ)
def gNx : FS := fun ρ => .ok (.nx ρ)
def gSeq (g1 g2 : FS) : FS := fun ρ => match g1 ρ with
  | .ok (.nx ρ1) => g2 ρ1
  | r => r
def gDrop (f : FE) : FS := fun ρ => (f ρ).bind fun z => .ok (.nx z.2)
def gAsg (t : Tg1) (f : FE) : FS := fun ρ => (f ρ).bind fun z => match asg t z.1 z.2 with
  | some ρ' => .ok (.nx ρ')
  | none => .bad
def gRet (f : FE) : FS := fun ρ => (f ρ).bind fun z => .ok (.rt (.fr z.1) z.2)
def gRetN : FS := fun ρ => .ok (.rt (.fr .non) ρ)
def gIf (c : FT) (g1 g2 : FS) : FS := fun ρ => (c ρ).bind fun k => if k.1 = true then g1 k.2 else g2 k.2
def gBk : FS := fun ρ => .ok (.bk ρ)
def forL (t : Tg1) (g : FS) : List PV → Env → Res Fl
  | [], ρ => .ok (.nx ρ)
  | x :: xs, ρ => match asg t x ρ with
    | none => .bad
    | some ρ1 => match g ρ1 with
      | .ok (.nx ρ2) => forL t g xs ρ2
      | .ok (.ct ρ2) => forL t g xs ρ2
      | .ok (.bk ρ2) => .ok (.nx ρ2)
      | r => r
def gFor (fi : FA) (t : Tg1) (g : FS) : FS := fun ρ => (fi ρ).bind fun z => forL t g z.1 z.2
def whileL (c : FT) (g : FS) : Nat → Env → Res Fl
  | 0, _ => .bad
  | n + 1, ρ => (c ρ).bind fun k => if k.1 = true then (match g k.2 with
      | .ok (.nx ρ2) => whileL c g n ρ2
      | .ok (.ct ρ2) => whileL c g n ρ2
      | .ok (.bk ρ2) => .ok (.nx ρ2)
      | r => r)
    else .ok (.nx k.2)
def gWhile (n : Nat) (c : FT) (g : FS) : FS := fun ρ => whileL c g n ρ
section
variable {K : PySem.W.Frag} {H0 : Hp} {A : Nat → Option Addr} {Z T S T1 S1 : Addr → Prop} {own : Nat → Addr} {σ : L2.St} {E : L2.St → XK} {H H1 : Hp} {D : Ends} {ρ : Env}
theorem okF.shift {r : Res Fl} (ts : ∀ s, T s → S s) (f : Fut T S H T1 S1 H1) (h : okF K H0 A Z E T S H D r) : okF K H0 A Z E T1 S1 H1 D r := by
  match r, h with
  | .ok (.nx ρ'), h => exact fun σ' H' T' S' own' P f' => h σ' H' T' S' own' P (f.trans ts f')
  | .ok (.bk ρ'), h => exact fun σ' H' T' S' own' P f' => h σ' H' T' S' own' P (f.trans ts f')
  | .ok (.ct ρ'), h => exact fun σ' H' T' S' own' P f' => h σ' H' T' S' own' P (f.trans ts f')
  | .ok (.rt (.fr p) ρ'), h => exact h
  | .ok (.rt (.ow p) ρ'), h => exact h
  | .ok (.rt .no ρ'), h => exact h
  | .ok (.rt (.io p) ρ'), h => exact h
  | .err e ρ', h => exact fun d σ' H' T' S' own' P f' => h d σ' H' T' S' own' P (f.trans ts f')
  | .bad, h => exact h
theorem okF.bnd {α : Type} {r : Res (α × Env)} {c : α × Env → Res Fl} (P : PSt K H0 A Z T S own σ H ρ) (h : okF K H0 A Z E T S H D (r.bind c)) :
    okR K H0 A Z T S own σ E H r fun a H1 => ∃ ρ1, PSt K H0 A Z T S own σ H1 ρ1 ∧ Keep T H H1 ∧ okF K H0 A Z E T S H1 D (c (a, ρ1)) := by
  cases r with
  | ok z => exact fun H' P' k => ⟨z.2, P', k, okF.shift P.ts (.same k) h⟩
  | err e ρ' => exact fun d H' P' k hd => h d σ H' T S own P' (.same k) hd
  | bad => exact h
end
section
variable {X : Cx} {E : L2.St → XK} {e c : Expr} {st : Stmt} {rest body a b : List Stmt} {pos : Pos} {g g1 g2 : FS} {f : FE} {t : FT} {tg : Tg1}
theorem us_nil : PSs X [] (pS X.K E gNx) := pss_nil.imp (by
  rintro D σ H ⟨H0, A, Z, T, S, own, ρ, P, h⟩
  exact h σ H T S own P .refl)
theorem us_cons (h1 : PS X st (pS X.K E g1)) (h2 : PSs X rest (pS X.K E g2)) : PSs X (st :: rest) (pS X.K E (gSeq g1 g2)) := (pss_cons h1 h2).imp (by
  rintro D σ H ⟨H0, A, Z, T, S, own, ρ, P, h⟩
  refine ⟨H0, A, Z, T, S, own, ρ, P, ?_⟩
  unfold gSeq at h
  match hr : g1 ρ, h with
  | .ok (.nx ρ1), h => exact fun σ' H' T' S' own' P' f => ⟨H0, A, Z, T', S', own', ρ1, P', okF.shift P.ts f h⟩
  | .ok (.bk ρ'), h => exact h
  | .ok (.ct ρ'), h => exact h
  | .ok (.rt (.fr p) ρ'), h => exact h
  | .ok (.rt (.ow p) ρ'), h => exact h
  | .ok (.rt .no ρ'), h => exact h
  | .ok (.rt (.io p) ρ'), h => exact h
  | .err e ρ', h => exact h
  | .bad, h => exact h)
theorem us_one (h1 : PS X st (pS X.K E g)) : PSs X [st] (pS X.K E g) := pss_one h1
theorem us_break : PS X (.Break pos) (pS X.K E gBk) := ps_break.imp (by
  rintro D σ H ⟨H0, A, Z, T, S, own, ρ, P, h⟩
  exact h σ H T S own P .refl)
theorem us_expr (he : PE X e (pE X.K E f)) (hs : swapsWith e none pos.line X.env = pure false := by rfl) : PS X (.Expr e pos) (pS X.K E (gDrop f)) := (ps_expr he hs).imp (by
  rintro D σ H ⟨H0, A, Z, T, S, own, ρ, P, h⟩
  refine ⟨H0, A, Z, T, S, own, ρ, P, (okF.bnd P h).mono ?_⟩
  rintro p H1 - ⟨ρ1, P1, k1, h1⟩ v r1
  exact h1 σ H1 T S own P1 .refl)
theorem us_ret (he : PE X e (pE X.K E f)) : PS X (.Return (some e) pos) (pS X.K E (gRet f)) := (ps_ret he).imp (by
  rintro D σ H ⟨H0, A, Z, T, S, own, ρ, P, h⟩
  refine ⟨H0, A, Z, T, S, own, ρ, P, (okF.bnd P h).mono ?_⟩
  rintro p H1 - ⟨ρ1, P1, k1, h1⟩ v r1
  exact h1 v σ H1 T S own P1 r1)
theorem us_if (hc : PT X c (pT X.K E t)) (ha : PSs X a (pS X.K E g1)) (hb : PSs X b (pS X.K E g2)) : PS X (.If c a b pos) (pS X.K E (gIf t g1 g2)) := (ps_if hc ha hb).imp (by
  rintro D σ H ⟨H0, A, Z, T, S, own, ρ, P, h⟩
  refine ⟨H0, A, Z, T, S, own, ρ, P, (okF.bnd P h).mono ?_⟩
  rintro k H1 - ⟨ρ1, P1, k1, h1⟩
  cases k with
  | true => exact iteT ⟨H0, A, Z, T, S, own, ρ1, P1, h1⟩
  | false => exact iteF ⟨H0, A, Z, T, S, own, ρ1, P1, h1⟩)
theorem asg_imp {f : FE} {σ : L2.St} {H : Hp} {D : Ends} (h : pS X.K E (gAsg tg f) D σ H) : tAsg (pE X.K E f) (pG X.K tg) D σ H := by
  obtain ⟨H0, A, Z, T, S, own, ρ, P, h⟩ := h
  refine ⟨H0, A, Z, T, S, own, ρ, P, (okF.bnd P h).mono ?_⟩
  rintro p H1 - ⟨ρ1, P1, k1, h1⟩ v r1
  dsimp only at h1
  cases e : asg tg p ρ1 with
  | none => rw [e] at h1; exact h1.elim
  | some ρ' =>
    rw [e] at h1
    exact ⟨H0, A, Z, T, S, own, ρ1, p, ρ', P1, r1, e, fun σ' P' _ => h1 σ' H1 T S own P' .refl⟩
theorem us_set {i : Nat} {x : Str} {pos' : Pos} (hN : X.N.Nodup) (hi : X.N[i]? = some x) (hx : Loc X.env.scope x) (he : PE X e (pE X.K E f)) (hs : swapsWith e (some (.Name x pos')) pos.line X.env = pure false := by rfl) (hf : X.fn x = true ∨ X.env.scope.names.lookup x = some .local := by first | exact .inl rfl | exact .inr rfl | assumption) :
    PS X (.Assign [.Name x pos'] e pos) (pS X.K E (gAsg (.nm i) f)) := (ps_set hN hi hx he hs hf).imp (by
  intro D σ H h
  have := asg_imp h
  unfold tAsg at this ⊢
  obtain ⟨H0, A, Z, T, S, own, ρ, P, h⟩ := this
  refine ⟨H0, A, Z, T, S, own, ρ, P, h.mono ?_⟩
  rintro p H1 _ h v r
  obtain ⟨H0, A, Z, T, S, own, ρ, p, ρ', P, r, e, k⟩ := h v r
  exact k _ (P.set r e) off_set)
theorem us_setLc {i : Nat} {y : Str} {py : Pos} {elt tg' iter : Expr} {ifs : List Expr} {scope : Scope} {own : List (Str × Nat)} {pos spos : Pos} {fi : FA} {t : Tg1} {c : FT} {f : FE} (hc : X.calm = true) (hN : X.N.Nodup) (hy : X.N[i]? = some y) (hyl : X.env.scope.names.lookup y = some .local)
    (hsw : swapsWith (.ListComp elt [⟨tg', iter, ifs, 0⟩] scope pos) (some (.Name y py)) spos.line X.env = pure true) (hi : PI X tg' iter (pI X.K E fi)) (ok : BlkOk X.N X.env.scope scope own)
    (hg : ∀ (s : Shared) (H : Hp) (C : Addr) (cl : List (Str × Addr)) (fp : List Addr), PG (X.blk s H scope (compEnvC scope cl C X.env) fp) tg' (pG X.K t)) (ht : ∀ (s : Shared) (H : Hp) (C : Addr) (cl : List (Str × Addr)) (fp : List Addr), PTs (X.blk s H scope (compEnvC scope cl C X.env) fp) ifs (pT X.K E0S c))
    (he : ∀ (s : Shared) (H : Hp) (C : Addr) (cl : List (Str × Addr)) (fp : List Addr), PE (X.blk s H scope (compEnvC scope cl C X.env) fp) elt (pE X.K E0S f)) (hv : ∀ i ∈ t.vars, i ∈ own.map (·.2)) (hs : ∀ x, foldedSetIterable iter X.env x = pure x := by intro _; rfl) :
    PS X (.Assign [.Name y py] (.ListComp elt [⟨tg', iter, ifs, 0⟩] scope pos) spos) (pS X.K E (gAsg (.nm i) (fLc fi (own.map (·.2)) t c f))) := (ps_setLc (i := i) hc hN hy hyl hsw hi ok hg ht he hs).imp (by
  rintro D σ H ⟨H0, A, Z, T, S, ow, ρ, P, h⟩
  have h2 : pE X.K E (fLc fi (own.map (·.2)) t c f) σ H (fun v H1 => gName i v σ H1 D.nx) := ⟨H0, A, Z, T, S, ow, ρ, P, (okF.bnd P h).mono (by
    rintro p H1 - ⟨ρ1, P1, k1, h1⟩ v r1
    dsimp only at h1
    cases e : asg (.nm i) p ρ1 with
    | none => rw [e] at h1; exact h1.elim
    | some ρ' => rw [e] at h1; exact h1 _ H1 T S ow (P1.set r1 e) .refl)⟩
  exact lc_imp hv h2)
/-- what the body of a loop is to reach -/
theorem okF.bodyK {K : PySem.W.Frag} {H0 : Hp} {A : Nat → Option Addr} {Z T S : Addr → Prop} {E : L2.St → XK} {H : Hp} {D : Ends} {N : L2.St → Hp → Prop} {r : Res Fl} {k : Env → Res Fl} (ts : ∀ s, T s → S s)
    (h : okF K H0 A Z E T S H D (match r with | .ok (.nx ρ2) => k ρ2 | .ok (.ct ρ2) => k ρ2 | .ok (.bk ρ2) => .ok (.nx ρ2) | r => r))
    (hN : ∀ ρ2 σ' H' T' S' own', PSt K H0 A Z T' S' own' σ' H' ρ2 → Fut T S H T' S' H' → okF K H0 A Z E T' S' H' D (k ρ2) → N σ' H') :
    okF K H0 A Z E T S H { D with nx := N, ct := N, bk := D.nx } r := by
  match r, h with
  | .ok (.nx ρ1), h => exact fun σ' H' T' S' own' P' f => hN ρ1 σ' H' T' S' own' P' f (okF.shift ts f h)
  | .ok (.ct ρ1), h => exact fun σ' H' T' S' own' P' f => hN ρ1 σ' H' T' S' own' P' f (okF.shift ts f h)
  | .ok (.bk ρ'), h => exact h
  | .ok (.rt (.fr p) ρ'), h => exact h
  | .ok (.rt (.ow p) ρ'), h => exact h
  | .ok (.rt .no ρ'), h => exact h
  | .ok (.rt (.io p) ρ'), h => exact h
  | .err e ρ', h => exact h
  | .bad, h => exact h
theorem us_for {iter tgt : Expr} {fi : FA} (hp : PassesOwn (model X.prog X.w) X.A X.env X.xe) (hc : X.calm = true) (hi : PI X tgt iter (pI X.K E fi)) (hg : PG X tgt (pG X.K tg)) (hb : PSs X body (pS X.K E g))
    (hs : ∀ x, foldedSetIterable iter X.env x = pure x := by intro _; rfl) : PS X (.For tgt iter body [] pos) (pS X.K E (gFor fi tg g)) := (ps_for hp hc hi hg hb hs).imp (by
  rintro D σ H ⟨H0, A, Z, T, S, own, ρ, P, h⟩
  refine ⟨H0, A, Z, T, S, own, ρ, P, (okF.bnd P h).mono ?_⟩
  rintro items H1 - ⟨ρ1, P1, k1, h1⟩ hlen J wk
  dsimp only at h1
  refine ⟨fun i m σ2 H2 => m = items.length - i ∧ i ≤ items.length ∧ ∃ T2 S2 own2 ρ2, PSt X.K H0 A Z T2 S2 own2 σ2 H2 ρ2 ∧ Fut T S H1 T2 S2 H2 ∧ okF X.K H0 A Z E T2 S2 H2 D (forL tg g (items.drop i) ρ2), ⟨_, rfl, Nat.zero_le _, T, S, own, ρ1, P1, .refl, by rw [List.drop_zero]; exact h1⟩, ?_⟩
  rintro i m σ2 H2 ⟨rfl, hi, T2, S2, own2, ρ2, P2, f2, h2⟩
  have kS : Keep S H1 H2 := f2.kp.up P1.ts
  by_cases hlt : i < items.length
  · refine .inr ⟨wk.go i H2 kS hlt, fun σ3 H3 => i + 1 ≤ items.length ∧ ∃ T2 S2 own2 ρ2, PSt X.K H0 A Z T2 S2 own2 σ3 H3 ρ2 ∧ Fut T S H1 T2 S2 H3 ∧ okF X.K H0 A Z E T2 S2 H3 D (forL tg g (items.drop (i + 1)) ρ2), fun σ' H' h' => ⟨_, by omega, rfl, h'⟩, fun v H3 hy => ?_⟩
    obtain ⟨s3, x, hx, rx⟩ := wk.yld i S2 H2 v H3 kS f2.ss P2.al hlt hy
    have hxi : items.drop i = x :: items.drop (i + 1) := by
      obtain ⟨h1, h2⟩ := List.getElem?_eq_some_iff.mp hx
      rw [List.drop_eq_getElem_cons h1, h2]
    rw [hxi] at h2
    unfold forL at h2
    cases ea : asg tg x ρ2 with
    | none => rw [ea] at h2; exact h2.elim
    | some ρa =>
    rw [ea] at h2
    dsimp only at h2
    have f3 : Fut T S H1 T2 S2 H3 := f2.trans P1.ts (.same (.of s3))
    refine ⟨H0, A, Z, T2, S2, own2, ρ2, x, ρa, P2.same s3, rx, ea, fun σ' P' off => ⟨H0, A, Z, T2, S2, own2, ρa, P', ?_⟩⟩
    have h3 := okF.shift P2.ts (.same (.of s3)) h2
    exact okF.bodyK P2.ts h3 fun ρ4 σ4 H4 T4 S4 own4 P4 f4 h4 => ⟨hlt, T4, S4, own4, ρ4, P4, f3.trans P1.ts f4, h4⟩
  · have e : i = items.length := by omega
    subst e
    rw [List.drop_of_length_le (Nat.le_refl _)] at h2
    exact .inl ⟨wk.stop H2 kS, h2 σ2 H2 T2 S2 own2 P2 .refl⟩)
theorem us_while (n : Nat) (hp : PassesOwn (model X.prog X.w) X.A X.env X.xe) (hc : PT X c (pT X.K E t)) (hb : PSs X body (pS X.K E g)) : PS X (.While c body [] pos) (pS X.K E (gWhile n t g)) := (ps_while hp hc hb).imp (by
  rintro D σ H ⟨H0, A, Z, T, S, own, ρ, P, h⟩
  refine ⟨fun m σ2 H2 => ∃ T2 S2 own2 ρ2, PSt X.K H0 A Z T2 S2 own2 σ2 H2 ρ2 ∧ okF X.K H0 A Z E T2 S2 H2 D (whileL t g m ρ2), ⟨n, T, S, own, ρ, P, h⟩, ?_⟩
  rintro m σ2 H2 ⟨T2, S2, own2, ρ2, P2, h2⟩
  cases m with
  | zero => exact h2.elim
  | succ m =>
    unfold whileL at h2
    refine ⟨H0, A, Z, T2, S2, own2, ρ2, P2, (okF.bnd P2 h2).mono ?_⟩
    rintro k H3 - ⟨ρ3, P3, k3, h3⟩
    cases k with
    | false => exact iteF (h3 σ2 H3 T2 S2 own2 P3 .refl)
    | true =>
      refine iteT ⟨fun σ' H' => ∃ T4 S4 own4 ρ4, PSt X.K H0 A Z T4 S4 own4 σ' H' ρ4 ∧ okF X.K H0 A Z E T4 S4 H' D (whileL t g m ρ4), fun σ' H' h' => ⟨m, Nat.lt_succ_self m, h'⟩, H0, A, Z, T2, S2, own2, ρ3, P3, ?_⟩
      exact okF.bodyK P3.ts h3 fun ρ4 σ4 H4 T4 S4 own4 P4 f4 h4 => ⟨T4, S4, own4, ρ4, P4, h4⟩)
end
end Ev
namespace Ev
open PySem PySem.Spec PyProof.Rows L2
def tMethS (C : Addr) (m : Str) (sp : Sp) (E : L2.St → XK) (ta : TE) (t : TA) : TE := fun σ H Q => ta σ H fun x H1 => ∃ a dx fs, x = .ref a ∧ H1 a = some (.ins C dx fs) ∧ fs.lookup m = none ∧ t σ H1 fun vs H2 => sp (.ref a :: vs) H2 Q (E σ)
section
variable {X : Cx} {CX : CXT} {k : Nat} {C f : Addr} {fd : FuncData} {ps ks : List Str} {sp : Sp} {E : L2.St → XK} {o e : Expr} {es : List Expr} {m : Str} {pos apos : Pos} {ta : TE} {t tk : TA} {pl : Sem Bool} {kws : List Keyword}
theorem run_fnKS {pins : List (Addr × Obj)} {σ : L2.St} {H : Hp} {s : Shared} {Q : VK} {us : List Value} {kw : List (Str × Value)} {ws : List Value} {vs : List V} (F : FnOk X.prog X.w X.K X.mg X.base CX k f fd ps sp) (hr : Room k X.A) (hx : PassesAt CX X σ (E σ)) (I : Inv X pins σ H s)
    (hb : BindsTo s fd ⟨us, kw⟩ (ps.zip ws)) (r : Vals vs ws) (h : sp vs H Q (E σ)) : wpAny (model X.prog X.w) X.A (call (.ref f) us kw) (EP X pins σ Q) X.xe s := by
  refine wpAny_call (codeAny_mono (F.run X.A X.stack s H ⟨us, kw⟩ ws vs Q (E σ) hr I.env0 hb r h) fun r s' hq => ?_)
  cases r with
  | error e => exact hx _ H s e s' I hq
  | ok fl =>
    cases fl with
    | ret u => exact I.after hq
    | next => exact False.elim hq
    | brk => exact False.elim hq
    | cont => exact False.elim hq
theorem pe_methS (he : PE X o ta) (c : Cls X.K C) (hm : Meth X.K C m f) (F : FnOk X.prog X.w X.K X.mg X.base CX k f fd ps sp) (hr : Room k X.A) (hb : Binds X.K fd ps []) (hx : ∀ σ, PassesAt CX X σ (E σ)) (ha : PA X (e :: es) t)
    (hst : starEach (e :: es) X.env = (false, eval e X.env) :: starEach es X.env := by rfl) (hpl : (backTo pos (starEach es X.env)).any (·.1) = false := by rfl)
    (ht : eval (.Call (.Attribute o m apos) (e :: es) [] pos) X.env = (do
      let ov ← eval o X.env
      standAt apos.atName
      let (f, first) ← holding [ov] (getMethod ov m pl)
      callWith pos f first (backTo pos (starEach (e :: es) X.env)) (backToKw pos (keywordEach [] X.env))) := by rfl) :
    PE X (.Call (.Attribute o m apos) (e :: es) [] pos) (tMethS C m sp E ta t) := by
  refine ⟨fun pins s σ H Q I h => ?_⟩
  refine PySem.W.methodCall_KW (pl := pl) (thn (he.run pins s σ H _ I h) fun u s1 ⟨x, H1, I1, rx, a, dx, fs, ex, ea, l, q⟩ => ?_) ht
  subst ex
  obtain rfl : u = Value.ref a := rx
  refine getmeth_ok I1 ea c hm l ?_
  refine PySem.W.callWith_K (first := [.ref a]) (h₀ := X.base) I.ok.mod.kin hm.kp (thn (ha.run pos pins s1 σ H1 _ I1 q) fun us s2 ⟨vs, H2, I2, r, q2⟩ => ⟨I2.kIn, ?_⟩) hst hpl
  exact run_fnS (us := .ref a :: us) (vs := .ref a :: vs) F hr hb (hx σ) I2 (.cons rfl r) q2
end
end Ev
namespace Ev
open PySem PySem.Spec PyProof.Rows L2
theorem OneMade.of {f : Str} {v : V} {H H1 H' : Hp} {d : Option Addr} (s : Same H H1) (h : OneMade f v H1 d H') : OneMade f v H d H' := by
  obtain ⟨dd, e, h1, h2⟩ := h
  exact ⟨dd, e, h1, s.trans h2⟩
structure CaX (P : Program) (w : World) (K : PySem.W.Frag) (mg : Str → Option Value) (base : Heap) (k : Nat) (x : Str) (sp : Sp) : Prop where
  ex : ∃ (f : Addr) (fd : FuncData) (ps : List Str), FnOk P w K mg base (L2.CX P w) k f fd ps sp ∧ mg x = some (.ref f) ∧ PySem.W.keepIn K (.ref f) = true ∧ Binds K fd ps []
/-- .. by the names ks, of which gV makes the order of the def -/
structure CaK (P : Program) (w : World) (K : PySem.W.Frag) (mg : Str → Option Value) (base : Heap) (CX : CXT) (k : Nat) (x : Str) (ks : List Str) (gV : List V → List V) (sp : Sp) : Prop where
  ex : ∃ (f : Addr) (fd : FuncData) (ps : List Str) (gW : List Value → List Value), FnOk P w K mg base CX k f fd ps sp ∧ mg x = some (.ref f) ∧ PySem.W.keepIn K (.ref f) = true ∧
    (∀ (s : Shared) (ws : List Value), K.In s.heap → ws.length = ks.length → BindsTo s fd ⟨[], ks.zip ws⟩ (ps.zip (gW ws))) ∧ (∀ {zs : List V} {ws : List Value}, Vals zs ws → Vals (gV zs) (gW ws))
def tCallSK (sp : Sp) (n : Nat) (gV : List V → List V) (E : L2.St → XK) (tk : TA) : TE := fun σ H Q => tk σ H fun zs H1 => zs.length = n ∧ sp (gV zs) H1 Q (E σ)
structure ErrT (P : Program) (w : World) (K : PySem.W.Frag) (mg : Str → Option Value) (base : Heap) (x f : Str) (C : Addr) : Prop where
  ex : ∃ (fI : Addr) (fd : FuncData), OneF K C fI f ∧ FnOk P w K mg base CX0 1 fI fd ["self", f] (spOne K f) ∧ Binds K fd ["self", f] []
  g : mg x = some (.ref C)
/-- what is asked where such an error is made -/
def tErr (C : Addr) (f : Str) (ta : TA) : L2.St → Hp → XK → Prop := fun σ H E => ta σ H fun vs H1 => ∃ v, vs = [v] ∧ ∀ d H', OneMade f v H1 d H' → E (.ref C) d H'
section
variable {X : Cx} {CX : CXT} {k j : Nat} {ks : List Str} {sp : Sp} {e : Expr} {es : List Expr} {x f : Str} {p pos : Pos} {t tk : TA} {kws : List Keyword} {C : Addr}
theorem pe_cX {E : XK} (c : CaX X.prog X.w X.K X.mg X.base k x sp) (hr : Room j X.A) (hk : k ≤ j) (hg : Gl X x) (hx : Passes (L2.CX X.prog X.w) X E) (ha : PA X (e :: es) t)
    (hdb : (x == ("__debug__" : Str)) = false := by decide) (he : starEach (e :: es) X.env = (false, eval e X.env) :: starEach es X.env := by rfl) (hpl : (backTo pos (starEach es X.env)).any (·.1) = false := by rfl) :
    PE X (.Call (.Name x p) (e :: es) [] pos) (tCall sp [] E t) := by
  obtain ⟨f, fd, ps, F, hm, kp, b⟩ := c.ex
  exact pe_call F (hr.mono hk) hg hm kp b .nil hx ha hdb he hpl
theorem pe_cS {E : L2.St → XK} (c : CaX X.prog X.w X.K X.mg X.base k x sp) (hr : Room j X.A) (hk : k ≤ j) (hg : Gl X x) (hx : ∀ σ, PassesAt (L2.CX X.prog X.w) X σ (E σ)) (ha : PA X (e :: es) t)
    (hdb : (x == ("__debug__" : Str)) = false := by decide) (he : starEach (e :: es) X.env = (false, eval e X.env) :: starEach es X.env := by rfl) (hpl : (backTo pos (starEach es X.env)).any (·.1) = false := by rfl) :
    PE X (.Call (.Name x p) (e :: es) [] pos) (tCallS sp E t) := by
  obtain ⟨f, fd, ps, F, hm, kp, b⟩ := c.ex
  exact pe_callS F (hr.mono hk) hg hm kp b hx ha hdb he hpl
theorem pe_cSK {E : L2.St → XK} {gV : List V → List V} (c : CaK X.prog X.w X.K X.mg X.base CX k x ks gV sp) (hr : Room j X.A) (hk : k ≤ j) (hg : Gl X x) (hx : ∀ σ, PassesAt CX X σ (E σ)) (hkw : PK X kws tk)
    (hall : (backToKw pos (keywordEach kws X.env)).all (·.1.isSome) = true := by rfl) (hks : (backToKw pos (keywordEach kws X.env)).filterMap (·.1) = ks := by rfl)
    (hpl : ((backTo pos (starEach [] X.env)).any (·.1) || (backToKw pos (keywordEach kws X.env)).any (·.1.isNone)) = false := by rfl) (hdb : (x == ("__debug__" : Str)) = false := by decide) :
    PE X (.Call (.Name x p) [] kws pos) (tCallSK sp ks.length gV E tk) := by
  obtain ⟨f, fd, ps, gW, F, hm, kp, hb, hv⟩ := c.ex
  refine ⟨fun pins s σ H Q I h => ?_⟩
  refine wpAny_Call_Name_kw (ld_glob I hg hm ?_ hdb)
  refine PySem.W.callWith_KW0 (h₀ := X.base) I.ok.mod.kin kp hall (thn (hkw.run pos pins s σ H _ I h) fun ws s3 ⟨zs, H2, I3, rz, lz, q2⟩ => ⟨I3.kIn, ?_⟩) hpl
  rw [hks]
  exact run_fnKS F (hr.mono hk) (hx σ) I3 (hb s3 ws I3.kIn (rz.length.symm.trans lz)) (hv rz) q2
theorem pa_weak {es : List Expr} (ha : PA X es t) : PA X es (fun σ H Q => ∃ R, t σ H R ∧ ∀ vs H1, R vs H1 → Q vs H1) :=
  ⟨fun pos pins s σ H Q I ⟨R, hR, hi⟩ => thn (ha.run pos pins s σ H R I hR) fun us s1 ⟨vs, H1, I1, r1, q1⟩ => ⟨vs, H1, I1, r1, hi vs H1 q1⟩⟩
theorem pmk_err (Z : ErrT X.prog X.w X.K X.mg X.base x f C) (hr : Room j X.A) (hk : 2 ≤ j) (hg : Gl X x) (ha : PA X [e] t)
    (hdb : (x == ("__debug__" : Str)) = false := by decide) (he : starEach [e] X.env = (false, eval e X.env) :: starEach [] X.env := by rfl) (hpl : (backTo pos (starEach [] X.env)).any (·.1) = false := by rfl) :
    PMk X (.Call (.Name x p) [e] [] pos) (tErr C f t) := by
  obtain ⟨fI, fd, T, F, b⟩ := Z.ex
  have m := pmk_oex (p := p) (pos := pos) T.ox T.iC T.tI F (hr.mono hk) b .nil pass0 hg Z.g (pa_weak ha) hdb he hpl
  intro pins s σ H Q I h
  refine m pins s σ H Q I ⟨_, h, ?_⟩
  rintro vs H1 ⟨v, rfl, hE⟩
  exact ⟨(by show 1 ≤ 1000; decide), one_end T hE⟩
end
end Ev
namespace Ev
open PySem PySem.Spec PyProof.Rows L2
def outE : Option EV → EV
  | some (.io p) => .io p
  | _ => .no
def outs (n : Nat) (ρ : Env) : Env := (List.range n).map fun i => outE ρ[i]?
def finF (n : Nat) : Res Fl → Res (EV × Env)
  | .ok (.nx ρ) => .ok (.fr .non, outs n ρ)
  | .ok (.rt r ρ) => .ok (r, outs n ρ)
  | .err e ρ => .err e (outs n ρ)
  | _ => .bad
def defF (N n : Nat) (g : FS) : Env → Res (EV × Env) := fun ρ => finF n (g (ρ ++ List.replicate (N - n) .no))
abbrev Fn := Env → Res (EV × Env)
def spG (K : PySem.W.Frag) (n : Nat) (g : Fn) : Sp := fun vs H Q E => ∃ (A : Nat → Option Addr) (T S : Addr → Prop) (own : Nat → Addr) (ρ : Env), vs.length = n ∧ PSt K H A S T S own (vs.map some) H ρ ∧ (∀ (i : Nat) (p : PV), ρ[i]? ≠ some (EV.ow p)) ∧ (∀ (i : Nat) (a : Addr), A i = some a → vs[i]? = some (V.ref a)) ∧ match g ρ with
  | .ok (.fr p, ρ') => ∀ H' v, PSt K H A S T S own (vs.map some) H' ρ' → Rep K S H' p v → Q v H'
  | .ok (.ow p, ρ') => ∀ H' a, PSt K H A S T (Sand S a) own (vs.map some) H' ρ' → H a = none → Top K (Sand S a) H' a p → Q (.ref a) H'
  | .err e ρ' => ∀ H' d, PSt K H A S T S own (vs.map some) H' ρ' → ErrD K S H' e d → E (.ref (He.ga K e.cls)) (some d) H'
  | _ => False
theorem outs_get {n i : Nat} {ρ : Env} {e : EV} (h : (outs n ρ)[i]? = some e) : i < n ∧ (e = .no ∨ ∃ p, e = .io p ∧ ρ[i]? = some (.io p)) := by
  unfold outs at h
  rw [List.getElem?_map] at h
  cases hr : (List.range n)[i]? with
  | none => rw [hr] at h; cases h
  | some j =>
    rw [hr] at h
    obtain ⟨hi, hj⟩ := List.getElem?_eq_some_iff.mp hr
    rw [List.length_range] at hi
    rw [List.getElem_range] at hj
    subst hj
    refine ⟨hi, ?_⟩
    have h : outE ρ[i]? = e := Option.some.inj h
    cases e1 : ρ[i]? with
    | none => rw [e1] at h; exact .inl h.symm
    | some f => rw [e1] at h; cases f <;> first | exact .inl h.symm | exact .inr ⟨_, h.symm, rfl⟩
section
variable {K : PySem.W.Frag} {A : Nat → Option Addr} {Z T S T' S' S2 : Addr → Prop} {own own' : Nat → Addr} {σ σ' : L2.St} {H H' : Hp} {ρ ρ' : Env} {vs : List V}
theorem PSt.outs {n : Nat} (P' : PSt K H A Z T' S' own' σ' H' ρ') (hia : ∀ i a, A i = some a → T a) (hA : ∀ i a, A i = some a → vs[i]? = some (.ref a)) (hn : vs.length = n) (h1 : ∀ s, Z s → S2 s) (h2 : ∀ s, S2 s → S' s) (h3 : ∀ s, T s → S2 s) : PSt K H A Z T S2 own (vs.map some) H' (outs n ρ') := by
  refine ⟨P'.kp, hia, P'.i0, P'.z0, fun s z => P'.al s (h2 s z), h3, h1, by unfold Ev.outs; rw [List.length_map, List.length_range, List.length_map]; exact hn.symm, fun i e he => ?_, fun i p hp => ?_, fun i j e f a e1 e2 e3 e4 => ?_⟩
  · obtain ⟨hi, rfl | ⟨p, rfl, hp⟩⟩ := outs_get he
    · trivial
    · obtain ⟨a, ha, _, _, t⟩ := P'.sl i _ hp
      exact ⟨a, ha, by rw [List.getElem?_map, hA i a ha]; rfl, hia i a ha, t.keep .refl (fun s z => .inl (h2 s z)) fun _ z => z⟩
  · obtain ⟨_, h | ⟨p, h, _⟩⟩ := outs_get hp <;> cases h
  · obtain ⟨_, rfl | ⟨p, rfl, hp⟩⟩ := outs_get e1
    · cases e3
    · obtain ⟨_, rfl | ⟨q, rfl, hq⟩⟩ := outs_get e2
      · cases e4
      · exact P'.dj i j _ _ a hp hq e3 e4
end
theorem spG_run {K : PySem.W.Frag} {E : XK} {N : List Str} {n : Nat} {g : FS} {vs : List V} {H : Hp} {Q : VK} (h : spG K n (defF N.length n g) vs H Q E) : pS K (fun _ => E) g { nx := fun _ H' => Q .non H', rt := Q } (L2.start N vs) H := by
  obtain ⟨A, T, S, own, ρ, hl, P, now, hA, h⟩ := h
  have hρ : ρ.length = n := by rw [P.ln, List.length_map, hl]
  have get1 : ∀ (i : Nat) (e : EV), (ρ ++ List.replicate (N.length - n) EV.no)[i]? = some e → e = EV.no ∨ ρ[i]? = some e := fun i e he => by
    by_cases hi : i < ρ.length
    · rw [List.getElem?_append_left hi] at he; exact .inr he
    · rw [List.getElem?_append_right (by omega), List.getElem?_replicate] at he
      split at he
      · exact .inl (Option.some.inj he).symm
      · cases he
  have P0 : PSt K H A S T S own (L2.start N vs) H (ρ ++ List.replicate (N.length - n) EV.no) := by
    refine ⟨P.kp, P.ia, P.i0, P.z0, P.al, P.ts, P.zs, by unfold L2.start; rw [List.length_append, List.length_append, List.length_replicate, List.length_replicate, List.length_map, hρ, hl], fun i e he => ?_, fun i p hp => ?_, fun i j e f a e1 e2 e3 e4 => ?_⟩
    · rcases get1 i e he with rfl | he
      · trivial
      · have := P.sl i e he
        have hi : i < (vs.map some).length := by rw [← P.ln]; exact (List.getElem?_eq_some_iff.mp he).1
        unfold L2.start
        rw [List.getElem?_append_left hi]
        exact this
    · rcases get1 i _ hp with z | hp
      · cases z
      · exact absurd hp (now i p)
    · rcases get1 i e e1 with rfl | e1
      · cases e3
      · rcases get1 j f e2 with rfl | e2
        · cases e4
        · exact P.dj i j e f a e1 e2 e3 e4
  refine ⟨H, A, S, T, S, own, _, P0, ?_⟩
  unfold defF finF at h
  generalize g (ρ ++ List.replicate (N.length - n) EV.no) = r at h ⊢
  match r, h with
  | .ok (.nx ρ'), h =>
    intro σ' H' T' S' own' P' _
    exact h H' _ (P'.outs P.ia hA hl (fun _ z => z) P'.zs P.ts) rfl
  | .ok (.rt (.fr p) ρ'), h =>
    intro v σ' H' T' S' own' P' r
    exact h H' v (P'.outs P.ia hA hl (fun _ z => z) P'.zs P.ts) (r.fut .refl fun s z => .inl (P'.zs s z))
  | .ok (.rt (.ow p) ρ'), h =>
    intro a σ' H' T' S' own' P' h0 hS t
    have hs : ∀ s, Sand S a s → S' s := fun s z => z.elim (P'.zs s) fun e => by rw [e]; exact hS
    exact h H' a (P'.outs P.ia hA hl (fun _ z => .inl z) hs fun s z => .inl (P.ts s z)) h0 (t.keep .refl (fun s z => .inl (hs s z)) fun _ z => z)
  | .ok (.rt .no ρ'), h => exact h.elim
  | .ok (.rt (.io p) ρ'), h => exact h.elim
  | .ok (.bk ρ'), h => exact h.elim
  | .ok (.ct ρ'), h => exact h.elim
  | .err e ρ', h =>
    intro d σ' H' T' S' own' P' _ hd
    obtain ⟨vfs, h1, h2⟩ := hd
    exact h H' d (P'.outs P.ia hA hl (fun _ z => z) P'.zs P.ts) ⟨vfs, h1, h2.fut .refl fun s z => .inl (P'.zs s z)⟩
  | .bad, h => exact h.elim
/-- a def, by its body's term -/
theorem ok_pure0 {P : Program} {w : World} {K : PySem.W.Frag} {mg : Str → Option Value} {base : Heap} {x qual : Str} {st : Stmt} {f : Addr} {fd : FuncData} {N ps : List Str} {k : Nat} (g : FS) (F : Fun K x qual st f fd) (S : FnScope N ps (defScope st))
    (hb : ∀ (cdv : Value) (A : Around) (outer : List PySem.Env) (s : Shared) (H : Hp) (E : XK), Room k (A.deeper (envOfC qual (defScope st) s.heap.objs.size f cdv)) → PSs (cxOf (L2.CX P w) P w K mg base N qual (defScope st) f cdv A outer s H E) (defBody st) (pS K (fun _ => E) g)) : FnOk P w K mg base (L2.CX P w) (k + 1) f fd ps (spG K ps.length (defF N.length ps.length g)) := by
  refine F.okX S (fun vs H Q E h => ?_) (fun cdv A outer s H vs Q E hr h => ?_)
  · obtain ⟨_, _, _, _, _, h, _⟩ := h
    exact h
  · exact ⟨_, hb cdv A outer s H E hr, spG_run h⟩
theorem ok_pure {P : Program} {w : World} {K : PySem.W.Frag} {mg : Str → Option Value} {base : Heap} {x qual : Str} {st : Stmt} {f : Addr} {fd : FuncData} (N ps : List Str) (nN n k : Nat) (g : FS) (F : Fun K x qual st f fd) (S : FnScope N ps (defScope st)) (h1 : N.length = nN) (h2 : ps.length = n)
    (hb : ∀ (cdv : Value) (A : Around) (outer : List PySem.Env) (s : Shared) (H : Hp) (E : XK), Room k (A.deeper (envOfC qual (defScope st) s.heap.objs.size f cdv)) → PSs (cxOf (L2.CX P w) P w K mg base N qual (defScope st) f cdv A outer s H E) (defBody st) (pS K (fun _ => E) g)) : FnOk P w K mg base (L2.CX P w) (k + 1) f fd ps (spG K n (defF nN n g)) := by
  subst h1
  subst h2
  exact ok_pure0 g F S hb
theorem passS {X : Cx} : ∀ σ, PassesAt (L2.CX X.prog X.w) X σ (E0S σ) := fun σ pins H s e s' I h => passL pins σ H s e s' I h
inductive AV where
  | e (p : PV)
  | r (i : Nat)
abbrev FAs := Env → Res (List AV × Env)
def RelA (K : PySem.W.Frag) (S : Addr → Prop) (σ : L2.St) (H : Hp) : List AV → List V → Prop
  | [], vs => vs = []
  | .e p :: as, vs => ∃ v r, vs = v :: r ∧ Rep K S H p v ∧ RelA K S σ H as r
  | .r i :: as, vs => ∃ v r, vs = v :: r ∧ σ[i]? = some (some v) ∧ RelA K S σ H as r
def pAs (K : PySem.W.Frag) (E : L2.St → XK) (f : FAs) : TA := fun σ H Q => ∃ H0 A Z T S own ρ, PSt K H0 A Z T S own σ H ρ ∧ okR K H0 A Z T S own σ E H (f ρ) fun as H' => ∀ vs, RelA K S σ H' as vs → Q vs H'
def aNil : FAs := fun ρ => .ok ([], ρ)
def aCons (f : FE) (r : FAs) : FAs := fun ρ => (f ρ).bind fun z => (r z.2).bind fun w => .ok (.e z.1 :: w.1, w.2)
def aRef (i : Nat) (r : FAs) : FAs := fun ρ => match ρ[i]? with
  | some (.ow _) => (r ρ).bind fun w => .ok (.r i :: w.1, w.2)
  | some (.io _) => (r ρ).bind fun w => .ok (.r i :: w.1, w.2)
  | _ => .bad
theorem RelA.keep {K : PySem.W.Frag} {S : Addr → Prop} {σ : L2.St} {H H' : Hp} (k : Keep S H H') : ∀ {as : List AV} {vs : List V}, RelA K S σ H as vs → RelA K S σ H' as vs
  | [], _, h => h
  | .e _ :: _, _, ⟨v, r, e, h, t⟩ => ⟨v, r, e, h.keep k, RelA.keep k t⟩
  | .r _ :: _, _, ⟨v, r, e, h, t⟩ => ⟨v, r, e, h, RelA.keep k t⟩
section
variable {X : Cx} {E : L2.St → XK} {e : Expr} {es : List Expr} {x : Str} {pos : Pos} {f : FE} {ra : FAs}
theorem uas_nil : PA X [] (pAs X.K E aNil) := pa_nil.imp (by
  rintro σ H Q ⟨H0, A, Z, T, S, own, ρ, P, h⟩
  exact h H P .refl _ rfl)
theorem uas_cons (ha : PE X e (pE X.K E f)) (hr : PA X es (pAs X.K E ra)) (hs : starEach (e :: es) X.env = (false, eval e X.env) :: starEach es X.env := by rfl) : PA X (e :: es) (pAs X.K E (aCons f ra)) := (pa_cons ha hr hs).imp (by
  rintro σ H Q ⟨H0, A, Z, T, S, own, ρ, P, h⟩
  refine ⟨H0, A, Z, T, S, own, ρ, P, h.bnd.mono ?_⟩
  rintro p H1 - ⟨ρ1, P1, k1, h1⟩ v r1
  refine ⟨H0, A, Z, T, S, own, ρ1, P1, h1.bnd.mono ?_⟩
  rintro ps H2 - ⟨ρ2, P2, k2, h2⟩ vs r2
  exact h2 H2 P2 .refl _ ⟨v, vs, rfl, r1.keep k2, r2⟩)
theorem uas_ref (i : Nat) (hr : PA X es (pAs X.K E ra)) (hN : X.N[i]? = some x := by rfl) (hv : Vis X.env.scope x := by first | exact Or.inl rfl | exact Or.inr (Or.inl rfl) | exact Or.inr (Or.inr rfl)) (hd : (x == ("__debug__" : Str)) = false := by decide)
    (hcd : (x == ("__classdict__" : Str)) = false := by decide) (hs : starEach (.Name x pos :: es) X.env = (false, eval (.Name x pos) X.env) :: starEach es X.env := by rfl) : PA X (.Name x pos :: es) (pAs X.K E (aRef i ra)) := (pa_cons (pe_var (pos := pos) hN hv hd hcd) hr hs).imp (by
  rintro σ H Q ⟨H0, A, Z, T, S, own, ρ, P, h⟩
  unfold aRef at h
  have key : (∃ v, σ[i]? = some (some v)) ∧ okR X.K H0 A Z T S own σ E H ((ra ρ).bind fun w => .ok (AV.r i :: w.1, w.2)) (fun as H' => ∀ vs, RelA X.K S σ H' as vs → Q vs H') := by
    cases e : ρ[i]? with
    | none => rw [e] at h; exact h.elim
    | some z =>
      rw [e] at h
      have := P.sl i z e
      cases z with
      | ow p => exact ⟨⟨_, this.1⟩, h⟩
      | io p => obtain ⟨a, _, z, _⟩ := this; exact ⟨⟨_, z⟩, h⟩
      | _ => exact h.elim
  obtain ⟨⟨v, hv⟩, h⟩ := key
  refine ⟨v, hv, H0, A, Z, T, S, own, ρ, P, h.bnd.mono ?_⟩
  rintro ps H2 - ⟨ρ2, P2, k2, h2⟩ vs r2
  exact h2 H2 P2 .refl _ ⟨v, vs, rfl, hv, r2⟩)
end
def rfs : List AV → List Nat
  | [] => []
  | .e _ :: as => rfs as
  | .r i :: as => i :: rfs as
def argE1 (ρ : Env) : List AV → Option Env
  | [] => some []
  | .e p :: as => (argE1 ρ as).map (.fr p :: ·)
  | .r i :: as => match ρ[i]? with
    | some (.ow p) => (argE1 ρ as).map (.io p :: ·)
    | some (.io p) => (argE1 ρ as).map (.io p :: ·)
    | _ => none
def argE (as : List AV) (ρ : Env) : Option Env := if (rfs as).Nodup then argE1 ρ as else none
def putE (i : Nat) (p : PV) (ρ : Env) : Option Env := match ρ[i]? with
  | some (.ow _) => some (ρ.set i (.ow p))
  | some (.io _) => some (ρ.set i (.io p))
  | _ => none
def back : List AV → Env → Env → Option Env
  | [], [], ρ => some ρ
  | .e _ :: as, _ :: ρb, ρ => back as ρb ρ
  | .r i :: as, .io p :: ρb, ρ => (putE i p ρ).bind fun ρ' => back as ρb ρ'
  | _, _, _ => none
def callR (g : Fn) (as : List AV) (ρ : Env) : Res (EV × Env) := match argE as ρ with
  | none => .bad
  | some ρa => match g ρa with
    | .ok z => match back as z.2 ρ with
      | some ρ' => .ok (z.1, ρ')
      | none => .bad
    | .err e ρb => match back as ρb ρ with
      | some ρ' => .err e ρ'
      | none => .bad
    | .bad => .bad
def frz : EV → Option PV
  | .fr p => some p
  | .ow p => some p
  | _ => none
def fCall (g : Fn) (fa : FAs) : FE := fun ρ => (fa ρ).bind fun z => (callR g z.1 z.2).bind fun w => ofO (frz w.1) w.2
section
variable {K : PySem.W.Frag} {H0 : Hp} {A : Nat → Option Addr} {Z T S S2 : Addr → Prop} {own : Nat → Addr} {σ : L2.St} {H H1 H' : Hp} {ρ ρ' ρa ρb : Env} {as : List AV} {vs : List V}
def slA (A : Nat → Option Addr) (own : Nat → Addr) (ρ : Env) (i : Nat) : Option Addr := (ρ[i]?).bind fun e => e.adr (A i) (own i)
/-- the addresses that a call may change -/
def refA (A : Nat → Option Addr) (own : Nat → Addr) (ρ : Env) (as : List AV) (k : Nat) : Option Addr := match as[k]? with
  | some (.r i) => slA A own ρ i
  | _ => none
theorem rel_get : ∀ {as : List AV} {vs : List V} {k : Nat} {x : AV}, RelA K S σ H as vs → as[k]? = some x → ∃ v, vs[k]? = some v ∧ (match x with | .e p => Rep K S H p v | .r i => σ[i]? = some (some v))
  | [], _, _, _, _, e => by simp at e
  | .e p :: _, _, 0, _, ⟨v, r, rfl, h, _⟩, e => by simp at e; subst e; exact ⟨v, rfl, h⟩
  | .r p :: _, _, 0, _, ⟨v, r, rfl, h, _⟩, e => by simp at e; subst e; exact ⟨v, rfl, h⟩
  | .e _ :: _, _, k + 1, _, ⟨v, r, rfl, _, t⟩, e => rel_get (k := k) t (by simpa using e)
  | .r _ :: _, _, k + 1, _, ⟨v, r, rfl, _, t⟩, e => rel_get (k := k) t (by simpa using e)
theorem rel_len : ∀ {as : List AV} {vs : List V}, RelA K S σ H as vs → vs.length = as.length
  | [], _, rfl => rfl
  | .e _ :: _, _, ⟨_, _, rfl, _, t⟩ => congrArg Nat.succ (rel_len t)
  | .r _ :: _, _, ⟨_, _, rfl, _, t⟩ => congrArg Nat.succ (rel_len t)
theorem argE1_get : ∀ {as : List AV} {ρa : Env} {k : Nat} {e : EV}, argE1 ρ as = some ρa → ρa[k]? = some e → (∃ p, as[k]? = some (.e p) ∧ e = .fr p) ∨ ∃ i p, as[k]? = some (.r i) ∧ e = .io p ∧ (ρ[i]? = some (.ow p) ∨ ρ[i]? = some (.io p))
  | [], _, _, _, e1, e2 => by cases e1; simp at e2
  | .e p :: as, ρa, k, e, e1, e2 => by
    unfold argE1 at e1
    obtain ⟨r, h1, h2⟩ := Option.map_eq_some_iff.mp e1
    subst h2
    cases k with
    | zero => simp at e2; subst e2; exact .inl ⟨p, rfl, rfl⟩
    | succ k => exact argE1_get (k := k) h1 (by simpa using e2)
  | .r i :: as, ρa, k, e, e1, e2 => by
    unfold argE1 at e1
    split at e1
    · rename_i p hp
      obtain ⟨r, h1, h2⟩ := Option.map_eq_some_iff.mp e1
      subst h2
      cases k with
      | zero => simp at e2; subst e2; exact .inr ⟨i, p, rfl, rfl, .inl hp⟩
      | succ k => exact argE1_get (k := k) h1 (by simpa using e2)
    · rename_i p hp
      obtain ⟨r, h1, h2⟩ := Option.map_eq_some_iff.mp e1
      subst h2
      cases k with
      | zero => simp at e2; subst e2; exact .inr ⟨i, p, rfl, rfl, .inr hp⟩
      | succ k => exact argE1_get (k := k) h1 (by simpa using e2)
    · cases e1
theorem argE1_len : ∀ {as : List AV} {ρa : Env}, argE1 ρ as = some ρa → ρa.length = as.length
  | [], _, e1 => by cases e1; rfl
  | .e p :: as, ρa, e1 => by
    unfold argE1 at e1
    obtain ⟨r, h1, h2⟩ := Option.map_eq_some_iff.mp e1
    subst h2
    exact congrArg Nat.succ (argE1_len h1)
  | .r i :: as, ρa, e1 => by
    unfold argE1 at e1
    split at e1
    · obtain ⟨r, h1, h2⟩ := Option.map_eq_some_iff.mp e1
      subst h2
      exact congrArg Nat.succ (argE1_len h1)
    · obtain ⟨r, h1, h2⟩ := Option.map_eq_some_iff.mp e1
      subst h2
      exact congrArg Nat.succ (argE1_len h1)
    · cases e1
theorem mem_rfs : ∀ {as : List AV} {k i : Nat}, as[k]? = some (.r i) → i ∈ rfs as := by
  intro as
  induction as with
  | nil => intro k i h; simp at h
  | cons a as ih =>
    intro k i h
    cases k with
    | zero => simp at h; subst h; exact List.mem_cons_self
    | succ k =>
      have := ih (k := k) (by simpa using h)
      cases a with
      | e p => exact this
      | r j => exact List.mem_cons_of_mem _ this
theorem rfs_nodup : ∀ {as : List AV} {k l i : Nat}, (rfs as).Nodup → as[k]? = some (.r i) → as[l]? = some (.r i) → k = l := by
  intro as
  induction as with
  | nil => intro k l i _ h; simp at h
  | cons a as ih =>
    intro k l i hn h1 h2
    have hn' : (rfs as).Nodup := by
      cases a with
      | e p => exact hn
      | r j => exact (List.nodup_cons.mp hn).2
    cases k with
    | zero =>
      cases l with
      | zero => rfl
      | succ l =>
        simp at h1
        subst h1
        exact absurd (mem_rfs (k := l) (by simpa using h2)) (List.nodup_cons.mp hn).1
    | succ k =>
      cases l with
      | zero =>
        simp at h2
        subst h2
        exact absurd (mem_rfs (k := k) (by simpa using h1)) (List.nodup_cons.mp hn).1
      | succ l => exact congrArg Nat.succ (ih hn' (by simpa using h1) (by simpa using h2))
theorem PSt.slS {i : Nat} {a : Addr} (P : PSt K H0 A Z T S own σ H ρ) (h : slA A own ρ i = some a) : T a ∧ σ[i]? = some (some (.ref a)) ∧ (∃ o, H a = some o) ∧ (H0 a = none ∨ A i = some a) := by
  unfold slA at h
  cases e : ρ[i]? with
  | none => rw [e] at h; cases h
  | some f =>
    rw [e] at h
    have h : f.adr (A i) (own i) = some a := h
    have := P.sl i f e
    cases f with
    | ow p => obtain ⟨e1, h1, t⟩ := this; cases h; exact ⟨h1, e1, P.al _ (P.ts _ h1), .inl (P.fr i p e)⟩
    | io p => obtain ⟨b, z, e1, h1, t⟩ := this; have h : A i = some a := h; rw [h] at z; cases z; exact ⟨h1, e1, P.al _ (P.ts _ h1), .inr h⟩
    | _ => cases h
/-- the state at a call, for the def that is called -/
theorem PSt.enter (P : PSt K H0 A Z T S own σ H ρ) (hE : argE as ρ = some ρa) (hR : RelA K S σ H as vs) : PSt K H (refA A own ρ as) S (fun a => ∃ k, refA A own ρ as k = some a) S own (vs.map some) H ρa ∧ (∀ (i : Nat) (p : PV), ρa[i]? ≠ some (EV.ow p)) ∧ (∀ i a, refA A own ρ as i = some a → vs[i]? = some (.ref a)) := by
  have hE : (rfs as).Nodup ∧ argE1 ρ as = some ρa := by
    unfold argE at hE
    split at hE
    · rename_i h; exact ⟨h, hE⟩
    · cases hE
  obtain ⟨hnd, hE⟩ := hE
  have rA : ∀ k a, refA A own ρ as k = some a → ∃ i, as[k]? = some (.r i) ∧ slA A own ρ i = some a := fun k a h => by
    unfold refA at h
    split at h
    · rename_i i e; exact ⟨i, e, h⟩
    · cases h
  have hv : ∀ k a, refA A own ρ as k = some a → vs[k]? = some (.ref a) := fun k a h => by
    obtain ⟨i, e, h⟩ := rA k a h
    obtain ⟨v, e1, e2⟩ := rel_get hR e
    have := (P.slS h).2.1
    dsimp only at e2
    rw [this] at e2
    cases e2
    exact e1
  refine ⟨⟨fun _ _ h _ => h, fun i a h => ⟨i, h⟩, fun i a h => (let ⟨j, _, z⟩ := rA i a h; (P.slS z).2.2.1), P.al, P.al, fun a ⟨k, h⟩ => ?_, fun _ h => h, by rw [argE1_len hE, List.length_map, rel_len hR], fun k e he => ?_, fun k p hp => ?_, fun i j e f a e1 e2 e3 e4 => ?_⟩, fun k p hp => ?_, hv⟩
  · obtain ⟨i, _, h⟩ := rA k a h
    exact P.ts a (P.slS h).1
  · rcases argE1_get hE he with ⟨p, e1, rfl⟩ | ⟨i, p, e1, rfl, hp⟩
    · obtain ⟨v, e2, r⟩ := rel_get hR e1
      exact ⟨v, by rw [List.getElem?_map, e2]; rfl, r⟩
    · obtain ⟨a, ha, t⟩ : ∃ a, slA A own ρ i = some a ∧ Top K S H a p := by
        rcases hp with hp | hp
        · obtain ⟨z1, z2, z3⟩ := P.sl i _ hp
          exact ⟨own i, by unfold slA; rw [hp]; rfl, z3⟩
        · obtain ⟨a, z0, z1, z2, z3⟩ := P.sl i _ hp
          exact ⟨a, by unfold slA; rw [hp]; exact z0, z3⟩
      have hr : refA A own ρ as k = some a := by unfold refA; rw [e1]; exact ha
      exact ⟨a, hr, by rw [List.getElem?_map, hv k a hr]; rfl, ⟨k, hr⟩, t⟩
  · rcases argE1_get hE hp with ⟨_, _, z⟩ | ⟨_, _, _, z, _⟩ <;> cases z
  · rcases argE1_get hE e1 with ⟨p, a1, rfl⟩ | ⟨i1, p, a1, rfl, hp⟩
    · cases e3
    · rcases argE1_get hE e2 with ⟨q, a2, rfl⟩ | ⟨i2, q, a2, rfl, hq⟩
      · cases e4
      · have e3 : refA A own ρ as i = some a := e3
        have e4 : refA A own ρ as j = some a := e4
        obtain ⟨x1, y1, z1⟩ := rA i a e3
        obtain ⟨x2, y2, z2⟩ := rA j a e4
        have : x1 = x2 := by
          unfold slA at z1 z2
          cases w1 : ρ[x1]? with
          | none => rw [w1] at z1; cases z1
          | some f1 =>
            cases w2 : ρ[x2]? with
            | none => rw [w2] at z2; cases z2
            | some f2 => rw [w1] at z1; rw [w2] at z2; exact P.dj x1 x2 f1 f2 a w1 w2 z1 z2
        subst this
        exact rfs_nodup hnd y1 y2
  · rcases argE1_get hE hp with ⟨_, _, z⟩ | ⟨_, _, _, z, _⟩ <;> cases z
/-- what stands in the slots behind a call -/
theorem back_get : ∀ {as : List AV} {ρb ρ ρ' : Env}, (rfs as).Nodup → back as ρb ρ = some ρ' → ρ'.length = ρ.length ∧ ∀ (i : Nat) (e : EV), ρ'[i]? = some e → (i ∉ rfs as ∧ ρ[i]? = some e) ∨ ∃ (k : Nat) (p : PV), as[k]? = some (AV.r i) ∧ ρb[k]? = some (EV.io p) ∧ ((∃ q, ρ[i]? = some (EV.ow q) ∧ e = EV.ow p) ∨ (∃ q, ρ[i]? = some (EV.io q) ∧ e = EV.io p))
  | [], [], ρ, ρ', _, h => by cases h; exact ⟨rfl, fun i e he => ((.inl ⟨fun z => (by cases z), he⟩))⟩
  | [], _ :: _, _, _, _, h => by cases h
  | .e _ :: _, [], _, _, _, h => by cases h
  | .r _ :: _, [], _, _, _, h => by cases h
  | .e _ :: as, b :: ρb, ρ, ρ', hn, h => by
    obtain ⟨h1, h2⟩ := back_get (as := as) hn h
    refine ⟨h1, fun i e he => ?_⟩
    rcases h2 i e he with h | ⟨k, p, a, b, c⟩
    · exact .inl h
    · exact .inr ⟨k + 1, p, by simpa using a, by simpa using b, c⟩
  | .r j :: as, b :: ρb, ρ, ρ', hn, h => by
    cases b with
    | io p =>
      unfold back at h
      obtain ⟨hj, hn⟩ := List.nodup_cons.mp hn
      cases hp : putE j p ρ with
      | none => rw [hp] at h; cases h
      | some ρ1 =>
        rw [hp] at h
        obtain ⟨h1, h2⟩ := back_get (as := as) hn h
        have hq : ∃ g, ρ1 = ρ.set j g ∧ ((∃ q, ρ[j]? = some (.ow q) ∧ g = .ow p) ∨ (∃ q, ρ[j]? = some (.io q) ∧ g = .io p)) := by
          unfold putE at hp
          split at hp
          · rename_i q e; cases hp; exact ⟨_, rfl, .inl ⟨q, e, rfl⟩⟩
          · rename_i q e; cases hp; exact ⟨_, rfl, .inr ⟨q, e, rfl⟩⟩
          · cases hp
        obtain ⟨g, rfl, hg⟩ := hq
        have hjl : j < ρ.length := by rcases hg with ⟨q, e, _⟩ | ⟨q, e, _⟩ <;> exact (List.getElem?_eq_some_iff.mp e).1
        refine ⟨h1.trans (List.length_set ..), fun i e he => ?_⟩
        rcases h2 i e he with ⟨hi, h⟩ | ⟨k, q, a, b, c⟩
        · by_cases hji : j = i
          · subst hji
            rw [List.getElem?_set, if_pos rfl, if_pos hjl] at h
            cases h
            exact .inr ⟨0, p, rfl, rfl, hg⟩
          · rw [List.getElem?_set, if_neg hji] at h
            exact .inl ⟨fun z => (List.mem_cons.mp z).elim (fun z => hji z.symm) hi, h⟩
        · have hi : i ∈ rfs as := mem_rfs a
          have hji : j ≠ i := fun z => hj (by rw [z]; exact hi)
          rw [List.getElem?_set, if_neg hji] at c
          exact .inr ⟨k + 1, q, by simpa using a, by simpa using b, c⟩
    | _ => cases h
/-- the state behind a call -/
theorem PSt.leave (P : PSt K H0 A Z T S own σ H ρ) (hE : argE as ρ = some ρa) (hR : RelA K S σ H as vs) (P' : PSt K H (refA A own ρ as) S (fun a => ∃ k, refA A own ρ as k = some a) S2 own (vs.map some) H' ρb) (h2 : ∀ s, S2 s → S s ∨ H s = none) (hb : back as ρb ρ = some ρ') :
    PSt K H0 A Z T S2 own σ H' ρ' ∧ Keep T H H' := by
  have hnd : (rfs as).Nodup := by
    unfold argE at hE
    split at hE
    · rename_i h; exact h
    · cases hE
  have rA : ∀ k a, refA A own ρ as k = some a → ∃ i, as[k]? = some (.r i) ∧ slA A own ρ i = some a := fun k a h => by
    unfold refA at h
    split at h
    · rename_i i e; exact ⟨i, e, h⟩
    · cases h
  have kT : Keep T H H' := fun b o h n => P'.kp b o h fun k z => by
    obtain ⟨i, _, z⟩ := rA k b z
    exact n (P.slS z).1
  have kS : Keep S H H' := kT.up P.ts
  obtain ⟨hl, hget⟩ := back_get hnd hb
  have stay : ∀ i a, i ∉ rfs as → slA A own ρ i = some a → ∀ o, H a = some o → H' a = some o := fun i a hi ha o ho => P'.kp a o ho fun k z => by
    obtain ⟨j, hj, z⟩ := rA k a z
    have : i = j := by
      unfold slA at ha z
      cases w1 : ρ[i]? with
      | none => rw [w1] at ha; cases ha
      | some f1 =>
        cases w2 : ρ[j]? with
        | none => rw [w2] at z; cases z
        | some f2 => rw [w1] at ha; rw [w2] at z; exact P.dj i j f1 f2 a w1 w2 ha z
    subst this
    exact hi (mem_rfs hj)
  refine ⟨⟨fun b o h n => ?_, P.ia, P.i0, P.z0, P'.al, fun s z => P'.zs s (P.ts s z), fun s z => P'.zs s (P.zs s z), hl.trans P.ln, fun i e he => ?_, fun i p hp => ?_, fun i j e f a e1 e2 e3 e4 => ?_⟩, kT⟩
  · refine P'.kp b o (P.kp b o h n) fun k z => ?_
    obtain ⟨i, _, z⟩ := rA k b z
    rcases (P.slS z).2.2.2 with z | z
    · rw [z] at h; cases h
    · exact n i z
  · rcases hget i e he with ⟨hi, h⟩ | ⟨k, p, a, b, c⟩
    · have := P.sl i e h
      cases e with
      | no => trivial
      | fr p => obtain ⟨v, e1, r⟩ := this; exact ⟨v, e1, r.fut kS h2⟩
      | ow p =>
        obtain ⟨e1, h1, t⟩ := this
        exact ⟨e1, h1, t.keep kS h2 (stay i _ hi (by unfold slA; rw [h]; rfl))⟩
      | io p =>
        obtain ⟨c, z, e1, h1, t⟩ := this
        exact ⟨c, z, e1, h1, t.keep kS h2 (stay i _ hi (by unfold slA; rw [h]; exact z))⟩
    · obtain ⟨ad, ha, _, _, t⟩ := P'.sl k _ b
      have hr : refA A own ρ as k = slA A own ρ i := by unfold refA; rw [a]
      rw [hr] at ha
      rcases c with ⟨q, hq, rfl⟩ | ⟨q, hq, rfl⟩
      · obtain ⟨e1, h1, _⟩ := P.sl i _ hq
        unfold slA at ha
        rw [hq] at ha
        cases ha
        exact ⟨e1, h1, t⟩
      · obtain ⟨c, z, e1, h1, _⟩ := P.sl i _ hq
        unfold slA at ha
        rw [hq] at ha
        have ha : A i = some ad := ha
        rw [ha] at z
        cases z
        exact ⟨ad, ha, e1, h1, t⟩
  · rcases hget i _ hp with ⟨hi, h⟩ | ⟨k, q, a, b, ⟨r, hr, _⟩ | ⟨r, hr, z⟩⟩
    · exact P.fr i p h
    · exact P.fr i r hr
    · cases z
  · have tag : ∀ (i : Nat) (e : EV), ρ'[i]? = some e → ∀ a, e.adr (A i) (own i) = some a → ∃ f : EV, ρ[i]? = some f ∧ f.adr (A i) (own i) = some a := fun i e he a ha => by
      rcases hget i e he with ⟨hi, h⟩ | ⟨k, q, _, _, ⟨r, hr, rfl⟩ | ⟨r, hr, rfl⟩⟩
      · exact ⟨e, h, ha⟩
      · exact ⟨_, hr, ha⟩
      · exact ⟨_, hr, ha⟩
    obtain ⟨f1, g1, g2⟩ := tag i e e1 a e3
    obtain ⟨f2, g3, g4⟩ := tag j f e2 a e4
    exact P.dj i j f1 f2 a g1 g3 g2 g4
end
/-- a fresh object's content, seen as a value -/
theorem top_rep {K : PySem.W.Frag} {S : Addr → Prop} {H : Hp} {a : Addr} (n : ¬ S a) : ∀ {p : PV}, Top K (Sand S a) H a p → Rep K S H p (.ref a)
  | .lst _, ⟨vs, h, r⟩ => ⟨a, vs, rfl, n, h, r.fut .refl fun _ z => .inl (.inl z)⟩
  | .dic _, ⟨vs, h, r⟩ => ⟨a, vs, rfl, n, h, r.fut .refl fun _ z => .inl (.inl z)⟩
  | .obj _ _, ⟨dx, vs, h, r⟩ => ⟨a, dx, vs, rfl, n, h, r.fut .refl fun _ z => .inl (.inl z)⟩
theorem call_imp {K : PySem.W.Frag} {E : L2.St → XK} {n : Nat} {g : Fn} {as : List AV} {ρ1 : Env} {vs : List V} {H0 : Hp} {A : Nat → Option Addr} {Z T S : Addr → Prop} {own : Nat → Addr} {σ : L2.St} {H1 : Hp} {Q : VK} (P1 : PSt K H0 A Z T S own σ H1 ρ1) (hR : RelA K S σ H1 as vs) (hn : as.length = n)
    (h : okR K H0 A Z T S own σ E H1 ((callR g as ρ1).bind fun w => ofO (frz w.1) w.2) fun p H' => ∀ v, Rep K S H' p v → Q v H') : spG K n g vs H1 Q (E σ) := by
  unfold callR at h
  cases hE : argE as ρ1 with
  | none => rw [hE] at h; exact h.elim
  | some ρa =>
  rw [hE] at h
  dsimp only at h
  obtain ⟨PE, now, hA⟩ := P1.enter hE hR
  refine ⟨refA A own ρ1 as, _, S, own, ρa, (rel_len hR).trans hn, PE, now, hA, ?_⟩
  match hg : g ρa with
  | .ok (.fr p, ρb) =>
    rw [hg] at h
    intro H' v P' r
    cases hb : back as ρb ρ1 with
    | none => dsimp only at h; rw [hb] at h; exact h.elim
    | some ρ' =>
      dsimp only at h
      rw [hb] at h
      obtain ⟨P2, k⟩ := P1.leave hE hR P' (fun _ z => .inl z) hb
      exact h H' P2 k v r
  | .ok (.ow p, ρb) =>
    rw [hg] at h
    intro H' a P' h0 t
    cases hb : back as ρb ρ1 with
    | none => dsimp only at h; rw [hb] at h; exact h.elim
    | some ρ' =>
      dsimp only at h
      rw [hb] at h
      obtain ⟨P2, k⟩ := P1.leave hE hR P' (fun s z => z.imp id fun e => by rw [e]; exact h0) hb
      exact h H' (P2.less (fun _ z => .inl z) P1.ts P1.zs) k _ (top_rep (P1.new h0) t)
  | .ok (.no, ρb) =>
    rw [hg] at h
    dsimp only at h
    cases hb : back as ρb ρ1 with
    | none => rw [hb] at h; exact h.elim
    | some ρ' => rw [hb] at h; exact h.elim
  | .ok (.io p, ρb) =>
    rw [hg] at h
    dsimp only at h
    cases hb : back as ρb ρ1 with
    | none => rw [hb] at h; exact h.elim
    | some ρ' => rw [hb] at h; exact h.elim
  | .err e ρb =>
    rw [hg] at h
    intro H' d P' hd
    cases hb : back as ρb ρ1 with
    | none => dsimp only at h; rw [hb] at h; exact h.elim
    | some ρ' =>
      dsimp only at h
      rw [hb] at h
      obtain ⟨P2, k⟩ := P1.leave hE hR P' (fun _ z => .inl z) hb
      exact h d H' P2 k hd
  | .bad => rw [hg] at h; exact h.elim
section
variable {X : Cx} {E : L2.St → XK} {e : Expr} {es : List Expr} {x : Str} {p pos : Pos} {fa : FAs} {n k j : Nat} {g : Fn}
theorem asLen_ok {K : PySem.W.Frag} {σ : L2.St} {H : Hp} {Q : VK} (hn : ∀ ρ w, fa ρ = .ok w → w.1.length = n) (h : pE K E (fCall g fa) σ H Q) : tCallS (spG K n g) E (pAs K E fa) σ H Q := by
  obtain ⟨H0, A, Z, T, S, own, ρ, P, h⟩ := h
  refine ⟨H0, A, Z, T, S, own, ρ, P, ?_⟩
  have h := h.bnd
  cases e : fa ρ with
  | ok w =>
    rw [e] at h
    intro H1 P1 k1 vs hR
    obtain ⟨ρ1, P1', k1', h1⟩ := h H1 P1 k1
    exact call_imp P1' hR (hn ρ w e) h1
  | err e' ρ' => rw [e] at h; exact h
  | bad => rw [e] at h; exact h
/-- f(..), f of one's own -/
theorem ue_call (c : CaX X.prog X.w X.K X.mg X.base k x (spG X.K n g)) (hr : Room j X.A) (hk : k ≤ j) (hg : Gl X x) (hx : ∀ σ, PassesAt (L2.CX X.prog X.w) X σ (E σ)) (ha : PA X (e :: es) (pAs X.K E fa)) (hn : ∀ ρ w, fa ρ = .ok w → w.1.length = n)
    (hdb : (x == ("__debug__" : Str)) = false := by decide) (he : starEach (e :: es) X.env = (false, eval e X.env) :: starEach es X.env := by rfl) (hpl : (backTo pos (starEach es X.env)).any (·.1) = false := by rfl) :
    PE X (.Call (.Name x p) (e :: es) [] pos) (pE X.K E (fCall g fa)) := (pe_cS c hr hk hg hx ha hdb he hpl).imp fun _ _ _ => asLen_ok hn
end
theorem aNil_len {ρ : Env} {w : List AV × Env} (h : aNil ρ = .ok w) : w.1.length = 0 := by cases h; rfl
theorem aCons_len {f : FE} {r : FAs} {n : Nat} (hr : ∀ ρ w, r ρ = .ok w → w.1.length = n) : ∀ ρ w, aCons f r ρ = .ok w → w.1.length = n + 1 := fun ρ w h => by
  unfold aCons at h
  cases e : f ρ with
  | ok z =>
    rw [e] at h
    have h : (r z.2).bind (fun w => Res.ok (AV.e z.1 :: w.1, w.2)) = .ok w := h
    cases e2 : r z.2 with
    | ok u => rw [e2] at h; cases h; exact congrArg Nat.succ (hr _ _ e2)
    | err _ _ => rw [e2] at h; cases h
    | bad => rw [e2] at h; cases h
  | err _ _ => rw [e] at h; cases h
  | bad => rw [e] at h; cases h
theorem aRef_len {i : Nat} {r : FAs} {n : Nat} (hr : ∀ ρ w, r ρ = .ok w → w.1.length = n) : ∀ ρ w, aRef i r ρ = .ok w → w.1.length = n + 1 := fun ρ w h => by
  have key : ∀ w, ((r ρ).bind fun w => Res.ok (AV.r i :: w.1, w.2)) = .ok w → w.1.length = n + 1 := fun w h => by
    cases e2 : r ρ with
    | ok u => rw [e2] at h; cases h; exact congrArg Nat.succ (hr _ _ e2)
    | err _ _ => rw [e2] at h; cases h
    | bad => rw [e2] at h; cases h
  unfold aRef at h
  split at h
  · exact key w h
  · exact key w h
  · cases h
end Ev
namespace Ev
open PySem PySem.Spec PyProof.Rows L2
def rPn (K : PySem.W.Frag) (g : List PV → Option PV) : List V → Hp → VK → Prop := fun vs H Q => ∃ S ps z, (∀ s, S s → ∃ o, H s = some o) ∧ Small K H ∧ Reps K S H ps vs ∧ g ps = some z ∧ ∀ v H', Same H H' → Rep K S H' z v → Q v H'
def fB (g : List PV → Option PV) (ra : FA) : FE := fun ρ => (ra ρ).bind fun z => ofO (g z.1) z.2
abbrev PCall (X : Cx) (f : Value) (g : List PV → Option PV) : Prop := CallR X f (rPn X.K g)
section
variable {X : Cx} {E : L2.St → XK} {e : Expr} {es : List Expr} {x : Str} {p pos : Pos} {ra : FA} {g : List PV → Option PV} {id T : String} {f : Value}
theorem pc_of {r : List V → Hp → VK → Prop} (h : CallR X f r) (i : ∀ (S : Addr → Prop) (ps : List PV) (z : PV) (vs : List V) (H : Hp) (Q : VK), (∀ s, S s → ∃ o, H s = some o) → Small X.K H → Reps X.K S H ps vs → g ps = some z → (∀ v H', Same H H' → Rep X.K S H' z v → Q v H') → r vs H Q) : PCall X f g :=
  fun pins s σ H vs us Q I r1 ⟨S, ps, z, al, sm, h1, e, k⟩ => h pins s σ H vs us Q I r1 (i S ps z vs H Q al sm h1 e k)
theorem tcb_imp {σ : L2.St} {H : Hp} {Q : VK} (h : pE X.K E (fB g ra) σ H Q) : (fun σ H Q => pA X.K E ra σ H fun vs H1 => Small X.K H1 → rPn X.K g vs H1 Q) σ H Q := by
  obtain ⟨H0, A, Z, T, S, own, ρ, P, h⟩ := h
  refine ⟨H0, A, Z, T, S, own, ρ, P, h.bnd.mono ?_⟩
  rintro ps H1 - ⟨ρ1, P1, k1, h1⟩ vs r1 sm
  obtain ⟨z, e, k⟩ := ofO_ok P1 h1
  exact ⟨S, ps, z, P1.al, sm, r1, e, fun u H' s r => k H' s u r⟩
theorem ue_callB (hc : PCall X (.builtin id) g) (hg : Gl X x) (hm : X.mg x = none) (hv : bootBuiltins x = some (.builtin id)) (ha : PA X (e :: es) (pA X.K E ra)) (hn : x ≠ "__name__" := by decide) (hdb : (x == ("__debug__" : Str)) = false := by decide)
    (he : starEach (e :: es) X.env = (false, eval e X.env) :: starEach es X.env := by rfl) (hpl : (backTo pos (starEach es X.env)).any (·.1) = false := by rfl) : PE X (.Call (.Name x p) (e :: es) [] pos) (pE X.K E (fB g ra)) := (pe_callB hc hg hm hv ha.small hn hdb he hpl).imp fun _ _ _ h => tcb_imp h
theorem ue_callTy (hc : PCall X (.type T) g) (hg : Gl X x) (hm : X.mg x = none) (hv : bootBuiltins x = some (.type T)) (ha : PA X (e :: es) (pA X.K E ra)) (hn : x ≠ "__name__" := by decide) (hdb : (x == ("__debug__" : Str)) = false := by decide)
    (he : starEach (e :: es) X.env = (false, eval e X.env) :: starEach es X.env := by rfl) (hpl : (backTo pos (starEach es X.env)).any (·.1) = false := by rfl) : PE X (.Call (.Name x p) (e :: es) [] pos) (pE X.K E (fB g ra)) := (pe_callTy hc hg hm hv ha.small hn hdb he hpl).imp fun _ _ _ h => tcb_imp h
end
def bLen : List PV → Option PV
  | [.lst xs] => some (.int xs.length)
  | [.scr xs] => some (.int xs.length)
  | [.tup xs] => some (.int xs.length)
  | [.str z] => if z.length ≤ sizeLine then some (.int z.length) else none
  | _ => none
def boolsOf : List PV → Option (List Bool)
  | [] => some []
  | .bl b :: ps => (boolsOf ps).map (b :: ·)
  | _ :: _ => none
def bAll : List PV → Option PV
  | [.lst xs] => (boolsOf xs).map fun bs => .bl (bs.all id)
  | _ => none
def bSum : List PV → Option PV
  | [.lst xs] => (intsOf xs).map fun ns => .int ns.sum
  | _ => none
def minI : List Int → Int
  | [] => 0
  | [a] => a
  | a :: as => if a ≤ minI as then a else minI as
theorem minI_ok : ∀ {ns : List Int}, ns ≠ [] → minI ns ∈ ns ∧ ∀ y ∈ ns, minI ns ≤ y
  | [], h => absurd rfl h
  | [a], _ => ⟨List.mem_singleton.mpr rfl, fun y hy => by rw [List.mem_singleton.mp hy]; exact Int.le_refl a⟩
  | a :: b :: as, _ => by
    obtain ⟨h1, h2⟩ := minI_ok (ns := b :: as) (by simp)
    have e : minI (a :: b :: as) = if a ≤ minI (b :: as) then a else minI (b :: as) := rfl
    rw [e]
    split
    · rename_i h
      refine ⟨List.mem_cons_self, fun y hy => ?_⟩
      rcases List.mem_cons.mp hy with rfl | hy
      · exact Int.le_refl _
      · exact Int.le_trans h (h2 y hy)
    · rename_i h
      refine ⟨List.mem_cons_of_mem _ h1, fun y hy => ?_⟩
      rcases List.mem_cons.mp hy with rfl | hy
      · omega
      · exact h2 y hy
def bMin : List PV → Option PV
  | [.lst xs] => (intsOf xs).bind fun ns => if ns = [] then none else some (.int (minI ns))
  | [.int i, .int j] => some (.int (if j < i then j else i))
  | _ => none
def bAbs : List PV → Option PV
  | [.int i] => some (.int (if i < 0 then -i else i))
  | _ => none
def bInt : List PV → Option PV
  | [.int i] => some (.int i)
  | [.bl b] => some (.int (if b then 1 else 0))
  | _ => none
def bList : List PV → Option PV
  | [.lst xs] => some (.lst xs)
  | [.scr xs] => some (.lst xs)
  | [.tup xs] => some (.lst xs)
  | _ => none
def bTuple : List PV → Option PV
  | [.lst xs] => some (.tup xs)
  | [.scr xs] => some (.tup xs)
  | [.tup xs] => some (.tup xs)
  | _ => none
section
variable {X : Cx} {K : PySem.W.Frag} {S : Addr → Prop} {H : Hp}
theorem bools_rep : ∀ {ps : List PV} {bs : List Bool} {vs : List V}, boolsOf ps = some bs → Reps K S H ps vs → vs = bs.map V.bl
  | [], _, _, e, h => by cases e; cases h; rfl
  | p :: ps, bs, _, e, h => by
    obtain ⟨v, r, rfl, h1, h2⟩ := h
    cases p <;> try (cases e; done)
    unfold boolsOf at e
    obtain ⟨ms, e1, e2⟩ := Option.map_eq_some_iff.mp e
    subst e2
    cases h1
    rw [bools_rep e1 h2]
    rfl
theorem reps_ints : ∀ ns : List Int, Reps K S H (ns.map PV.int) (ns.map V.int)
  | [] => rfl
  | n :: ns => ⟨_, _, rfl, rfl, reps_ints ns⟩
theorem one_rep {p : PV} {vs : List V} (h : Reps K S H [p] vs) : ∃ v, vs = [v] ∧ Rep K S H p v := by
  obtain ⟨v, r, rfl, h1, h2⟩ := h
  cases h2
  exact ⟨v, rfl, h1⟩
theorem two_rep {p q : PV} {vs : List V} (h : Reps K S H [p, q] vs) : ∃ v w, vs = [v, w] ∧ Rep K S H p v ∧ Rep K S H q w := by
  obtain ⟨v, r, rfl, h1, h2⟩ := h
  obtain ⟨w, rfl, h3⟩ := one_rep h2
  exact ⟨v, w, rfl, h1, h3⟩
theorem pc_len : PCall X (.builtin "len") bLen := pc_of (call_len_seq.or call_len_str) (by
  intro S ps z vs H Q al sm h e k
  unfold bLen at e
  split at e
  · cases e
    obtain ⟨v, rfl, a, ws, rfl, na, ha, ra⟩ := one_rep h
    exact .inl ⟨a, ws, rfl, .inl (SqL.of ha), by rw [← ra.len]; exact k _ _ (.refl _) rfl⟩
  · cases e
    obtain ⟨v, rfl, a, ws, rfl, ha, ra⟩ := one_rep h
    exact .inl ⟨a, ws, rfl, .inl (sqL_of ha), by rw [← ra.len]; exact k _ _ (.refl _) rfl⟩
  · cases e
    obtain ⟨v, rfl, a, ws, rfl, ha, ra⟩ := one_rep h
    exact .inl ⟨a, ws, rfl, .inr (sqT_of ha), by rw [← ra.len]; exact k _ _ (.refl _) rfl⟩
  · split at e
    · rename_i hz
      cases e
      obtain ⟨v, rfl, h3⟩ := one_rep h
      cases h3
      exact .inr ⟨_, rfl, hz, k _ _ (.refl _) rfl⟩
    · cases e
  · cases e)
theorem pc_all (hc : X.calm = true) : PCall X (.builtin "all") bAll := pc_of (cr_all hc) (by
  intro S ps z vs H Q al sm h e k
  unfold bAll at e
  split at e
  · obtain ⟨bs, e1, e2⟩ := Option.map_eq_some_iff.mp e
    subst e2
    obtain ⟨v, rfl, a, ws, rfl, na, ha, ra⟩ := one_rep h
    obtain rfl := bools_rep e1 ra
    exact ⟨a, bs, rfl, SqL.of ha, k _ _ (.refl _) rfl⟩
  · cases e)
theorem pc_sum (hc : X.calm = true) : PCall X (.builtin "sum") bSum := pc_of (cr_sum hc) (by
  intro S ps z vs H Q al sm h e k
  unfold bSum at e
  split at e
  · obtain ⟨ns, e1, e2⟩ := Option.map_eq_some_iff.mp e
    subst e2
    obtain ⟨v, rfl, a, ws, rfl, na, ha, ra⟩ := one_rep h
    obtain rfl := ints_rep e1 ra
    exact ⟨a, ns, rfl, SqL.of ha, k _ _ (.refl _) rfl⟩
  · cases e)
theorem pc_min (hc : X.calm = true) : PCall X (.builtin "min") bMin := pc_of ((cr_min hc).or (call_min2 hc)) (by
  intro S ps z vs H Q al sm h e k
  unfold bMin at e
  split at e
  · obtain ⟨ns, e1, e2⟩ := Option.bind_eq_some_iff.mp e
    split at e2
    · cases e2
    · rename_i hne
      cases e2
      obtain ⟨v, rfl, a, ws, rfl, na, ha, ra⟩ := one_rep h
      obtain rfl := ints_rep e1 ra
      refine .inl ⟨a, ns, rfl, SqL.of ha, List.length_pos_iff.mpr hne, fun m hm hle => ?_⟩
      obtain ⟨m1, m2⟩ := minI_ok hne
      have : m = minI ns := Int.le_antisymm (hle _ m1) (m2 m hm)
      rw [this]
      exact k _ _ (.refl _) rfl
  · cases e
    obtain ⟨v, w, rfl, h1, h2⟩ := two_rep h
    cases h1; cases h2
    exact .inr ⟨_, _, rfl, k _ _ (.refl _) rfl⟩
  · cases e)
theorem pc_abs : PCall X (.builtin "abs") bAbs := pc_of call_abs (by
  intro S ps z vs H Q al sm h e k
  unfold bAbs at e
  split at e
  · cases e
    obtain ⟨v, rfl, h3⟩ := one_rep h
    cases h3
    exact ⟨_, rfl, k _ _ (.refl _) rfl⟩
  · cases e)
theorem pc_int : PCall X (.type "int") bInt := pc_of call_int1 (by
  intro S ps z vs H Q al sm h e k
  unfold bInt at e
  split at e
  · cases e
    obtain ⟨v, rfl, h3⟩ := one_rep h
    cases h3
    exact .inl ⟨_, rfl, k _ _ (.refl _) rfl⟩
  · cases e
    obtain ⟨v, rfl, h3⟩ := one_rep h
    cases h3
    exact .inr ⟨_, rfl, k _ _ (.refl _) rfl⟩
  · cases e)
theorem pc_list : PCall X (.type "list") bList := pc_of call_list_of (by
  intro S ps z vs H Q al sm h e k
  unfold bList at e
  split at e
  · cases e
    obtain ⟨v, rfl, a, ws, rfl, na, ha, ra⟩ := one_rep h
    exact ⟨a, ws, rfl, .inl (SqL.of ha), fun l hl => k _ _ (same_new hl) (rep_new_lst al hl ra)⟩
  · cases e
    obtain ⟨v, rfl, a, ws, rfl, ha, ra⟩ := one_rep h
    exact ⟨a, ws, rfl, .inl (sqL_of ha), fun l hl => k _ _ (same_new hl) (rep_new_lst al hl ra)⟩
  · cases e
    obtain ⟨v, rfl, a, ws, rfl, ha, ra⟩ := one_rep h
    exact ⟨a, ws, rfl, .inr (sqT_of ha), fun l hl => k _ _ (same_new hl) (rep_new_lst al hl ra)⟩
  · cases e)
theorem pc_tuple : PCall X (.type "tuple") bTuple := pc_of call_tuple_of (by
  intro S ps z vs H Q al sm h e k
  unfold bTuple at e
  split at e
  · cases e
    obtain ⟨v, rfl, a, ws, rfl, na, ha, ra⟩ := one_rep h
    exact ⟨a, ws, rfl, .inl ⟨SqL.of ha, fun l hl => k _ _ (same_new hl) (rep_new_tup al hl ra)⟩⟩
  · cases e
    obtain ⟨v, rfl, a, ws, rfl, ha, ra⟩ := one_rep h
    exact ⟨a, ws, rfl, .inl ⟨sqL_of ha, fun l hl => k _ _ (same_new hl) (rep_new_tup al hl ra)⟩⟩
  · cases e
    obtain ⟨v, rfl, a, ws, rfl, ha, ra⟩ := one_rep h
    exact ⟨a, ws, rfl, .inr ⟨sqT_of ha, k _ _ (.refl _) ⟨a, ws, rfl, ha, ra⟩⟩⟩
  · cases e)
end
structure Clss (K : PySem.W.Frag) (cs : List Str) : Prop where
  g : ∀ c ∈ cs, GrT K (He.ga K c)
  x : ∀ c ∈ cs, ∀ d ∈ cs, PySem.W.kitOne K (.ref (He.ga K c)) (.ref (He.ga K d)) = some (decide (c = d))
inductive PT1 where
  | t (g : Tg)
  | c (n : Str)
  deriving DecidableEq
def kindOf (cs : List Str) : PV → Option PT1
  | .non => some (.t .non)
  | .bl _ => some (.t .bl)
  | .int _ => some (.t .int)
  | .str _ => some (.t .str)
  | .tup _ => some (.t .tup)
  | .lst _ => some (.t .lst)
  | .obj c _ => if c ∈ cs then some (.c c) else none
  | _ => none
def PT1.v (K : PySem.W.Frag) : PT1 → Value
  | .t g => .type g.s
  | .c nm => .ref (He.ga K nm)
def PT1.is : PT1 → PT1 → Bool
  | .t g, .t n => g.is n
  | .c nm, .c nn => decide (nm = nn)
  | _, _ => false
def PT1.okT (cs : List Str) : PT1 → Bool
  | .t g => decide (g ≠ .gr) && decide (g ≠ .non)
  | .c nm => decide (nm ∈ cs)
section
variable {X : Cx} {E : L2.St → XK} {K : PySem.W.Frag} {S : Addr → Prop} {H : Hp} {cs : List Str}
theorem kind_ty (C : Clss K cs) {p : PV} {v : V} {k : PT1} (e : kindOf cs p = some k) (h : Rep K S H p v) : TyX K H v (k.v K) ∧ (k = .t .gr → False) := by
  cases p with
  | non => cases e; cases h; exact ⟨.base .non, fun z => nomatch z⟩
  | bl b => cases e; cases h; exact ⟨.base (.bl b), fun z => nomatch z⟩
  | int b => cases e; cases h; exact ⟨.base (.int b), fun z => nomatch z⟩
  | str b => cases e; cases h; exact ⟨.base (.str b), fun z => nomatch z⟩
  | tup b =>
    cases e
    obtain ⟨a, vs, rfl, h, _⟩ := h
    refine ⟨?_, fun z => nomatch z⟩
    rcases h with ⟨_, h | ⟨o, h⟩⟩ | ⟨o, its, n, h1, h2, _⟩
    · exact .base (.tup h)
    · exact .fTuple h
    · exact .kTuple h1 h2
  | lst b =>
    cases e
    obtain ⟨a, vs, rfl, _, h, _⟩ := h
    exact ⟨.base (.lst h), fun z => nomatch z⟩
  | scr b => cases e
  | dic b => cases e
  | obj c fs =>
    unfold kindOf at e
    dsimp only at e
    split at e
    · rename_i hc
      cases e
      obtain ⟨a, dx, vfs, rfl, _, h, _⟩ := h
      have G := C.g c hc
      exact ⟨.base (.ins h G.cl G.ha G.hn G.htk G.hm), fun z => nomatch z⟩
    · cases e
theorem kind_kit (C : Clss K cs) {p : PV} {k t : PT1} (e : kindOf cs p = some k) (ht : t.okT cs = true) : PySem.W.kitOne K (k.v K) (t.v K) = some (k.is t) := by
  have hk : (∃ g, k = .t g ∧ g ≠ .gr) ∨ ∃ c, k = .c c ∧ c ∈ cs := by
    cases p <;> first
      | (cases e; exact .inl ⟨_, rfl, by decide⟩)
      | (unfold kindOf at e; dsimp only at e; split at e
         · rename_i hc; cases e; exact .inr ⟨_, rfl, hc⟩
         · cases e)
      | cases e
  rcases hk with ⟨g, rfl, hg⟩ | ⟨c, rfl, hc⟩
  · cases t with
    | t n =>
      unfold PT1.okT at ht
      rw [Bool.and_eq_true, decide_eq_true_eq, decide_eq_true_eq] at ht
      have h1 := ht.1
      have h2 := ht.2
      cases g <;> cases n <;> first | exact absurd rfl h1 | exact absurd rfl h2 | exact absurd rfl hg | exact kit_ty (by decide +kernel)
    | c d =>
      unfold PT1.okT at ht
      rw [decide_eq_true_eq] at ht
      exact (C.g d ht).kb g hg
  · cases t with
    | t n =>
      unfold PT1.okT at ht
      rw [Bool.and_eq_true, decide_eq_true_eq, decide_eq_true_eq] at ht
      exact (C.g c hc).kg n ht.1 ht.2
    | c d =>
      unfold PT1.okT at ht
      rw [decide_eq_true_eq] at ht
      exact C.x c hc d ht
def pIsi (cs : List Str) (t : PT1) : PV → Option PV := fun p => (kindOf cs p).map fun k => .bl (k.is t)
def PT1.cv (K : PySem.W.Frag) : PT1 → V
  | .t g => .ty g.s
  | .c nm => .ref (He.ga K nm)
theorem clsV_of (t : PT1) : ClsV (t.cv K) (t.v K) := by cases t <;> constructor
/-- isinstance(e, T) -/
theorem ue_isi {e c : Expr} {x : Str} {p pos : Pos} {fa : FE} (t : PT1) (C : Clss X.K cs) (ht : t.okT cs = true) (hg : Gl X x) (hm : X.mg x = none) (hv : bootBuiltins x = some (.builtin "isinstance")) (ha : PE X e (pE X.K E fa)) (hc : PE X c (tC (t.cv X.K))) (hn : x ≠ "__name__" := by decide) (hdb : (x == ("__debug__" : Str)) = false := by decide)
    (he : starEach [e, c] X.env = (false, eval e X.env) :: starEach [c] X.env := by rfl) (he2 : starEach [c] X.env = (false, eval c X.env) :: starEach [] X.env := by rfl) (hpl : (backTo pos (starEach [c] X.env)).any (·.1) = false := by rfl) : PE X (.Call (.Name x p) [e, c] [] pos) (pE X.K E (fUn (pIsi cs t) fa)) :=
  (pe_callB call_isi hg hm hv (pa_cons ha (pa_cons hc pa_nil he2) he) hn hdb he hpl).imp (by
    rintro σ H Q ⟨H0, A, Z, T, S, own, ρ, P, h⟩
    refine ⟨H0, A, Z, T, S, own, ρ, P, h.bnd.mono ?_⟩
    rintro p H1 - ⟨ρ1, P1, k1, h1⟩ v r1
    obtain ⟨z, e, k⟩ := ofO_ok P1 h1
    obtain ⟨kd, e1, e2⟩ := Option.map_eq_some_iff.mp e
    subst e2
    exact ⟨v, _, _, _, _, rfl, clsV_of t, (kind_ty C e1 r1).1, kind_kit C e1 ht, k H1 (.refl _) _ rfl⟩)
def pIsi2 (cs : List Str) (t u : PT1) : PV → Option PV := fun p => (kindOf cs p).map fun k => .bl (k.is t || k.is u)
/-- isinstance(e, (T, U)) -/
theorem ue_isi2 {e c d : Expr} {x : Str} {p pos pos2 : Pos} {kk : Nat} {fa : FE} (t u : PT1) (C : Clss X.K cs) (ht : t.okT cs = true) (hu : u.okT cs = true) (hg : Gl X x) (hm : X.mg x = none) (hv : bootBuiltins x = some (.builtin "isinstance")) (ha : PE X e (pE X.K E fa)) (hc : PE X c (tC (t.cv X.K))) (hd : PE X d (tC (u.cv X.K))) (hn : x ≠ "__name__" := by decide) (hdb : (x == ("__debug__" : Str)) = false := by decide)
    (he : starEach [e, .Tuple [c, d] kk pos2] X.env = (false, eval e X.env) :: starEach [.Tuple [c, d] kk pos2] X.env := by rfl) (he2 : starEach [.Tuple [c, d] kk pos2] X.env = (false, eval (.Tuple [c, d] kk pos2) X.env) :: starEach [] X.env := by rfl) (hpl : (backTo pos (starEach [.Tuple [c, d] kk pos2] X.env)).any (·.1) = false := by rfl)
    (he3 : starEach [c, d] X.env = (false, eval c X.env) :: starEach [d] X.env := by rfl) (he4 : starEach [d] X.env = (false, eval d X.env) :: starEach [] X.env := by rfl) : PE X (.Call (.Name x p) [e, .Tuple [c, d] kk pos2] [] pos) (pE X.K E (fUn (pIsi2 cs t u) fa)) :=
  (pe_callB call_isiT hg hm hv (pa_cons ha (pa_cons (pe_tup (pa_cons hc (pa_cons hd pa_nil he4) he3)) pa_nil he2) he) hn hdb he hpl).imp (by
    rintro σ H Q ⟨H0, A, Z, T, S, own, ρ, P, h⟩
    refine ⟨H0, A, Z, T, S, own, ρ, P, h.bnd.mono ?_⟩
    rintro p H1 - ⟨ρ1, P1, k1, h1⟩ v r1
    obtain ⟨z, e, k⟩ := ofO_ok P1 h1
    obtain ⟨kd, e1, e2⟩ := Option.map_eq_some_iff.mp e
    subst e2
    refine ⟨(by show 2 ≤ sizeLine; decide), fun q hq => ?_⟩
    have s := same_new (o := .tup [t.cv X.K, u.cv X.K]) hq
    refine ⟨v, q, _, _, _, _, rfl, upd_same, .cons (clsV_of t) (.cons (clsV_of u) .nil), (kind_ty C e1 (r1.keep (.of s))).1, ?_, k _ s _ rfl⟩
    have k1 := kind_kit C e1 ht
    have k2 := kind_kit C e1 hu
    refine kitAny_cons k1 (fun e => ?_) (fun e => by rw [e]; rfl)
    refine kitAny_cons k2 (fun e' => ?_) (fun e' => by rw [e', Bool.or_true])
    rw [e, e']
    exact kitAny_nil)
end
end Ev
namespace Ev
open PySem PySem.Spec PyProof.Rows L2
end Ev
namespace Ev
open PySem PySem.Spec PyProof.Rows L2
structure TwoF (K : PySem.W.Frag) (C fI : Addr) (f1 f2 : Str) : Prop where
  ox : OexC K C
  n1 : PySem.W.findIn K (.ref C) f1 = some none
  n2 : PySem.W.findIn K (.ref C) f2 = some none
  iC : PySem.W.findIn K (.ref C) "__init__" = some (some (.ref fI))
  tI : PySem.W.typeIn K (.ref fI) = some (.type "function")
  xf : XfC K C
  ec : ExcC K C
def spTwo (K : PySem.W.Frag) (f1 f2 : Str) : Sp := fun vs H Q _ => ∃ (a C : Addr) (v1 v2 : V), vs = [.ref a, v1, v2] ∧ H a = some (exo a C none) ∧ OexC K C ∧ PySem.W.findIn K (.ref C) f1 = some none ∧ PySem.W.findIn K (.ref C) f2 = some none ∧
  ∀ dx, H dx = none → dx ≠ a → Q .non (upd (upd (upd H dx (exd dx [(f1, v1)])) a (exo a C (some dx))) dx (exd dx [(f2, v2), (f1, v1)]))
/-- what such a raise leaves -/
def TwoMade (f1 : Str) (v1 : V) (f2 : Str) (v2 : V) (H : Hp) (d : Option Addr) (H' : Hp) : Prop := ∃ dd, d = some dd ∧ H' dd = some (.xd [(f2, v2), (f1, v1)]) ∧ Same H H'
theorem two_end {K : PySem.W.Frag} {C fI : Addr} {f1 f2 : Str} (T : TwoF K C fI f1 f2) {v1 v2 : V} {H1 : Hp} {E : XK} (h : ∀ d H', TwoMade f1 v1 f2 v2 H1 d H' → E (.ref C) d H') :
    ∀ a, H1 a = none → spTwo K f1 f2 (.ref a :: ([v1, v2] ++ [])) (upd H1 a (exo a C none))
      (fun v H2 => v = .non ∧ ∃ (d : Addr) (fs : List (Str × V)), H2 a = some (exo a C (some d)) ∧ H2 d = some (exd d fs) ∧ H1 d = none ∧ E (.ref C) (some d) (upd (L2.del H2 a) d (.xd fs))) (fun _ _ _ => False) := by
  intro a ha
  refine ⟨a, C, v1, v2, rfl, upd_same, T.ox, T.n1, T.n2, fun dx hdx hne => ⟨rfl, dx, [(f2, v2), (f1, v1)], ?_, upd_same, ?_, ?_⟩⟩
  · rw [upd_ne hne.symm]; exact upd_same
  · rw [upd_ne hne] at hdx; exact hdx
  · refine h _ _ ⟨dx, rfl, upd_same, fun b o e => ?_⟩
    have hba : b ≠ a := ne_of_none e ha
    have hbd : b ≠ dx := fun z => by
      rw [← z, upd_ne hba, e] at hdx
      cases hdx
    rw [upd_ne hbd, L2.del_ne hba, upd_ne hbd, upd_ne hba, upd_ne hbd, upd_ne hba]
    exact e
theorem TwoMade.of {f1 f2 : Str} {v1 v2 : V} {H H1 H' : Hp} {d : Option Addr} (s : Same H H1) (h : TwoMade f1 v1 f2 v2 H1 d H') : TwoMade f1 v1 f2 v2 H d H' := by
  obtain ⟨dd, e, h1, h2⟩ := h
  exact ⟨dd, e, h1, s.trans h2⟩
structure ErrT2 (P : Program) (w : World) (K : PySem.W.Frag) (mg : Str → Option Value) (base : Heap) (x f1 f2 : Str) (C : Addr) : Prop where
  ex : ∃ (fI : Addr) (fd : FuncData), TwoF K C fI f1 f2 ∧ FnOk P w K mg base CX0 1 fI fd ["self", f1, f2] (spTwo K f1 f2) ∧ Binds K fd ["self", f1, f2] []
  g : mg x = some (.ref C)
def tErr2 (C : Addr) (f1 f2 : Str) (ta : TA) : L2.St → Hp → XK → Prop := fun σ H E => ta σ H fun vs H1 => ∃ v1 v2, vs = [v1, v2] ∧ ∀ d H', TwoMade f1 v1 f2 v2 H1 d H' → E (.ref C) d H'
section
variable {X : Cx} {j : Nat} {e e2 : Expr} {x f1 f2 : Str} {p pos : Pos} {t : TA} {C : Addr}
theorem pmk_err2 (Z : ErrT2 X.prog X.w X.K X.mg X.base x f1 f2 C) (hr : Room j X.A) (hk : 2 ≤ j) (hg : Gl X x) (ha : PA X [e, e2] t)
    (hdb : (x == ("__debug__" : Str)) = false := by decide) (he : starEach [e, e2] X.env = (false, eval e X.env) :: starEach [e2] X.env := by rfl) (hpl : (backTo pos (starEach [e2] X.env)).any (·.1) = false := by rfl) :
    PMk X (.Call (.Name x p) [e, e2] [] pos) (tErr2 C f1 f2 t) := by
  obtain ⟨fI, fd, T, F, b⟩ := Z.ex
  have m := pmk_oex (p := p) (pos := pos) T.ox T.iC T.tI F (hr.mono hk) b .nil pass0 hg Z.g (pa_weak ha) hdb he hpl
  intro pins s σ H Q I h
  refine m pins s σ H Q I ⟨_, h, ?_⟩
  rintro vs H1 ⟨v1, v2, rfl, hE⟩
  exact ⟨(by show 2 ≤ 1000; decide), two_end T hE⟩
end
end Ev
namespace Ev
open PySem PySem.Spec PyProof.Rows L2
def gRaise (c : Str) (fs : List Str) (ra : FA) : FS := fun ρ => (ra ρ).bind fun z => if z.1.length = fs.length then .err ⟨c, (fs.zip z.1).reverse⟩ z.2 else .bad
section
variable {X : Cx} {E : L2.St → XK} {e e2 : Expr} {x f f1 f2 c : Str} {p pos pos2 : Pos} {ra : FA} {j : Nat}
theorem us_raise1 (c : Str) (Z : ErrT X.prog X.w X.K X.mg X.base x f (He.ga X.K c)) (tk : Takes X (fun cls d σ H => E σ cls d H)) (hc : X.calm = true) (hr : Room j X.A) (hk : 2 ≤ j) (hg : Gl X x) (ha : PA X [e] (pA X.K E ra))
    (hdb : (x == ("__debug__" : Str)) = false := by decide) (he : starEach [e] X.env = (false, eval e X.env) :: starEach [] X.env := by rfl) (hpl : (backTo pos (starEach [] X.env)).any (·.1) = false := by rfl) :
    PS X (.Raise (some (.Call (.Name x p) [e] [] pos)) none pos2) (pS X.K E (gRaise c [f] ra)) := (ps_raise hc tk (pmk_err Z hr hk hg ha hdb he hpl)).imp (by
  rintro D σ H ⟨H0, A, Z, T, S, own, ρ, P, h⟩
  refine ⟨H0, A, Z, T, S, own, ρ, P, (okF.bnd P h).mono ?_⟩
  rintro ps H1 - ⟨ρ1, P1, k1, h1⟩ vs r1
  dsimp only at h1
  split at h1
  · rename_i hl
    match ps, hl, r1, h1 with
    | [q], _, r1, h1 =>
      obtain ⟨v, rfl, r⟩ := one_rep r1
      refine ⟨v, rfl, fun d H' hm => ?_⟩
      obtain ⟨dd, rfl, hd, s⟩ := hm
      exact h1 dd σ H' T S own (P1.same s) (.same (.of s)) ⟨_, hd, v, [], rfl, r.keep (.of s), rfl⟩
  · exact h1.elim)
theorem us_raise2 (c : Str) (Z : ErrT2 X.prog X.w X.K X.mg X.base x f1 f2 (He.ga X.K c)) (tk : Takes X (fun cls d σ H => E σ cls d H)) (hc : X.calm = true) (hr : Room j X.A) (hk : 2 ≤ j) (hg : Gl X x) (ha : PA X [e, e2] (pA X.K E ra))
    (hdb : (x == ("__debug__" : Str)) = false := by decide) (he : starEach [e, e2] X.env = (false, eval e X.env) :: starEach [e2] X.env := by rfl) (hpl : (backTo pos (starEach [e2] X.env)).any (·.1) = false := by rfl) :
    PS X (.Raise (some (.Call (.Name x p) [e, e2] [] pos)) none pos2) (pS X.K E (gRaise c [f1, f2] ra)) := (ps_raise hc tk (pmk_err2 Z hr hk hg ha hdb he hpl)).imp (by
  rintro D σ H ⟨H0, A, Z, T, S, own, ρ, P, h⟩
  refine ⟨H0, A, Z, T, S, own, ρ, P, (okF.bnd P h).mono ?_⟩
  rintro ps H1 - ⟨ρ1, P1, k1, h1⟩ vs r1
  dsimp only at h1
  split at h1
  · rename_i hl
    match ps, hl, r1, h1 with
    | [q1, q2], _, r1, h1 =>
      obtain ⟨v, w, rfl, r, r'⟩ := two_rep r1
      refine ⟨v, w, rfl, fun d H' hm => ?_⟩
      obtain ⟨dd, rfl, hd, s⟩ := hm
      exact h1 dd σ H' T S own (P1.same s) (.same (.of s)) ⟨_, hd, w, _, rfl, r'.keep (.of s), v, [], rfl, r.keep (.of s), rfl⟩
  · exact h1.elim)
end
section
variable {K : PySem.W.Frag} {H0 : Hp} {A : Nat → Option Addr} {Z T S : Addr → Prop} {own : Nat → Addr} {σ : L2.St} {H H' : Hp} {ρ ρ' : Env} {i : Nat} {a : Addr} {p q : PV}
/-- what a slot's own object holds -/
def ownP (i : Nat) (ρ : Env) : Option PV := match ρ[i]? with
  | some (.ow p) => some p
  | some (.io p) => some p
  | _ => none
theorem PSt.ownAt (P : PSt K H0 A Z T S own σ H ρ) (h : ownP i ρ = some p) : ∃ a, slA A own ρ i = some a ∧ σ[i]? = some (some (.ref a)) ∧ T a ∧ Top K S H a p ∧ ∀ q, ∃ ρ', putE i q ρ = some ρ' := by
  unfold ownP at h
  cases e : ρ[i]? with
  | none => rw [e] at h; cases h
  | some f =>
    rw [e] at h
    have := P.sl i f e
    cases f with
    | ow p' => cases h; obtain ⟨e1, h1, t⟩ := this; exact ⟨own i, by unfold slA; rw [e]; rfl, e1, h1, t, fun q => ⟨_, by unfold putE; rw [e]⟩⟩
    | io p' => cases h; obtain ⟨c, z, e1, h1, t⟩ := this; exact ⟨c, by unfold slA; rw [e]; exact z, e1, h1, t, fun q => ⟨_, by unfold putE; rw [e]⟩⟩
    | _ => cases h
/-- its content is changed -/
theorem PSt.put (P : PSt K H0 A Z T S own σ H ρ) (ha : slA A own ρ i = some a) (hp : putE i q ρ = some ρ') (k : ∀ b, b ≠ a → H' b = H b) (ht : Top K S H' a q) : PSt K H0 A Z T S own σ H' ρ' ∧ Keep T H H' := by
  obtain ⟨hT, hσ, ⟨o, ho⟩, hH0⟩ := P.slS ha
  have hq : ∃ g : EV, ρ' = ρ.set i g ∧ ((∃ r, ρ[i]? = some (.ow r) ∧ g = .ow q) ∨ (∃ r, ρ[i]? = some (.io r) ∧ g = .io q)) := by
    unfold putE at hp
    split at hp
    · rename_i r e; cases hp; exact ⟨_, rfl, .inl ⟨r, e, rfl⟩⟩
    · rename_i r e; cases hp; exact ⟨_, rfl, .inr ⟨r, e, rfl⟩⟩
    · cases hp
  obtain ⟨g, rfl, hg⟩ := hq
  have hil : i < ρ.length := by rcases hg with ⟨_, e, _⟩ | ⟨_, e, _⟩ <;> exact (List.getElem?_eq_some_iff.mp e).1
  have get : ∀ j, (ρ.set i g)[j]? = if i = j then some g else ρ[j]? := fun j => by
    rw [List.getElem?_set]
    by_cases h : i = j
    · subst h; rw [if_pos rfl, if_pos rfl, if_pos hil]
    · rw [if_neg h, if_neg h]
  have kT : Keep T H H' := fun b u h n => by rw [k b (fun z => n (by rw [z]; exact hT))]; exact h
  have kS : Keep S H H' := kT.up P.ts
  have hga : g.adr (A i) (own i) = some a := by
    unfold slA at ha
    rcases hg with ⟨r, e, rfl⟩ | ⟨r, e, rfl⟩ <;> rw [e] at ha <;> exact ha
  have old : ∀ (j : Nat) (e : EV), (ρ.set i g)[j]? = some e → (j = i ∧ e = g) ∨ (j ≠ i ∧ ρ[j]? = some e) := fun j e h => by
    rw [get] at h
    by_cases hj : i = j
    · rw [if_pos hj] at h; exact .inl ⟨hj.symm, (Option.some.inj h).symm⟩
    · rw [if_neg hj] at h; exact .inr ⟨fun z => hj z.symm, h⟩
  have tag : ∀ (j : Nat) (e : EV) (b : Addr), (ρ.set i g)[j]? = some e → e.adr (A j) (own j) = some b → ∃ f : EV, ρ[j]? = some f ∧ f.adr (A j) (own j) = some b := fun j e b h1 h2 => by
    rcases old j e h1 with ⟨rfl, rfl⟩ | ⟨_, h⟩
    · rcases hg with ⟨r, e, rfl⟩ | ⟨r, e, rfl⟩ <;> exact ⟨_, e, h2⟩
    · exact ⟨e, h, h2⟩
  refine ⟨⟨fun b u h n => ?_, P.ia, P.i0, P.z0, fun s z => ?_, P.ts, P.zs, by rw [List.length_set]; exact P.ln, fun j e he => ?_, fun j r hr => ?_, fun j l e f b e1 e2 e3 e4 => ?_⟩, kT⟩
  · rw [k b (fun z => ?_)]
    · exact P.kp b u h n
    · rcases hH0 with z' | z'
      · rw [z, z'] at h; cases h
      · exact n i (by rw [z]; exact z')
  · by_cases e : s = a
    · rw [e]; cases q <;> first | exact ht.elim | (obtain ⟨_, h, _⟩ := ht; exact ⟨_, h⟩) | (obtain ⟨_, _, h, _⟩ := ht; exact ⟨_, h⟩)
    · rw [k s e]; exact P.al s z
  · rcases old j e he with ⟨rfl, rfl⟩ | ⟨hj, h⟩
    · rcases hg with ⟨r, e, rfl⟩ | ⟨r, e, rfl⟩
      · obtain ⟨e1, h1, _⟩ := P.sl j _ e
        have hga : some (own j) = some a := hga
        cases hga
        exact ⟨e1, h1, ht⟩
      · obtain ⟨c, z, e1, h1, _⟩ := P.sl j _ e
        have hga : A j = some a := hga
        rw [hga] at z
        cases z
        exact ⟨a, hga, e1, h1, ht⟩
    · have := P.sl j e h
      have ne : ∀ b, e.adr (A j) (own j) = some b → b ≠ a := fun b hb z => hj (by
        obtain ⟨f, h5, h6⟩ : ∃ f : EV, ρ[i]? = some f ∧ f.adr (A i) (own i) = some a := by
          unfold slA at ha
          cases w : ρ[i]? with
          | none => rw [w] at ha; cases ha
          | some f => rw [w] at ha; exact ⟨f, rfl, ha⟩
        exact P.dj j i e f a h h5 (by rw [hb, z]) h6)
      cases e with
      | no => trivial
      | fr p => obtain ⟨v, e1, r⟩ := this; exact ⟨v, e1, r.keep kS⟩
      | ow p => obtain ⟨e1, h1, t⟩ := this; exact ⟨e1, h1, t.keep kS (fun _ z => .inl z) fun u e => by rw [k _ (ne _ rfl)]; exact e⟩
      | io p => obtain ⟨c, z, e1, h1, t⟩ := this; exact ⟨c, z, e1, h1, t.keep kS (fun _ z => .inl z) fun u e => by rw [k _ (ne _ z)]; exact e⟩
  · rcases old j _ hr with ⟨rfl, z⟩ | ⟨hj, h⟩
    · rcases hg with ⟨r', e, rfl⟩ | ⟨r', e, rfl⟩
      · exact P.fr j r' e
      · cases z
    · exact P.fr j r h
  · obtain ⟨f1, h1, h2⟩ := tag j e b e1 e3
    obtain ⟨f2, h3, h4⟩ := tag l f b e2 e4
    exact P.dj j l f1 f2 b h1 h3 h2 h4
end
/-- x.append(e), x the body's own list -/
def gApp (i : Nat) (f : FE) : FS := fun ρ => (f ρ).bind fun z => match ownP i z.2 with
  | some (.lst xs) => if xs.length < 1000000 then (match putE i (.lst (xs ++ [z.1])) z.2 with
      | some ρ' => .ok (.nx ρ')
      | none => .bad) else .bad
  | _ => .bad
def ownL (i : Nat) (ρ : Env) : Bool := match ownP i ρ with
  | some (.lst _) => true
  | _ => false
def gApp' (i : Nat) (f : FE) : FS := fun ρ => if ownL i ρ = true then gApp i f ρ else .bad
section
variable {X : Cx} {E : L2.St → XK} {e o : Expr} {x : Str} {pos apos cpos npos : Pos} {f : FE}
theorem us_app (i : Nat) (he : PE X e (pE X.K E f)) (hN : X.N[i]? = some x := by rfl) (hv : Vis X.env.scope x := by first | exact Or.inl rfl | exact Or.inr (Or.inl rfl) | exact Or.inr (Or.inr rfl)) (hd : (x == ("__debug__" : Str)) = false := by decide)
    (hcd : (x == ("__classdict__" : Str)) = false := by decide) (hbase : attributeBase (.Name x npos) "append" X.env (eval (.Name x npos) X.env) = eval (.Name x npos) X.env := by rfl)
    (hfew : ((backTo cpos (starEach [e] X.env)).all (fun x => !x.1) && (backToKw cpos (keywordEach [] X.env)).all (fun x => x.1.isSome)
      && decide ([e].length + ([] : List Keyword).length + (if ([] : List Keyword).isEmpty then 0 else 1) < 30)) = true := by rfl)
    (hline : (apos.endLine == cpos.line) = true := by rfl) (hs : starEach [e] X.env = (false, eval e X.env) :: starEach [] X.env := by rfl) (hplain : (backTo cpos (starEach [] X.env)).any (·.1) = false := by rfl)
    (hsw : swapsWith (.Call (.Attribute (.Name x npos) "append" apos) [e] [] cpos) none pos.line X.env = pure false := by rfl) :
    PS X (.Expr (.Call (.Attribute (.Name x npos) "append" apos) [e] [] cpos) pos) (pS X.K E (gApp' i f)) :=
  (ps_expr (pe_bm PySem.F.plainAttrs_list PySem.F.slot_list_append PySem.F.type_list_append mt_append (pe_var (i := i) hN hv hd hcd) (pa_cons he pa_nil hs) hbase hfew hline hs hplain) hsw).imp (by
    rintro D σ H ⟨H0, A, Z, T, S, own, ρ, P, h⟩
    unfold gApp' at h
    split at h
    · rename_i hl
      unfold ownL at hl
      split at hl
      · rename_i xs hx
        obtain ⟨a, ha, hσ, hT, ⟨vs, hH, _⟩, _⟩ := P.ownAt hx
        refine ⟨_, hσ, .inl ⟨rfl, vs, SqL.of hH⟩, H0, A, Z, T, S, own, ρ, P, (okF.bnd P h).mono ?_⟩
        rintro p H1 - ⟨ρ1, P1, k1, h1⟩ v r1
        dsimp only at h1
        cases ho : ownP i ρ1 with
        | none => rw [ho] at h1; exact h1.elim
        | some q =>
          rw [ho] at h1
          cases q <;> try exact h1.elim
          rename_i ys
          dsimp only at h1
          split at h1
          · rename_i hlen
            obtain ⟨a', ha', hσ', hT', ⟨ws, hH', rw'⟩, hput⟩ := P1.ownAt ho
            rw [hσ] at hσ'
            cases hσ'
            obtain ⟨ρ', hp⟩ := hput (.lst (ys ++ [p]))
            rw [hp] at h1
            have k : ∀ b, b ≠ a → (upd H1 a (.lst (ws ++ [v]))) b = H1 b := fun b hb => upd_ne hb
            have kS : Keep S H1 (upd H1 a (.lst (ws ++ [v]))) := fun b u hb n => by rw [k b (fun z => n (by rw [z]; exact P1.ts _ hT))]; exact hb
            obtain ⟨P2, kk⟩ := P1.put ha' hp k ⟨_, upd_same, (rw'.app (show Reps X.K S H1 [p] [v] from ⟨v, [], rfl, r1, rfl⟩)).keep kS⟩
            exact ⟨a, ws, v, rfl, rfl, hH', by rw [← rw'.len]; exact Nat.lt_of_lt_of_le hlen (by decide), h1 σ _ T S own P2 (.same kk)⟩
          · exact h1.elim
      · cases hl
    · exact h.elim)
end
/-- an object's fields, one put -/
def putFP (f : Str) (p : PV) : List (Str × PV) → List (Str × PV)
  | [] => [(f, p)]
  | (g, x) :: r => if g = f then (g, p) :: r else (g, x) :: putFP f p r
theorem putFP_rep {K : PySem.W.Frag} {S : Addr → Prop} {H : Hp} {f : Str} {p : PV} {v : V} (r : Rep K S H p v) : ∀ {fs : List (Str × PV)} {vs : List (Str × V)}, RepF K S H fs vs → RepF K S H (putFP f p fs) (putF f v vs)
  | [], _, h => by cases h; exact ⟨v, [], rfl, r, rfl⟩
  | (g, x) :: fs, _, ⟨w, ws, rfl, h, t⟩ => by
    show RepF K S H (if g = f then _ else _) (if g = f then _ else _)
    by_cases e : g = f
    · rw [if_pos e, if_pos e]; exact ⟨v, ws, rfl, r, t⟩
    · rw [if_neg e, if_neg e]; exact ⟨w, _, rfl, h, putFP_rep r t⟩
def gFld (c : Str) (i : Nat) (f : Str) (fe : FE) : FS := fun ρ => (fe ρ).bind fun z => match ownP i z.2 with
  | some (.obj c' fs) => if c' = c ∧ fs.length < 900 then (match putE i (.obj c' (putFP f z.1 fs)) z.2 with
      | some ρ' => .ok (.nx ρ')
      | none => .bad) else .bad
  | _ => .bad
/-- e.f of the body's own object -/
def fFldO (c : Str) (i : Nat) (f : Str) : FE := fun ρ => ofO ((ownP i ρ).bind (pFld c f)) ρ
section
variable {X : Cx} {E : L2.St → XK} {e : Expr} {x f : Str} {pos pos' npos : Pos} {fe : FE}
theorem us_fld (c : Str) (i : Nat) {fl : List Str} (C : ClsP X.K c fl) (hf : f ∈ fl) (he : PE X e (pE X.K E fe)) (hs : swapsWith e (some (.Attribute (.Name x npos) f pos')) pos.line X.env = pure false) (hN : X.N[i]? = some x := by rfl) (hv : Vis X.env.scope x := by first | exact Or.inl rfl | exact Or.inr (Or.inl rfl) | exact Or.inr (Or.inr rfl)) (hd : (x == ("__debug__" : Str)) = false := by decide)
    (hcd : (x == ("__classdict__" : Str)) = false := by decide) : PS X (.Assign [.Attribute (.Name x npos) f pos'] e pos) (pS X.K E (gFld c i f fe)) := (ps_fld (pe_var (i := i) hN hv hd hcd) he hs).imp (by
  rintro D σ H ⟨H0, A, Z, T, S, own, ρ, P, h⟩
  refine ⟨H0, A, Z, T, S, own, ρ, P, (okF.bnd P h).mono ?_⟩
  rintro p H1 - ⟨ρ1, P1, k1, h1⟩ v r1
  dsimp only at h1
  cases ho : ownP i ρ1 with
  | none => rw [ho] at h1; exact h1.elim
  | some q =>
    rw [ho] at h1
    cases q <;> try exact h1.elim
    rename_i c' fs
    dsimp only at h1
    split at h1
    · rename_i hc
      obtain ⟨rfl, hlen⟩ := hc
      obtain ⟨a, ha, hσ, hT, ⟨dx, vfs, hH, rf⟩, hput⟩ := P1.ownAt ho
      obtain ⟨ρ', hp⟩ := hput (.obj c' (putFP f p fs))
      rw [hp] at h1
      have k : ∀ b, b ≠ a → (upd H1 a (.ins (He.ga X.K c') dx (putF f v vfs))) b = H1 b := fun b hb => upd_ne hb
      have kS : Keep S H1 (upd H1 a (.ins (He.ga X.K c') dx (putF f v vfs))) := fun b u hb n => by rw [k b (fun z => n (by rw [z]; exact P1.ts _ hT))]; exact hb
      obtain ⟨P2, kk⟩ := P1.put ha hp k ⟨dx, _, upd_same, (putFP_rep r1 rf).keep kS⟩
      exact ⟨_, hσ, a, _, dx, vfs, rfl, hH, C.cl, C.no f hf, by rw [← rf.len]; omega, h1 σ _ T S own P2 (.same kk)⟩
    · exact h1.elim)
theorem ue_fldO (c : Str) (i : Nat) {fl : List Str} (C : ClsP X.K c fl) (hf : f ∈ fl) (hb : attributeBase (.Name x npos) f X.env (eval (.Name x npos) X.env) = eval (.Name x npos) X.env) (hN : X.N[i]? = some x := by rfl) (hv : Vis X.env.scope x := by first | exact Or.inl rfl | exact Or.inr (Or.inl rfl) | exact Or.inr (Or.inr rfl)) (hd : (x == ("__debug__" : Str)) = false := by decide)
    (hcd : (x == ("__classdict__" : Str)) = false := by decide) : PE X (.Attribute (.Name x npos) f pos) (pE X.K E (fFldO c i f)) := (pe_fld (pe_var (i := i) hN hv hd hcd) hb).imp (by
  rintro σ H Q ⟨H0, A, Z, T, S, own, ρ, P, h⟩
  obtain ⟨z, e, k⟩ := ofO_ok P h
  obtain ⟨q, e1, e2⟩ := Option.bind_eq_some_iff.mp e
  cases q <;> try (cases e2; done)
  rename_i c' fs
  unfold pFld at e2
  dsimp only at e2
  split at e2
  · rename_i hc
    subst hc
    obtain ⟨a, ha, hσ, hT, ⟨dx, vfs, hH, rf⟩, hput⟩ := P.ownAt e1
    obtain ⟨w, l1, l2⟩ := rf.look e2
    exact ⟨_, hσ, a, _, dx, vfs, w, rfl, hH, C.cl, C.no f hf, l1, k H (.refl _) w l2⟩
  · cases e2)
end
end Ev
namespace Ev
open PySem PySem.Spec PyProof.Rows L2
def okN (K : PySem.W.Frag) (H0 : Hp) (A : Nat → Option Addr) (Z T S : Addr → Prop) (own : Nat → Addr) (σ : L2.St) (E : L2.St → XK) (H : Hp) (r : Res (PV × Env)) (Q : VK) : Prop := match r with
  | .ok z => ∀ H' a, PSt K H0 A Z T (Sand S a) own σ H' z.2 → Keep T H H' → H a = none → ¬ S a → Top K (Sand S a) H' a z.1 → Q (.ref a) H'
  | .err e ρ' => ∀ d H', PSt K H0 A Z T S own σ H' ρ' → Keep T H H' → ErrD K S H' e d → E σ (.ref (He.ga K e.cls)) (some d) H'
  | .bad => False
def pN (K : PySem.W.Frag) (E : L2.St → XK) (f : FE) : TE := fun σ H Q => ∃ H0 A Z T S own ρ, PSt K H0 A Z T S own σ H ρ ∧ okN K H0 A Z T S own σ E H (f ρ) Q
section
variable {α : Type} {K : PySem.W.Frag} {H0 : Hp} {A : Nat → Option Addr} {Z T S : Addr → Prop} {own : Nat → Addr} {σ : L2.St} {E : L2.St → XK} {H H1 : Hp} {ρ ρ' : Env} {Q : VK}
theorem okN.shift {r : Res (PV × Env)} (ts : ∀ s, T s → S s) (k : Keep T H H1) (h : okN K H0 A Z T S own σ E H r Q) : okN K H0 A Z T S own σ E H1 r Q := by
  cases r with
  | ok z =>
    intro H' a P k' hn nS
    refine h H' a P (k.trans k') ?_ nS
    cases e : H a with
    | none => rfl
    | some o => have := k a o e (fun z => nS (ts a z)); rw [hn] at this; cases this
  | err e ρ' => exact fun d H' P k' => h d H' P (k.trans k')
  | bad => exact h
theorem okN.bnd {r : Res (α × Env)} {c : α × Env → Res (PV × Env)} (ts : ∀ s, T s → S s) (h : okN K H0 A Z T S own σ E H (r.bind c) Q) :
    okR K H0 A Z T S own σ E H r fun a H1 => ∃ ρ1, PSt K H0 A Z T S own σ H1 ρ1 ∧ Keep T H H1 ∧ okN K H0 A Z T S own σ E H1 (c (a, ρ1)) Q := by
  cases r with
  | ok z => exact fun H' P k => ⟨z.2, P, k, okN.shift ts k h⟩
  | err e ρ' => exact h
  | bad => exact h
theorem top_new {a : Addr} {ps : List PV} {vs : List V} (hp : H a = none) (h : Reps K S H ps vs) : Top K (Sand S a) (upd H a (.lst vs)) a (.lst ps) := ⟨vs, upd_same, h.fut (.of (same_new hp)) fun s z => z.imp id fun e => by rw [e]; exact hp⟩
/-- a slot gets an object of its own -/
theorem PSt.setOwn {i : Nat} {p : PV} {a : Addr} (P : PSt K H0 A Z T (Sand S a) own σ H ρ) (h0 : H0 a = none) (nS : ¬ S a) (hTS : ∀ s, T s → S s) (t : Top K (Sand S a) H a p) (e : setE i (.ow p) ρ = some ρ') : PSt K H0 A Z (Sand T a) (Sand S a) (fun j => if j = i then a else own j) (σ.set i (some (.ref a))) H ρ' := by
  have nT : ¬ T a := fun z => nS (hTS a z)
  have key : ∃ f, ρ[i]? = some f ∧ (∀ q, f ≠ .io q) ∧ ρ' = ρ.set i (.ow p) := by
    unfold setE at e
    cases e1 : ρ[i]? with
    | none => rw [e1] at e; cases e
    | some f => rw [e1] at e; cases f <;> first | (cases e; done) | (cases e; exact ⟨_, rfl, (fun q z => nomatch z), rfl⟩)
  obtain ⟨f, e1, nf, rfl⟩ := key
  have hil : i < ρ.length := (List.getElem?_eq_some_iff.mp e1).1
  have get : ∀ (j : Nat) (g : EV), (ρ.set i (.ow p))[j]? = some g → (j = i ∧ g = .ow p) ∨ (j ≠ i ∧ ρ[j]? = some g) := fun j g h => by
    rw [List.getElem?_set] at h
    by_cases hj : i = j
    · subst hj; rw [if_pos rfl, if_pos hil] at h; exact .inl ⟨rfl, (Option.some.inj h).symm⟩
    · rw [if_neg hj] at h; exact .inr ⟨fun z => hj z.symm, h⟩
  have adrT : ∀ (j : Nat) (g : EV) (b : Addr), ρ[j]? = some g → g.adr (A j) (own j) = some b → T b := fun j g b h1 h2 => by
    have := P.sl j g h1
    cases g with
    | ow q => cases h2; exact this.2.1
    | io q => obtain ⟨c, z, _, h, _⟩ := this; have h2 : A j = some b := h2; rw [h2] at z; cases z; exact h
    | _ => cases h2
  refine ⟨P.kp, fun j b h => .inl (P.ia j b h), P.i0, P.z0, P.al, fun s z => z.imp (hTS s) id, P.zs, by rw [List.length_set, List.length_set]; exact P.ln, fun j g hg => ?_, fun j q hq => ?_, fun j l g f b g1 g2 g3 g4 => ?_⟩
  · rcases get j g hg with ⟨rfl, rfl⟩ | ⟨hj, h⟩
    · exact ⟨by rw [List.getElem?_set, if_pos rfl, if_pos (P.ln ▸ hil), if_pos rfl], .inr (if_pos rfl), by rw [if_pos rfl]; exact t⟩
    · have := P.sl j g h
      rw [List.getElem?_set, if_neg (show ¬ (i = j) from fun z => hj z.symm), if_neg hj]
      cases g with
      | no => trivial
      | fr q => exact this
      | ow q => obtain ⟨e1, h1, t⟩ := this; exact ⟨e1, .inl h1, t⟩
      | io q => obtain ⟨c, z, e1, h1, t⟩ := this; exact ⟨c, z, e1, .inl h1, t⟩
  · rcases get j _ hq with ⟨rfl, _⟩ | ⟨hj, h⟩
    · show H0 (if j = j then a else own j) = none
      rw [if_pos rfl]; exact h0
    · show H0 (if j = i then a else own j) = none
      rw [if_neg hj]; exact P.fr j q h
  · rcases get j g g1 with ⟨rfl, rfl⟩ | ⟨hj, h1⟩
    · have g3 : some (if j = j then a else own j) = some b := g3
      rw [if_pos rfl] at g3
      cases g3
      rcases get l f g2 with ⟨rfl, rfl⟩ | ⟨hl, h2⟩
      · rfl
      · rw [if_neg hl] at g4
        exact absurd (adrT l f a h2 g4) nT
    · rw [if_neg hj] at g3
      rcases get l f g2 with ⟨rfl, rfl⟩ | ⟨hl, h2⟩
      · have g4 : some (if l = l then a else own l) = some b := g4
        rw [if_pos rfl] at g4
        cases g4
        exact absurd (adrT j g a h1 g3) nT
      · rw [if_neg hl] at g4
        exact P.dj j l g f b h1 h2 g3 g4
end
def gOwn (i : Nat) (f : FE) : FS := fun ρ => (f ρ).bind fun z => match setE i (.ow z.1) z.2 with
  | some ρ' => .ok (.nx ρ')
  | none => .bad
/-- an own object is frozen -/
def gFrz (i : Nat) (g : FS) : FS := fun ρ => match ρ[i]? with
  | some (.ow p) => g (ρ.set i (.fr p))
  | _ => .bad
section
variable {X : Cx} {E : L2.St → XK} {e a b : Expr} {es : List Expr} {st : Stmt} {x : Str} {pos pos' : Pos} {f fa fb : FE} {ra : FA} {g : FS}
theorem own_imp {i : Nat} {σ : L2.St} {H : Hp} {D : Ends} (h : pS X.K E (gOwn i f) D σ H) : pN X.K E f σ H (fun v H1 => gName i v σ H1 D.nx) := by
  obtain ⟨H0, A, Z, T, S, own, ρ, P, h⟩ := h
  refine ⟨H0, A, Z, T, S, own, ρ, P, ?_⟩
  unfold gOwn at h
  cases e : f ρ with
  | err e' ρ' => rw [e] at h; exact fun d H' P' k hd => h d σ H' T S own P' (.same k) hd
  | bad => rw [e] at h; exact h
  | ok z =>
    rw [e] at h
    have h : okF X.K H0 A Z E T S H D (match setE i (.ow z.1) z.2 with | some ρ' => .ok (.nx ρ') | none => .bad) := h
    intro H' a P' k h0 nS t
    cases e2 : setE i (.ow z.1) z.2 with
    | none => rw [e2] at h; exact h.elim
    | some ρ' =>
      rw [e2] at h
      have hs : ∀ s, Sand S a s → S s ∨ H s = none := fun s z => z.imp id fun e => by rw [e]; exact h0
      exact h _ H' _ _ _ (P'.setOwn (P.H0n' h0) nS P.ts t e2) ⟨k, hs, fun s z => z.imp id fun e => by rw [e]; exact h0⟩
theorem us_own (i : Nat) {te : TE} (hs : PS X st (tAsg te (gName i))) (ht : ∀ σ H Q, pN X.K E f σ H Q → te σ H Q) : PS X st (pS X.K E (gOwn i f)) := hs.imp fun D σ H h => ht σ H _ (own_imp h)
theorem nb_lst {σ : L2.St} {H : Hp} {Q : VK} (h : pN X.K E (fLst ra) σ H Q) : tLst (pA X.K E ra) σ H Q := by
  obtain ⟨H0, A, Z, T, S, own, ρ, P, h⟩ := h
  refine ⟨H0, A, Z, T, S, own, ρ, P, (okN.bnd P.ts h).mono ?_⟩
  rintro ps H1 - ⟨ρ1, P1, k1, h1⟩ vs r1
  dsimp only at h1
  split at h1
  · rename_i hl
    rw [r1.len] at hl
    exact ⟨same_small hl, fun p hp => h1 _ p (P1.sand hp) (.of (same_new hp)) hp (P1.new hp) (top_new hp r1)⟩
  · exact h1.elim
/-- x = [..], the body's own -/
theorem us_ownLst {i : Nat} (hN : X.N.Nodup) (hi : X.N[i]? = some x) (hx : Loc X.env.scope x) (ha : PA X es (pA X.K E ra)) (hs : swapsWith (.List es pos) (some (.Name x pos')) pos.line X.env = pure false := by rfl) (hf : X.fn x = true ∨ X.env.scope.names.lookup x = some .local := by first | exact .inl rfl | exact .inr rfl | assumption) {pos2 : Pos} (hs2 : swapsWith (.List es pos) (some (.Name x pos')) pos2.line X.env = pure false := by rfl) :
    PS X (.Assign [.Name x pos'] (.List es pos) pos2) (pS X.K E (gOwn i (fLst ra))) := us_own i (ps_set (i := i) hN hi hx (pe_lst ha) hs2 hf) fun _ _ _ => nb_lst
/-- an object is no longer the body's own -/
theorem PSt.frz {K : PySem.W.Frag} {H0 : Hp} {A : Nat → Option Addr} {Z T S : Addr → Prop} {own : Nat → Addr} {σ : L2.St} {H : Hp} {ρ : Env} {i : Nat} {p : PV} (P : PSt K H0 A Z T S own σ H ρ) (e : ρ[i]? = some (.ow p)) :
    PSt K H0 A Z (fun s => T s ∧ s ≠ own i) (fun s => S s ∧ s ≠ own i) own σ H (ρ.set i (.fr p)) := by
  obtain ⟨e1, hT, t⟩ := P.sl i _ e
  have h0 := P.fr i p e
  have hil : i < ρ.length := (List.getElem?_eq_some_iff.mp e).1
  have get : ∀ (j : Nat) (g : EV), (ρ.set i (.fr p))[j]? = some g → (j = i ∧ g = .fr p) ∨ (j ≠ i ∧ ρ[j]? = some g) := fun j g h => by
    rw [List.getElem?_set] at h
    by_cases hj : i = j
    · subst hj; rw [if_pos rfl, if_pos hil] at h; exact .inl ⟨rfl, (Option.some.inj h).symm⟩
    · rw [if_neg hj] at h; exact .inr ⟨fun z => hj z.symm, h⟩
  have hs : ∀ s, (S s ∧ s ≠ own i) → S s ∨ H s = none := fun s z => .inl z.1
  have ne : ∀ (j : Nat) (g : EV) (b : Addr), j ≠ i → ρ[j]? = some g → g.adr (A j) (own j) = some b → b ≠ own i := fun j g b hj h1 h2 z => hj (P.dj j i g (.ow p) b h1 e h2 (by rw [z]; rfl))
  have zne : ∀ s, Z s → s ≠ own i := fun s z w => by
    obtain ⟨o, ho⟩ := P.z0 s z
    rw [w, h0] at ho
    cases ho
  refine ⟨P.kp, fun j b h => ⟨P.ia j b h, fun z => ?_⟩, P.i0, P.z0, fun s z => P.al s z.1, fun s z => ⟨P.ts s z.1, z.2⟩, fun s z => ⟨P.zs s z, zne s z⟩, by rw [List.length_set]; exact P.ln, fun j g hg => ?_, fun j q hq => ?_, fun j l g f b g1 g2 g3 g4 => ?_⟩
  · obtain ⟨o, ho⟩ := P.i0 j b h
    rw [z, h0] at ho
    cases ho
  · rcases get j g hg with ⟨rfl, rfl⟩ | ⟨hj, h⟩
    · refine ⟨_, e1, ?_⟩
      cases p <;> try exact t.elim
      · obtain ⟨vs, t1, t2⟩ := t; exact ⟨_, vs, rfl, fun z => z.2 rfl, t1, t2.fut .refl hs⟩
      · obtain ⟨dx, vs, t1, t2⟩ := t; exact ⟨_, dx, vs, rfl, fun z => z.2 rfl, t1, t2.fut .refl hs⟩
      · obtain ⟨vs, t1, t2⟩ := t; exact ⟨_, vs, rfl, fun z => z.2 rfl, t1, t2.fut .refl hs⟩
    · have := P.sl j g h
      cases g with
      | no => trivial
      | fr q => obtain ⟨v, e1, r⟩ := this; exact ⟨v, e1, r.fut .refl hs⟩
      | ow q => obtain ⟨e1, h1, t⟩ := this; exact ⟨e1, ⟨h1, ne j _ _ hj h rfl⟩, t.keep .refl hs fun _ z => z⟩
      | io q => obtain ⟨c, z, e1, h1, t⟩ := this; exact ⟨c, z, e1, ⟨h1, ne j _ _ hj h z⟩, t.keep .refl hs fun _ z => z⟩
  · rcases get j _ hq with ⟨_, z⟩ | ⟨_, h⟩
    · cases z
    · exact P.fr j q h
  · rcases get j g g1 with ⟨rfl, rfl⟩ | ⟨hj, h1⟩
    · cases g3
    · rcases get l f g2 with ⟨rfl, rfl⟩ | ⟨hl, h2⟩
      · cases g4
      · exact P.dj j l g f b h1 h2 g3 g4
theorem us_frz {st : List Stmt} (i : Nat) (h : PSs X st (pS X.K E g)) : PSs X st (pS X.K E (gFrz i g)) := h.imp (by
  rintro D σ H ⟨H0, A, Z, T, S, own, ρ, P, h⟩
  unfold gFrz at h
  cases e : ρ[i]? with
  | none => rw [e] at h; exact h.elim
  | some z =>
    rw [e] at h
    cases z <;> try exact h.elim
    rename_i p
    have P2 := P.frz e
    have f : Fut T S H (fun s => T s ∧ s ≠ own i) (fun s => S s ∧ s ≠ own i) H := ⟨.refl, fun s z => .inl z.1, fun s z => .inl z.1⟩
    exact ⟨H0, A, Z, _, _, own, _, P2, okF.shift P.ts f h⟩)
def fIxO (i : Nat) (f : FE) : FE := fun ρ => (f ρ).bind fun z => ofO ((ownP i z.2).bind fun p => pIdx p z.1) z.2
end
end Ev
namespace Ev
open PySem PySem.Spec PyProof.Rows L2
section
variable {X : Cx} {CX : CXT} {k j : Nat} {f C : Addr} {fd : FuncData} {ps ks : List Str} {sp : Sp} {x : Str} {p pos : Pos} {e : Expr} {es : List Expr} {kws : List Keyword} {t tk : TA}
theorem run_new {E : XK} {pins : List (Addr × Obj)} {σ : L2.St} {H : Hp} {s : Shared} {Q : VK} {us ws : List Value} {kw : List (Str × Value)} {zs : List V} (M : Mk X.K C f) (F : FnOk X.prog X.w X.K X.mg X.base CX k f fd ps sp) (hr : Room (k + 1) X.A) (hx : PassesAt CX X σ E) (I : Inv X pins σ H s) (r : Vals zs ws)
    (hb : ∀ (s' : Shared) (g : Addr), X.K.In s'.heap → BindsTo s' fd ⟨Value.ref g :: us, kw⟩ (ps.zip (Value.ref g :: ws)))
    (h : ∀ g dx, H g = none → H dx = none → dx ≠ g → sp (.ref g :: zs) (upd (upd H dx (.own g)) g (.ins C dx [])) (fun v H2 => v = .non ∧ Q (.ref g) H2) E) :
    wpAny (model X.prog X.w) X.A (call (.ref C) us kw) (EP X pins σ Q) X.xe s := by
  have I2 := Inv.made (C := C) I
  have hq := h (s.heap.objs.size + 1) s.heap.objs.size (I.hok.fresh (Nat.le_succ _)) (I.hok.fresh (Nat.le_refl _)) (Nat.ne_of_lt (Nat.lt_succ_self _))
  have r2 : Vals (V.ref (s.heap.objs.size + 1) :: zs) (Value.ref (s.heap.objs.size + 1) :: ws) := .cons rfl r
  refine wpAny_call (make_map (f := f) I.kIn M.makes M.init (beq_iff_eq.mp M.fn) (codeAny_mono (F.run _ X.stack _ _ ⟨Value.ref (s.heap.objs.size + 1) :: us, kw⟩ (Value.ref (s.heap.objs.size + 1) :: ws) _ _ E (hr.make C us kw) (I2.env0.make C us kw) (hb _ _ I2.kIn) r2 hq) fun out s' done => ?_))
  cases out with
  | error e => exact hx pins _ _ e s' I2 done
  | ok fl =>
    cases fl with
    | ret u =>
      obtain ⟨v, H', I3, rv, ev, q3⟩ := I2.after done
      subst ev
      exact ⟨rv, ⟨V.ref (s.heap.objs.size + 1), H', I3, rfl, q3⟩⟩
    | next => exact False.elim done
    | brk => exact False.elim done
    | cont => exact False.elim done
end
end Ev
namespace Ev
open PySem PySem.Spec PyProof.Rows L2
def fIxO' (i : Nat) (f : FE) : FE := fun ρ => if ownL i ρ = true then fIxO i f ρ else .bad
section
variable {X : Cx} {E : L2.St → XK} {e a b : Expr} {es : List Expr} {x : Str} {p pos npos : Pos} {f : FE}
theorem atI_top {K : PySem.W.Frag} {S : Addr → Prop} {H : Hp} {a : Addr} {q z y : PV} {w : V} (t : Top K S H a q) (ry : Rep K S H y w) (e : pIdx q y = some z) : (∃ xs i v, w = .int i ∧ H a = some (.lst xs) ∧ atI xs i = some v ∧ Rep K S H z v) := by
  cases q <;> try exact t.elim
  · obtain ⟨vs, hH, r⟩ := t
    cases y <;> try (cases e; done)
    cases ry
    obtain ⟨v, e1, e2⟩ := atI_rep r e
    exact ⟨vs, _, v, rfl, hH, e1, e2⟩
  · cases y <;> cases e
  · cases y <;> cases e
theorem ue_ixO (i : Nat) (hb : PE X b (pE X.K E f)) (hs : PlainIx b) (hN : X.N[i]? = some x := by rfl) (hv : Vis X.env.scope x := by first | exact Or.inl rfl | exact Or.inr (Or.inl rfl) | exact Or.inr (Or.inr rfl)) (hd : (x == ("__debug__" : Str)) = false := by decide)
    (hcd : (x == ("__classdict__" : Str)) = false := by decide) : PE X (.Subscript (.Name x npos) b pos) (pE X.K E (fIxO' i f)) := (pe_ix ix_list (pe_var (i := i) hN hv hd hcd) hb hs).imp (by
  rintro σ H Q ⟨H0, A, Z, T, S, own, ρ, P, h⟩
  unfold fIxO' at h
  split at h
  · rename_i hl
    unfold ownL at hl
    split at hl
    · rename_i xs hx
      obtain ⟨a, ha, hσ, hT, ⟨vs, hH, _⟩, _⟩ := P.ownAt hx
      refine ⟨_, hσ, H0, A, Z, T, S, own, ρ, P, (okR.bnd (r := f ρ) h).mono ?_⟩
      rintro p H1 - ⟨ρ1, P1, k1, h1⟩ v r1
      obtain ⟨z, e, k⟩ := ofO_ok P1 h1
      obtain ⟨q, e1, e2⟩ := Option.bind_eq_some_iff.mp e
      obtain ⟨a', ha', hσ', hT', t, _⟩ := P1.ownAt e1
      rw [hσ] at hσ'
      cases hσ'
      obtain ⟨ws, i', u, rfl, hH', e4, e5⟩ := atI_top t r1 e2
      exact ⟨a, ws, i', u, rfl, rfl, SqL.of hH', e4, k H1 (.refl _) u e5⟩
    · cases hl
  · exact h.elim)
end
def gSetI (i : Nat) (fk fe : FE) : FS := fun ρ => (fe ρ).bind fun z => if ownL i z.2 = true then (fk z.2).bind fun w => match ownP i w.2, w.1 with
  | some (.lst xs), .int k => (match ixN xs.length k with
      | some j => (match putE i (.lst (xs.set j z.1)) w.2 with
        | some ρ' => .ok (.nx ρ')
        | none => .bad)
      | none => .bad)
  | _, _ => .bad
  else .bad
theorem reps_set {K : PySem.W.Frag} {S : Addr → Prop} {H : Hp} {p : PV} {v : V} (r : Rep K S H p v) (j : Nat) : ∀ {ps : List PV} {vs : List V}, Reps K S H ps vs → Reps K S H (ps.set j p) (vs.set j v) := by
  induction j with
  | zero =>
    intro ps vs h
    cases ps with
    | nil => cases h; rfl
    | cons q ps => obtain ⟨w, ws, rfl, h, t⟩ := h; exact ⟨v, ws, rfl, r, t⟩
  | succ j ih =>
    intro ps vs h
    cases ps with
    | nil => cases h; rfl
    | cons q ps => obtain ⟨w, ws, rfl, h, t⟩ := h; exact ⟨w, _, rfl, h, ih t⟩
section
variable {X : Cx} {E : L2.St → XK} {e k : Expr} {x : Str} {pos npos spos : Pos} {fe fk : FE}
theorem us_setI (i : Nat) (hs : PS X (.Assign [.Subscript (.Name x npos) k pos] e spos) (tAsg (pE X.K E fe) (gSub (tVar i) (pE X.K E fk) rSetL))) : PS X (.Assign [.Subscript (.Name x npos) k pos] e spos) (pS X.K E (gSetI i fk fe)) := hs.imp (by
  rintro D σ H ⟨H0, A, Z, T, S, own, ρ, P, h⟩
  refine ⟨H0, A, Z, T, S, own, ρ, P, (okF.bnd P h).mono ?_⟩
  rintro p H1 - ⟨ρ1, P1, k1, h1⟩ v r1
  dsimp only at h1
  split at h1
  · rename_i hl
    unfold ownL at hl
    split at hl
    · rename_i xs hx
      obtain ⟨a, ha, hσ, hT, ⟨vs, hH, _⟩, _⟩ := P1.ownAt hx
      refine ⟨_, hσ, H0, A, Z, T, S, own, ρ1, P1, (okF.bnd P1 h1).mono ?_⟩
      rintro q H2 - ⟨ρ2, P2, k2, h2⟩ w r2
      dsimp only at h2
      cases ho : ownP i ρ2 with
      | none => rw [ho] at h2; exact h2.elim
      | some y =>
        rw [ho] at h2
        cases y <;> try exact h2.elim
        cases q <;> try exact h2.elim
        rename_i ys n
        dsimp only at h2
        cases hj : ixN ys.length n with
        | none => rw [hj] at h2; exact h2.elim
        | some j =>
          rw [hj] at h2
          dsimp only at h2
          obtain ⟨a', ha', hσ', hT', ⟨ws, hH', rw'⟩, hput⟩ := P2.ownAt ho
          rw [hσ] at hσ'
          cases hσ'
          cases r2
          obtain ⟨ρ', hp⟩ := hput (.lst (ys.set j p))
          rw [hp] at h2
          have r3 := r1.keep (k2.up P1.ts)
          have kk : ∀ b, b ≠ a → (upd H2 a (.lst (ws.set j v))) b = H2 b := fun b hb => upd_ne hb
          have kS : Keep S H2 (upd H2 a (.lst (ws.set j v))) := fun b u hb n => by rw [kk b (fun z => n (by rw [z]; exact P2.ts _ hT))]; exact hb
          obtain ⟨P3, k3⟩ := P2.put ha' hp kk ⟨_, upd_same, (reps_set r3 j rw').keep kS⟩
          exact ⟨a, ws, n, j, rfl, rfl, hH', by rw [← rw'.len]; exact hj, h2 σ _ T S own P3 (.same k3)⟩
    · cases hl
  · exact h1.elim)
end
def tNewP (C : Addr) (sp : Sp) (E : L2.St → XK) (t : TA) : TE := fun σ H Q => t σ H fun vs H1 => ∀ g dx, H1 g = none → H1 dx = none → dx ≠ g → sp (.ref g :: vs) (upd (upd H1 dx (.own g)) g (.ins C dx [])) (fun v H2 => v = .non ∧ Q (.ref g) H2) (E σ)
section
variable {X : Cx} {CX : CXT} {k : Nat} {f C : Addr} {fd : FuncData} {ps : List Str} {sp : Sp} {x : Str} {p pos : Pos} {e : Expr} {es : List Expr} {t : TA} {E : L2.St → XK}
theorem pe_newP (M : Mk X.K C f) (F : FnOk X.prog X.w X.K X.mg X.base CX k f fd ps sp) (hr : Room (k + 1) X.A) (hg : Gl X x) (hm : X.mg x = some (.ref C)) (hb : Binds X.K fd ps []) (hx : ∀ σ, PassesAt CX X σ (E σ)) (ha : PA X (e :: es) t)
    (hdb : (x == ("__debug__" : Str)) = false := by decide) (he : starEach (e :: es) X.env = (false, eval e X.env) :: starEach es X.env := by rfl) (hpl : (backTo pos (starEach es X.env)).any (·.1) = false := by rfl) :
    PE X (.Call (.Name x p) (e :: es) [] pos) (tNewP C sp E t) := by
  refine ⟨fun pins s σ H Q I h => wpAny_Call_Name_kw (ld_glob I hg hm ?_ hdb)⟩
  refine PySem.W.callWith_K (h₀ := X.base) I.ok.mod.kin M.kp (thn (ha.run pos pins s σ H _ I h) fun us s1 ⟨vs, H1, I1, r, q⟩ => ⟨I1.kIn, ?_⟩) he hpl
  have hq := q (s1.heap.objs.size + 1) s1.heap.objs.size (I1.hok.fresh (Nat.le_succ _)) (I1.hok.fresh (Nat.le_refl _)) (Nat.ne_of_lt (Nat.lt_succ_self _))
  refine run_new M F hr (hx σ) I1 r (fun s' g hi => ?_) q
  have hl : (Value.ref g :: us ++ []).length = ps.length := by
    have e := F.len _ _ _ _ hq
    rw [← e, List.append_nil, List.length_cons, List.length_cons, r.length]
  have := hb s' (Value.ref g :: us) hi hl
  rw [List.append_nil] at this
  exact this
end
def fMake (c : Str) (g : Fn) (ra : FA) : FE := fun ρ => (ra ρ).bind fun z => match g (.io (.obj c []) :: z.1.map .fr) with
  | .ok (.fr .non, .io (.obj c' fs) :: _) => if c' = c then .ok (.obj c fs, z.2) else .bad
  | .err e _ => .err e z.2
  | _ => .bad
structure MakP (P : Program) (w : World) (K : PySem.W.Frag) (mg : Str → Option Value) (base : Heap) (k : Nat) (c : Str) (sp : Sp) : Prop where
  ex : ∃ (f : Addr) (fd : FuncData) (ps : List Str), Mk K (He.ga K c) f ∧ FnOk P w K mg base (L2.CX P w) k f fd ps sp ∧ mg c = some (.ref (He.ga K c)) ∧ Binds K fd ps []
section
variable {X : Cx} {E : L2.St → XK} {e : Expr} {es : List Expr} {c : Str} {p pos : Pos} {ra : FA} {n k j : Nat} {g : Fn}
theorem make_imp {K : PySem.W.Frag} {σ : L2.St} {H : Hp} {Q : VK} (hn : ∀ ρ w, ra ρ = .ok w → w.1.length + 1 = n) (h : pE K E (fMake c g ra) σ H Q) : tNewP (He.ga K c) (spG K n g) E (pA K E ra) σ H Q := by
  obtain ⟨H0, A, Z, T, S, own, ρ, P, h⟩ := h
  refine ⟨H0, A, Z, T, S, own, ρ, P, ?_⟩
  have h := h.bnd
  cases hra : ra ρ with
  | err e' ρ' => rw [hra] at h; exact h
  | bad => rw [hra] at h; exact h
  | ok w =>
    rw [hra] at h
    intro H1 P1 k1 vs hR x dx hx hdx hne
    obtain ⟨ρ1, P1', k1', h1⟩ := h H1 P1 k1
    have hl := hn ρ w hra
    have s1 : Same H1 (upd (upd H1 dx (.own x)) x (.ins (He.ga K c) dx [])) := fun b o hb => by
      rw [upd_ne (fun z => by rw [z, hx] at hb; cases hb), upd_ne (fun z => by rw [z, hdx] at hb; cases hb)]; exact hb
    have hx2 : (upd (upd H1 dx (.own x)) x (.ins (He.ga K c) dx [])) x = some (.ins (He.ga K c) dx []) := upd_same
    generalize upd (upd H1 dx (.own x)) x (.ins (He.ga K c) dx []) = H2 at s1 hx2 ⊢
    have nSx : ¬ S x := P1'.new hx
    have hs : ∀ s, Sand S x s → S s ∨ H1 s = none := fun s z => z.imp id fun e => by rw [e]; exact hx
    have R2 : Reps K (Sand S x) H2 w.1 vs := hR.fut (.of s1) hs
    let A' : Nat → Option Addr := fun i => if i = 0 then some x else none
    have hA' : ∀ i a, A' i = some a → i = 0 ∧ a = x := fun i a h => by
      by_cases hi : i = 0
      · subst hi; cases h; exact ⟨rfl, rfl⟩
      · have : A' i = none := if_neg hi
        rw [this] at h; cases h
    have get : ∀ (i : Nat) (f : EV), (EV.io (.obj c []) :: w.1.map EV.fr)[i]? = some f → (i = 0 ∧ f = .io (.obj c [])) ∨ ∃ j q, i = j + 1 ∧ w.1[j]? = some q ∧ f = .fr q := fun i f h => by
      cases i with
      | zero => simp at h; exact .inl ⟨rfl, h.symm⟩
      | succ j =>
        simp at h
        obtain ⟨q, h1, h2⟩ := h
        exact .inr ⟨j, q, rfl, h1, h2.symm⟩
    have PE : PSt K H2 A' (Sand S x) (fun s => s = x) (Sand S x) own ((V.ref x :: vs).map some) H2 (.io (.obj c []) :: w.1.map .fr) := by
      refine ⟨fun _ _ h _ => h, fun i a h => (hA' i a h).2, fun i a h => by rw [(hA' i a h).2]; exact ⟨_, hx2⟩, fun s z => ?_, fun s z => ?_, fun s z => .inr z, fun _ z => z, by rw [List.length_cons, List.length_map, List.length_map, List.length_cons, hR.len], fun i f hf => ?_, fun i q hq => ?_, fun i j f g a h1 h2 h3 h4 => ?_⟩
      · rcases z with z | rfl
        · obtain ⟨o, ho⟩ := P1'.al s z; exact ⟨o, s1 _ _ ho⟩
        · exact ⟨_, hx2⟩
      · rcases z with z | rfl
        · obtain ⟨o, ho⟩ := P1'.al s z; exact ⟨o, s1 _ _ ho⟩
        · exact ⟨_, hx2⟩
      · rcases get i f hf with ⟨rfl, rfl⟩ | ⟨j, q, rfl, h1, rfl⟩
        · exact ⟨x, rfl, rfl, rfl, dx, [], hx2, rfl⟩
        · obtain ⟨v, e1, e2⟩ := R2.get h1
          exact ⟨v, by rw [List.map_cons, List.getElem?_cons_succ, List.getElem?_map, e1]; rfl, e2⟩
      · rcases get i _ hq with ⟨_, z⟩ | ⟨_, _, _, _, z⟩ <;> cases z
      · rcases get i f h1 with ⟨rfl, rfl⟩ | ⟨_, _, _, _, rfl⟩
        · rcases get j g h2 with ⟨rfl, rfl⟩ | ⟨_, _, _, _, rfl⟩
          · rfl
          · cases h4
        · cases h3
    refine ⟨A', _, Sand S x, own, _, by rw [List.length_cons, ← hR.len]; exact hl, PE, fun i q hq => ?_, fun i a h => ?_, ?_⟩
    · rcases get i _ hq with ⟨_, z⟩ | ⟨_, _, _, _, z⟩ <;> cases z
    · obtain ⟨rfl, rfl⟩ := hA' i a h; rfl
    · have back : ∀ (H' : Hp) (ρb : Env), PSt K H2 A' (Sand S x) (fun s => s = x) (Sand S x) own ((V.ref x :: vs).map some) H' ρb → Same H1 H' := fun H' ρb P' b o hb => P'.kp b o (s1 b o hb) fun i z => by
        have := (hA' i b z).2
        rw [this, hx] at hb
        cases hb
      dsimp only at h1
      generalize g (.io (.obj c []) :: w.1.map .fr) = r at h1 ⊢
      match r, h1 with
      | .ok (.fr q, ρb), h1 =>
        intro H' v P' rv
        cases q <;> try exact h1.elim
        cases rv
        refine ⟨rfl, ?_⟩
        match ρb, P', h1 with
        | .io (.obj c' fs) :: r, P', h1 =>
          dsimp only at h1
          split at h1
          · rename_i hc
            subst hc
            obtain ⟨a, ha, _, _, t⟩ := P'.sl 0 _ rfl
            cases (hA' 0 a ha).2
            have s2 := back H' _ P'
            exact h1 H' (P1'.same s2) (.of s2) _ (top_rep nSx t)
          · exact h1.elim
        | [], _, h1 => exact h1.elim
        | .no :: _, _, h1 => exact h1.elim
        | .fr _ :: _, _, h1 => exact h1.elim
        | .ow _ :: _, _, h1 => exact h1.elim
        | .io .non :: _, _, h1 => exact h1.elim
        | .io (.bl _) :: _, _, h1 => exact h1.elim
        | .io (.int _) :: _, _, h1 => exact h1.elim
        | .io (.str _) :: _, _, h1 => exact h1.elim
        | .io (.tup _) :: _, _, h1 => exact h1.elim
        | .io (.lst _) :: _, _, h1 => exact h1.elim
        | .io (.scr _) :: _, _, h1 => exact h1.elim
        | .io (.dic _) :: _, _, h1 => exact h1.elim
      | .ok (.ow q, ρb), h1 => exact h1.elim
      | .ok (.no, ρb), h1 => exact h1.elim
      | .ok (.io q, ρb), h1 => exact h1.elim
      | .err e ρb, h1 =>
        intro H' d P' hd
        have s2 := back H' _ P'
        obtain ⟨vfs, d1, d2⟩ := hd
        exact h1 d H' (P1'.same s2) (.of s2) ⟨vfs, d1, d2.fut .refl fun s z => .inl (.inl z)⟩
      | .bad, h1 => exact h1.elim
theorem ue_make (M : MakP X.prog X.w X.K X.mg X.base k c (spG X.K n g)) (hr : Room j X.A) (hk : k + 1 ≤ j) (hg : Gl X c) (hx : ∀ σ, PassesAt (L2.CX X.prog X.w) X σ (E σ)) (ha : PA X (e :: es) (pA X.K E ra)) (hn : ∀ ρ w, ra ρ = .ok w → w.1.length + 1 = n)
    (hdb : (c == ("__debug__" : Str)) = false := by decide) (he : starEach (e :: es) X.env = (false, eval e X.env) :: starEach es X.env := by rfl) (hpl : (backTo pos (starEach es X.env)).any (·.1) = false := by rfl) :
    PE X (.Call (.Name c p) (e :: es) [] pos) (pE X.K E (fMake c g ra)) := by
  obtain ⟨f, fd, ps, M1, F, hm, hb⟩ := M.ex
  exact (pe_newP M1 F (hr.mono hk) hg hm hb hx ha hdb he hpl).imp fun _ _ _ h => make_imp hn h
end
def isRecv (c m : Str) : PV → Bool
  | .obj c' fs => decide (c' = c) && (fs.lookup m).isNone
  | _ => false
def fMeth (c m : Str) (g : Fn) (fo : FE) (fa : FAs) : FE := fun ρ => (fo ρ).bind fun z => if isRecv c m z.1 = true then (fa z.2).bind fun w => (callR g (.e z.1 :: w.1) w.2).bind fun u => ofO (frz u.1) u.2 else .bad
theorem look_none {K : PySem.W.Frag} {S : Addr → Prop} {H : Hp} {f : Str} : ∀ {ps : List (Str × PV)} {vs : List (Str × V)}, RepF K S H ps vs → (ps.lookup f).isNone = true → vs.lookup f = none
  | [], _, h, _ => by cases h; rfl
  | (g, q) :: ps, _, ⟨v, r, e, h, t⟩, e2 => by
    subst e
    rw [List.lookup_cons] at e2 ⊢
    cases hb : (f == g) with
    | true => rw [hb] at e2; cases e2
    | false => rw [hb] at e2; exact look_none t e2
structure MetP (P : Program) (w : World) (K : PySem.W.Frag) (mg : Str → Option Value) (base : Heap) (k : Nat) (c m : Str) (sp : Sp) : Prop where
  ex : ∃ (f : Addr) (fd : FuncData) (ps : List Str), Cls K (He.ga K c) ∧ Meth K (He.ga K c) m f ∧ FnOk P w K mg base (L2.CX P w) k f fd ps sp ∧ Binds K fd ps []
section
variable {X : Cx} {E : L2.St → XK} {o e : Expr} {es : List Expr} {c m : Str} {p pos apos : Pos} {fo : FE} {fa : FAs} {n k j : Nat} {g : Fn}
theorem meth_imp {K : PySem.W.Frag} {σ : L2.St} {H : Hp} {Q : VK} (hn : ∀ ρ w, fa ρ = .ok w → w.1.length + 1 = n) (h : pE K E (fMeth c m g fo fa) σ H Q) : tMethS (He.ga K c) m (spG K n g) E (pE K E fo) (pAs K E fa) σ H Q := by
  obtain ⟨H0, A, Z, T, S, own, ρ, P, h⟩ := h
  refine ⟨H0, A, Z, T, S, own, ρ, P, h.bnd.mono ?_⟩
  rintro q H1 - ⟨ρ1, P1, k1, h1⟩ v r1
  dsimp only at h1
  split at h1
  · rename_i hrv
    cases q <;> try (cases hrv; done)
    rename_i c' fs
    unfold isRecv at hrv
    rw [Bool.and_eq_true, decide_eq_true_eq] at hrv
    obtain ⟨rfl, hl⟩ := hrv
    obtain ⟨a, dx, vfs, rfl, na, ha, rf⟩ := id r1
    refine ⟨a, dx, vfs, rfl, ha, look_none rf hl, H0, A, Z, T, S, own, ρ1, P1, ?_⟩
    have h2 := okR.bnd (r := fa ρ1) h1
    cases hfa : fa ρ1 with
    | err e' ρ' => rw [hfa] at h2; exact h2
    | bad => rw [hfa] at h2; exact h2
    | ok w =>
      rw [hfa] at h2
      intro H2 P2 k2 vs hR
      obtain ⟨ρ2, P2', k2', h3⟩ := h2 H2 P2 k2
      exact call_imp (as := .e _ :: w.1) P2' ⟨_, vs, rfl, r1.keep k2', hR⟩ (hn ρ1 w hfa) h3
  · exact h1.elim
theorem ue_meth {pl : Sem Bool} (M : MetP X.prog X.w X.K X.mg X.base k c m (spG X.K n g)) (hr : Room j X.A) (hk : k ≤ j) (hx : ∀ σ, PassesAt (L2.CX X.prog X.w) X σ (E σ)) (ho : PE X o (pE X.K E fo)) (ha : PA X (e :: es) (pAs X.K E fa)) (hn : ∀ ρ w, fa ρ = .ok w → w.1.length + 1 = n)
    (hst : starEach (e :: es) X.env = (false, eval e X.env) :: starEach es X.env := by rfl) (hpl : (backTo pos (starEach es X.env)).any (·.1) = false := by rfl)
    (ht : eval (.Call (.Attribute o m apos) (e :: es) [] pos) X.env = (do
      let ov ← eval o X.env
      standAt apos.atName
      let (f, first) ← holding [ov] (getMethod ov m pl)
      callWith pos f first (backTo pos (starEach (e :: es) X.env)) (backToKw pos (keywordEach [] X.env))) := by rfl) : PE X (.Call (.Attribute o m apos) (e :: es) [] pos) (pE X.K E (fMeth c m g fo fa)) := by
  obtain ⟨f, fd, ps, C, M1, F, hb⟩ := M.ex
  exact (pe_methS ho C M1 F (hr.mono hk) hb hx ha hst hpl ht).imp fun _ _ _ h => meth_imp hn h
end
theorem fNil_len {ρ : Env} {w : List PV × Env} (h : fNil ρ = .ok w) : w.1.length = 0 := by cases h; rfl
theorem fCons_len {f : FE} {r : FA} {n : Nat} (hr : ∀ ρ w, r ρ = .ok w → w.1.length = n) : ∀ ρ w, fCons f r ρ = .ok w → w.1.length = n + 1 := fun ρ w h => by
  unfold fCons at h
  cases e : f ρ with
  | ok z =>
    rw [e] at h
    have h : (r z.2).bind (fun w => Res.ok (z.1 :: w.1, w.2)) = .ok w := h
    cases e2 : r z.2 with
    | ok u => rw [e2] at h; cases h; exact congrArg Nat.succ (hr _ _ e2)
    | err _ _ => rw [e2] at h; cases h
    | bad => rw [e2] at h; cases h
  | err _ _ => rw [e] at h; cases h
  | bad => rw [e] at h; cases h
end Ev
namespace Ev
open PySem PySem.Spec PyProof.Rows L2
end Ev
namespace Ev
open PySem PySem.Spec PyProof.Rows L2
theorem tYes_i {σ : L2.St} {H : Hp} {A B : Hp → Prop} (h : A H) : tYes σ H (fun b H3 => if b = true then A H3 else B H3) := by
  unfold tYes
  dsimp only
  rw [if_pos rfl]
  exact h
end Ev
namespace Ev
open PySem PySem.Spec PyProof.Rows L2
end Ev
namespace Ev
open PySem PySem.Spec PyProof.Rows L2
def lexlt (p q : Int × Int) : Prop := p.1 < q.1 ∨ (p.1 = q.1 ∧ p.2 < q.2)
structure Good (n : Int) (ps : List (Int × Int)) : Prop where
  bd : ∀ q ∈ ps, 0 ≤ q.1 ∧ q.1 < q.2 ∧ q.2 < n
  pw : ps.Pairwise lexlt
theorem Good.next {n : Int} {ps : List (Int × Int)} (g : Good n ps) {i : Nat} {p q : Int × Int} (h1 : ps[i]? = some p) (h2 : ps[i + 1]? = some q) : lexlt p q := by
  obtain ⟨a1, b1⟩ := List.getElem?_eq_some_iff.mp h1
  obtain ⟨a2, b2⟩ := List.getElem?_eq_some_iff.mp h2
  have := List.pairwise_iff_getElem.mp g.pw i (i + 1) a1 a2 (Nat.lt_succ_self _)
  rw [b1, b2] at this
  exact this
def SeqOf (H : Hp) (e : Addr) (xs : List V) : Prop := H e = some (.lst xs) ∨ H e = some (.tup xs)
theorem SeqOf.same {H H' : Hp} {e : Addr} {xs : List V} (s : Same H H') (h : SeqOf H e xs) : SeqOf H' e xs := h.elim (fun h => .inl (s _ _ h)) fun h => .inr (s _ _ h)
instance (p q : Int × Int) : Decidable (lexlt p q) := inferInstanceAs (Decidable (_ ∨ _))
def OptAt (H : Hp) (xs : List V) (qs : List (Option (Int × Int))) : Prop := xs.length = qs.length ∧ ∀ (i : Nat) (x : V) (q : Int × Int), xs[i]? = some x → qs[i]? = some (some q) → PrAt H x q
theorem OptAt.same {H H' : Hp} {xs : List V} {qs : List (Option (Int × Int))} (s : Same H H') (h : OptAt H xs qs) : OptAt H' xs qs := ⟨h.1, fun i x q h1 h2 => (h.2 i x q h1 h2).kp (p := 0) (.of s)⟩
theorem PrsAt.opt {H : Hp} {xs : List V} {ps : List (Int × Int)} (h : PrsAt H xs ps) : OptAt H xs (ps.map some) := ⟨by rw [List.length_map]; exact paired_len h, fun i x q h1 h2 => by
  obtain ⟨u, e1, e2⟩ := paired_get h h1
  rw [List.getElem?_map, e1] at h2
  cases h2
  exact e2⟩
end Ev
namespace Ev
open PySem PySem.Spec PyProof.Rows L2
abbrev rTupOf (K : PySem.W.Frag) : List V → Hp → VK → Prop := fun xs H Q => ∃ p ys, xs = [.ref p] ∧ ((SqL K H p ys ∧ ∀ l, H l = none → Q (.ref l) (upd H l (.tup ys))) ∨ (SqT K H p ys ∧ Q (.ref p) H))
/-- at D a list of new lists, the i-th holds f i -/
structure RowsF (H0 H : Hp) (D : Addr) (ls : List Addr) (f : Nat → List Int) : Prop where
  top : H D = some (.lst (ls.map V.ref))
  nd : ls.Nodup
  nD : D ∉ ls
  new : ∀ l ∈ ls, H0 l = none
  row : ∀ i l, ls[i]? = some l → H l = some (.lst ((f i).map V.int))
theorem RowsF.same {H0 H H' : Hp} {D : Addr} {ls : List Addr} {f : Nat → List Int} (s : Same H H') (r : RowsF H0 H D ls f) : RowsF H0 H' D ls f := ⟨s _ _ r.top, r.nd, r.nD, r.new, fun i l h => s _ _ (r.row i l h)⟩
theorem RowsF.put {H0 H : Hp} {D : Addr} {ls : List Addr} {f : Nat → List Int} (r : RowsF H0 H D ls f) {i0 : Nat} {l0 : Addr} (h0 : ls[i0]? = some l0) (ns : List Int) :
    RowsF H0 (upd H l0 (.lst (ns.map V.int))) D ls (fun i => if i = i0 then ns else f i) where
  top := by
    rw [upd_ne (a := l0) (b := D) (fun z => r.nD (by rw [z]; exact List.mem_of_getElem? h0))]
    exact r.top
  nd := r.nd
  nD := r.nD
  new := r.new
  row := fun i l h => by
    by_cases e : i = i0
    · subst e
      rw [h0] at h
      cases h
      rw [upd_same, if_pos rfl]
    · rw [if_neg e]
      have hne : l ≠ l0 := fun z => e (by
        subst z
        obtain ⟨a1, b1⟩ := List.getElem?_eq_some_iff.mp h
        obtain ⟨a2, b2⟩ := List.getElem?_eq_some_iff.mp h0
        rcases Nat.lt_trichotomy i i0 with q | q | q
        · exact absurd (b1.trans b2.symm) (List.pairwise_iff_getElem.mp r.nd i i0 a1 a2 q)
        · exact q
        · exact absurd (b2.trans b1.symm) (List.pairwise_iff_getElem.mp r.nd i0 i a2 a1 q))
      rw [upd_ne hne]
      exact r.row i l h
theorem RowsF.keep0 {H0 H : Hp} {D : Addr} {ls : List Addr} {f : Nat → List Int} (r : RowsF H0 H D ls f) (s : Same H0 H) {i0 : Nat} {l0 : Addr} (h0 : ls[i0]? = some l0) (o : HO) : Same H0 (upd H l0 o) := fun b u e => by
  rw [upd_ne (ne_of_none e (r.new l0 (List.mem_of_getElem? h0)))]
  exact s _ _ e
theorem nbr_snoc (ps : List (Int × Int)) (q : Int × Int) (i : Int) : nbr (ps ++ [q]) i = nbr ps i ++ ((if q.1 = i then [q.2] else []) ++ (if q.2 = i then [q.1] else [])) := by
  unfold nbr
  rw [List.flatMap_append, List.flatMap_singleton]
theorem nbr_len (i : Int) : ∀ ps : List (Int × Int), (nbr ps i).length ≤ 2 * ps.length
  | [] => Nat.le_refl _
  | q :: r => by
    have ih := nbr_len i r
    unfold nbr at ih ⊢
    rw [List.flatMap_cons, List.length_append, List.length_append, List.length_cons]
    have h1 : (if q.1 = i then [q.2] else []).length ≤ 1 := by split <;> simp
    have h2 : (if q.2 = i then [q.1] else []).length ≤ 1 := by split <;> simp
    omega
end Ev
namespace Ev
open PySem PySem.Spec PyProof.Rows L2
end Ev
namespace Ev
open PySem PySem.Spec PyProof.Rows L2
end Ev
namespace L2
open PySem PySem.Spec PyProof.Rows
end L2
namespace Ev
open PySem PySem.Spec PyProof.Rows L2
end Ev
namespace Ev
open PySem PySem.Spec PyProof.Rows L2
end Ev
namespace Ev
open PySem PySem.Spec PyProof.Rows L2
theorem Good.sub {n : Int} {ps qs : List (Int × Int)} (g : Good n ps) (h : qs.Sublist ps) : Good n qs := ⟨fun q hq => g.bd q (h.subset hq), g.pw.sublist h⟩
theorem Good.filter {n : Int} {ps : List (Int × Int)} (g : Good n ps) (c : Int × Int → Bool) : Good n (ps.filter c) := g.sub (List.filter_sublist)
theorem KP.fresh {p D : Addr} {H H' : Hp} {o : HO} (k : KP p H H') (h : H D = none) : KP p H (upd H' D o) := ⟨fun b o e nz => by rw [upd_ne (ne_of_none e h)]; exact k.nl b o e nz, fun b zs nb e => by rw [upd_ne (ne_of_none e h)]; exact k.ls b zs nb e⟩
end Ev
namespace Ev
open PySem PySem.Spec PyProof.Rows L2
end Ev
namespace Ev
open PySem PySem.Spec PyProof.Rows L2
end Ev
namespace Ev
open PySem PySem.Spec PyProof.Rows L2
theorem op_isBx {X : Cx} : OpR X (compareOp .Is) (fun x y H Q => ∃ b : Bool, y = .bl b ∧ sc x = true ∧ Q (.bl (decide (x = .bl b))) H) := by
  intro pins s σ H x y v u Q I rx ry h
  obtain ⟨b, rfl, hs, q⟩ := h
  cases (show u = Value.bool b from ry)
  cases x with
  | bl a =>
    cases (show v = Value.bool a from rx)
    by_cases e : a = b
    · subst e
      exact wpAny_is_self rfl ⟨.bl true, H, I, rfl, by simpa using q⟩
    · exact wpAny_is_other rfl (fun z => e (Value.bool.inj z)) ⟨.bl false, H, I, rfl, by simpa [e] using q⟩
  | non =>
    cases (show v = Value.none from rx)
    exact wpAny_is_other rfl (fun z => nomatch z) ⟨.bl false, H, I, rfl, q⟩
  | int i =>
    obtain ⟨t, rfl⟩ := rx
    exact wpAny_is_other rfl (fun z => nomatch z) ⟨.bl false, H, I, rfl, q⟩
  | str i =>
    obtain ⟨t, rfl⟩ := rx
    exact wpAny_is_other rfl (fun z => nomatch z) ⟨.bl false, H, I, rfl, q⟩
  | _ => cases hs
end Ev
namespace Ev
open PySem PySem.Spec PyProof.Rows L2
end Ev
namespace Ev
open PySem PySem.Spec PyProof.Rows L2
def pNeg : PV → Option PV
  | .int i => some (.int (-i))
  | _ => none
def pInvI : PV → Option PV
  | .int i => some (.int (Builtin.bitNot i))
  | _ => none
def pBits : PV → Option PV
  | .int i => some (.int (Builtin.Int.intBits i : Nat))
  | _ => none
def pIsB : PV → PV → Option PV
  | .bl a, .bl b => some (.bl (a == b))
  | .non, .bl _ => some (.bl false)
  | .int _, .bl _ => some (.bl false)
  | .str _, .bl _ => some (.bl false)
  | _, _ => none
section
variable {X : Cx} {E : L2.St → XK} {e a b : Expr} {pos p apos : Pos} {fa fb : FE} {op : UnaryOp}
theorem pu_int {g : Int → Int} (h : UnR X (unaryOp op) (rU fun i => .int (g i))) {gp : PV → Option PV} (h1 : ∀ p z, gp p = some z → ∃ i, p = .int i ∧ z = .int (g i)) : PU X (unaryOp op) gp := fun pins s σ H x u Q I r ⟨S, p, z, al, hr, e, k⟩ => h pins s σ H x u Q I r (by
  obtain ⟨i, rfl, rfl⟩ := h1 p z e
  obtain rfl := hr
  exact ⟨i, rfl, k _ _ (.refl _) rfl⟩)
theorem pu_neg : PU X (unaryOp .USub) pNeg := pu_int un_neg fun p z e => by
  cases p <;> first | (cases e; exact ⟨_, rfl, rfl⟩) | cases e
theorem pu_inv : PU X (unaryOp .Invert) pInvI := pu_int un_inv fun p z e => by
  cases p <;> first | (cases e; exact ⟨_, rfl, rfl⟩) | cases e
theorem ue_bits (ha : PE X e (pE X.K E fa)) (hbase : attributeBase e "bit_length" X.env (eval e X.env) = eval e X.env := by rfl) (hline : (apos.endLine == pos.line) = true := by rfl) : PE X (.Call (.Attribute e "bit_length" apos) [] [] pos) (pE X.K E (fUn pBits fa)) := (pe_bits ha hbase hline).imp (by
  rintro σ H Q ⟨H0, A, Z, T, S, own, ρ, P, h⟩
  refine ⟨H0, A, Z, T, S, own, ρ, P, h.bnd.mono ?_⟩
  rintro p H1 - ⟨ρ1, P1, k1, h1⟩ v r1
  obtain ⟨z, e, k⟩ := ofO_ok P1 h1
  cases p <;> try (cases e; done)
  cases e
  obtain rfl := r1
  exact ⟨_, rfl, k H1 (.refl _) _ rfl⟩)
theorem po_isB : PO X (compareOp .Is) pIsB := po_of op_isBx (by
  intro S p q z x y H Q al h1 h2 e k
  cases q <;> try (cases p <;> cases e; done)
  obtain rfl := h2
  rename_i b
  cases p <;> try (cases e; done)
  · obtain rfl := h1; cases e; exact ⟨b, rfl, rfl, k _ _ (.refl _) (by simp [Rep])⟩
  · obtain rfl := h1; cases e; refine ⟨b, rfl, rfl, k _ _ (.refl _) ?_⟩; rename_i a; cases a <;> cases b <;> simp [Rep]
  · obtain rfl := h1; cases e; exact ⟨b, rfl, rfl, k _ _ (.refl _) (by simp [Rep])⟩
  · obtain rfl := h1; cases e; exact ⟨b, rfl, rfl, k _ _ (.refl _) (by simp [Rep])⟩)
end
def fTupleRg1 (fa : FE) : FE := fun ρ => (fRng1 fa ρ).bind fun z => .ok (.tup z.1, z.2)
section
variable {X : Cx} {E : L2.St → XK} {e a b : Expr} {pos p p2 pos2 : Pos} {fa fb : FE}
theorem rg_rep {K : PySem.W.Frag} {S : Addr → Prop} {H : Hp} {a b : Int} : Reps K S H (rngP a b) (rgV a b) := by
  unfold rngP rgV
  generalize List.range (b - a).toNat = l
  induction l with
  | nil => rfl
  | cons x l ih => exact ⟨_, _, rfl, rfl, ih⟩
theorem rng1_ok {p : PV} {items : List PV} (e : rng1P p = some items) : ∃ n, p = .int n ∧ RgOk 0 n ∧ items = rngP 0 n := by
  cases p <;> try (cases e; done)
  unfold rng1P at e
  dsimp only at e
  split at e
  · rename_i hc
    rw [Bool.and_eq_true, decide_eq_true_eq, decide_eq_true_eq] at hc
    cases e
    exact ⟨_, rfl, ⟨by omega, by omega, by omega, by omega, by omega⟩, rfl⟩
  · cases e
theorem rng2_ok {p q : PV} {items : List PV} (e : rng2P p q = some items) : ∃ m n, p = .int m ∧ q = .int n ∧ RgOk m n ∧ items = rngP m n := by
  cases p <;> try (cases q <;> cases e; done)
  cases q <;> try (cases e; done)
  unfold rng2P at e
  dsimp only at e
  split at e
  · rename_i hc
    rw [Bool.and_eq_true, Bool.and_eq_true, Bool.and_eq_true, decide_eq_true_eq, decide_eq_true_eq, decide_eq_true_eq, decide_eq_true_eq] at hc
    cases e
    exact ⟨_, _, rfl, rfl, ⟨by omega, by omega, by omega, by omega, by omega⟩, rfl⟩
  · cases e
def kRg (mk : List V → HO) (te : L2.St → Hp → (Int → Int → Hp → Prop) → Prop) : TE := fun σ H Q => te σ H fun a b H1 => RgOk a b ∧ ∀ q, H1 q = none → Q (.ref q) (upd H1 q (mk (rgV a b)))
theorem rg1_ {σ : L2.St} {H : Hp} {Q : VK} {c : List PV → PV} {mk : List V → HO} (hc : ∀ (S : Addr → Prop) (H1 : Hp) (q : Addr) (ps : List PV) (vs : List V), (∀ s, S s → ∃ o, H1 s = some o) → H1 q = none → Reps X.K S H1 ps vs → Rep X.K S (upd H1 q (mk vs)) (c ps) (.ref q))
    (h : pE X.K E (fun ρ => (fRng1 fa ρ).bind fun z => .ok (c z.1, z.2)) σ H Q) : kRg mk (tRg1 (pE X.K E fa)) σ H Q := by
  obtain ⟨H0, A, Z, T, S, own, ρ, P, h⟩ := h
  have h := okR.bnd h
  unfold fRng1 at h
  refine ⟨H0, A, Z, T, S, own, ρ, P, h.bnd.mono ?_⟩
  rintro p H1 - ⟨ρ1, P1, k1, h1⟩ v r1
  obtain ⟨items, e, k⟩ := ofO_ok P1 h1
  obtain ⟨ρ2, P2, k2, h2⟩ := k H1 (.refl _)
  obtain ⟨n, rfl, ok, rfl⟩ := rng1_ok e
  obtain rfl := r1
  exact ⟨n, rfl, ok, fun q hq => h2 _ (P2.same (same_new hq)) (.of (same_new hq)) _ (hc S H1 q _ _ P2.al hq rg_rep)⟩
theorem ue_tupleRg1 (hg : Gl X "tuple") (hm : X.mg "tuple" = none) (hg2 : Gl X "range") (hm2 : X.mg "range" = none) (hc : X.calm = true) (ha : PE X a (pE X.K E fa)) (na : starEach [a] X.env = (false, eval a X.env) :: starEach [] X.env := by rfl) (ne : starEach [.Call (.Name "range" p2) [a] [] pos2] X.env = (false, eval (.Call (.Name "range" p2) [a] [] pos2) X.env) :: starEach [] X.env := by rfl) :
    PE X (.Call (.Name "tuple" p) [.Call (.Name "range" p2) [a] [] pos2] [] pos) (pE X.K E (fTupleRg1 fa)) := (pe_tupRg hc hg hm (prg_1 hg2 hm2 ha na) ne).imp fun σ H Q h => rg1_ (mk := fun vs => .tup vs) (fun S H1 q ps vs al hq r => rep_new_tup al hq r) h
end
end Ev
namespace Ev
open PySem PySem.Spec PyProof.Rows L2
def Tup2 (K : PySem.W.Frag) (H : Hp) (x : V) (ij : Int × Int) : Prop := ∃ t, x = .ref t ∧ SqT K H t [.int ij.1, .int ij.2]
theorem Tup2.inj {X : Cx} {pins : List (Addr × Obj)} {σ : L2.St} {H : Hp} {s : Shared} (I : Inv X pins σ H s) {x : V} {a b : Int × Int} (h : Tup2 X.K H x a) (h' : Tup2 X.K H x b) : a = b := by
  obtain ⟨t, rfl, h⟩ := h
  obtain ⟨t', e, h'⟩ := h'
  cases e
  have := I.tuple_inj h h'
  simp at this
  exact Prod.ext this.1 this.2
def prOf : PV → Option (Int × Int)
  | .tup [.int i, .int j] => some (i, j)
  | _ => none
def prsOf : List PV → Option (List (Int × Int))
  | [] => some []
  | p :: ps => match prOf p, prsOf ps with
    | some a, some as => some (a :: as)
    | _, _ => none
def prP (a : Int × Int) : PV := .tup [.int a.1, .int a.2]
theorem prOf_eq {p : PV} {a : Int × Int} (h : prOf p = some a) : p = prP a := by
  unfold prOf at h
  split at h
  · cases h; rfl
  · cases h
theorem prsOf_eq : ∀ {ps : List PV} {as : List (Int × Int)}, prsOf ps = some as → ps = as.map prP
  | [], _, h => by cases h; rfl
  | p :: ps, _, h => by
    unfold prsOf at h
    split at h
    · rename_i a as h1 h2
      cases h
      rw [List.map_cons, ← prOf_eq h1, ← prsOf_eq h2]
    · cases h
theorem prsOf_map : ∀ as : List (Int × Int), prsOf (as.map prP) = some as
  | [] => rfl
  | a :: as => by rw [List.map_cons]; unfold prsOf; rw [prsOf_map as]; rfl
section
variable {X : Cx} {K : PySem.W.Frag} {S : Addr → Prop} {H : Hp}
theorem tup2_rep {a : Int × Int} {v : V} (h : Rep K S H (prP a) v) : Tup2 K H v a := by
  obtain ⟨t, vs, rfl, ht, r⟩ := h
  obtain ⟨x, y, rfl, h1, h2⟩ := two_rep r
  cases h1
  cases h2
  exact ⟨t, rfl, sqT_of ht⟩
end
end Ev
namespace Ev
open PySem PySem.Spec PyProof.Rows L2
/-- its answer -/
def callP (F : Fn) (ps : List PV) : Option PV := match F (ps.map .fr) with
  | .ok (e, _) => frz e
  | _ => none
theorem PSt.ofFrz {K : PySem.W.Frag} {S : Addr → Prop} {H : Hp} {ps : List PV} {vs : List V} {own : Nat → Addr} (al : ∀ s, S s → ∃ o, H s = some o) (r : Reps K S H ps vs) : PSt K H (fun _ => none) S (fun _ => False) S own (vs.map some) H (ps.map .fr) := by
  refine ⟨fun _ _ h _ => h, fun i a h => (nomatch h), fun i a h => (nomatch h), al, al, fun _ z => z.elim, fun _ z => z, by rw [List.length_map, List.length_map, r.len], fun i e he => ?_, fun i p hp => ?_, fun i j e f a h1 h2 h3 h4 => ?_⟩
  · rw [List.getElem?_map] at he
    obtain ⟨p, h1, rfl⟩ := Option.map_eq_some_iff.mp he
    obtain ⟨v, h2, h3⟩ := r.get h1
    exact ⟨v, by rw [List.getElem?_map, h2]; rfl, h3⟩
  · rw [List.getElem?_map] at hp
    obtain ⟨q, _, z⟩ := Option.map_eq_some_iff.mp hp
    cases z
  · rw [List.getElem?_map] at h1
    obtain ⟨q, _, z⟩ := Option.map_eq_some_iff.mp h1
    subst z
    cases h3
theorem spG_frz {K : PySem.W.Frag} {S : Addr → Prop} {H : Hp} {ps : List PV} {vs : List V} {F : Fn} {n : Nat} {z : PV} {Q : VK} {E : XK} (al : ∀ s, S s → ∃ o, H s = some o) (r : Reps K S H ps vs) (hn : ps.length = n) (e : callP F ps = some z) (k : ∀ v H', Same H H' → Rep K S H' z v → Q v H') : spG K n F vs H Q E := by
  refine ⟨fun _ => none, fun _ => False, S, fun _ => 0, ps.map .fr, by rw [← r.len]; exact hn, PSt.ofFrz al r, fun i p h => ?_, fun i a h => (nomatch h), ?_⟩
  · rw [List.getElem?_map] at h
    obtain ⟨q, _, z⟩ := Option.map_eq_some_iff.mp h
    cases z
  · unfold callP at e
    generalize F (ps.map .fr) = w at e ⊢
    match w, e with
    | .ok (.fr p, ρ'), e =>
      cases e
      exact fun H' v P' rv => k v H' (fun b o hb => P'.kp b o hb fun i z => nomatch z) rv
    | .ok (.ow p, ρ'), e =>
      cases e
      intro H' a P' h0 t
      have nS : ¬ S a := fun z => by obtain ⟨o, ho⟩ := al a z; rw [h0] at ho; cases ho
      exact k _ H' (fun b o hb => P'.kp b o hb fun i z => nomatch z) (top_rep nS t)
    | .ok (.no, _), e => cases e
    | .ok (.io _, _), e => cases e
    | .err _ _, e => cases e
    | .bad, e => cases e
structure OpP (P : Program) (w : World) (K : PySem.W.Frag) (mg : Str → Option Value) (base : Heap) (k : Nat) (c m : Str) (sp : Sp) : Prop where
  ex : ∃ (f : Addr) (fd : FuncData) (ps : List Str), FnOk P w K mg base (L2.CX P w) k f fd ps sp ∧ PySem.W.findIn K (.ref (He.ga K c)) m = some (some (.ref f)) ∧ PySem.W.isFn K (.ref f) = true ∧ Binds K fd ps []
section
variable {X : Cx} {k j : Nat} {c : Str} {F : Fn}
theorem reps2 {K : PySem.W.Frag} {S : Addr → Prop} {H : Hp} {p q : PV} {v w : V} (h : Rep K S H p v) (h' : Rep K S H q w) : Reps K S H [p, q] [v, w] := ⟨v, [w], rfl, h, w, [], rfl, h', rfl⟩
theorem reps1 {K : PySem.W.Frag} {S : Addr → Prop} {H : Hp} {p : PV} {v : V} (h : Rep K S H p v) : Reps K S H [p] [v] := ⟨v, [], rfl, h, rfl⟩
end
end Ev
namespace Ev
open PySem PySem.Spec PyProof.Rows L2
/-- as FnOk, the promise may speak of the heap's size at the call -/
structure FnS (P : Program) (w : World) (K : PySem.W.Frag) (mg : Str → Option Value) (base : Heap) (CX : CXT) (k : Nat) (f : Addr) (fd : FuncData) (ps : List Str) (sp : Nat → Sp) : Prop where
  len : ∀ n vs H Q E, sp n vs H Q E → vs.length = ps.length
  run : ∀ (A : Around) (outer : List PySem.Env) (s : Shared) (H : Hp) (args : Args) (us : List Value) (vs : List V) (Q : VK) (E : XK), Room k A → Env0 P w K mg base A outer s H → BindsTo s fd args (ps.zip us) → Vals vs us → sp s.heap.objs.size vs H Q E →
    codeAny (model P w) A (.call (.ref f) args) (CR CX outer P w H s Q E) s
theorem fn_ofS {CX : CXT} {P : Program} {w : World} {K : PySem.W.Frag} {mg : Str → Option Value} {base : Heap} {k : Nat} {f : Addr} {name qual : Str} {params : Arguments} {body : List Stmt} {scope : Scope} {dV kV doc pm cdv ct oc : Value} {an od : Option Addr}
    {osl : Array (Option Value)} {N ps : List Str} {sp : Nat → Sp} (lk : K.lookup f = some ⟨oc, od, .func (PySem.W.fnOf name qual params body scope dV kV doc pm an cdv ct), osl⟩) (hcd : PySem.W.codeIn K cdv qual = true) (S : FnScope N ps scope)
    (len : ∀ n vs H Q E, sp n vs H Q E → vs.length = ps.length)
    (hbody : ∀ (A : Around) (outer : List PySem.Env) (s : Shared) (H : Hp) (vs : List V) (Q : VK) (E : XK), Room k (A.deeper (envOfC qual scope s.heap.objs.size f cdv)) → sp s.heap.objs.size vs H Q E →
      ∃ t, PSs (cxOf CX P w K mg base N qual scope f cdv A outer s H E) body t ∧ t { nx := fun _ H' => Q .non H', rt := Q } (L2.start N vs) H) :
    FnS P w K mg base CX (k + 1) f (PySem.W.fnOf name qual params body scope dV kV doc pm an cdv ct) ps sp := by
  refine ⟨len, fun A0 below s0 H0 given us0 vs0 Q0 E0 room env bound rel want => ?_⟩
  have many := len _ _ _ _ _ want
  have inK : K.In s0.heap := env.mod.kin.keeps fun b1 o1 e1 => (env.bs b1 o1 e1).1
  have calm : s0.heap.NoLimit := env.mod.nolimit.keeps fun b1 o1 e1 => (env.bs b1 o1 e1).1
  refine codeAny_call_function room.depth (inK _ _ lk) rfl S.co S.gen rfl (PySem.W.codeRec_of inK hcd) (bound _ _ _ _ ?_)
  refine wpAny_newFunctionEnv_cells S.kind ?_ fun fresh same s2 laid => ?_
  · rintro ⟨n1, v1⟩ mem
    exact (S.par n1 (List.of_mem_zip mem).1).imp (fun z => z) fun z => ⟨z, PySem.W.cellsFrom_some _ _ _ (.inl z)⟩
  subst same
  refine ⟨calm.keeps laid.toInCall.keep, codeAny_func ?_⟩
  obtain ⟨term, rule, start⟩ := hbody A0 below s0 H0 vs0 Q0 E0 (room.deeper _) want
  have J0 : Inv (cxOf CX P w K mg base N qual scope f cdv A0 below s0 H0 E0) [] (L2.start N vs0) H0 s2 := inv_start S room.hd env many rel laid
  refine wpAny_mono (rule.run [] s2 (L2.start N vs0) H0 _ J0 start) (fun flow s3 done => ?_) fun _ _ out => out
  match flow, done with
  | .ret u, ⟨v, σ1, H1, J1, rv, q⟩ => exact ⟨v, H1, J1.os, J1.bare, J1.base, J1.hok, rv, q⟩
  | .next, ⟨σ1, H1, J1, q⟩ => exact ⟨V.non, H1, J1.os, J1.bare, J1.base, J1.hok, rfl, q⟩
  | .brk, ⟨_, _, _, q⟩ => exact q.elim
  | .cont, ⟨_, _, _, q⟩ => exact q.elim
/-- the object of an iterator over the tuple at t -/
abbrev itoT (t : Addr) : Obj := { cls := .type "tuple_iterator", data := .fields #[.ref t, .int 0 0] }
def ItOT (t it : Addr) : HO := .ext fun h => h.get? it = some (itoT t)
theorem itOT_ok {P : Program} {w : World} {H : Hp} {h : Heap} {t it : Addr} (e : h.get? it = some (itoT t)) : ObjOk P w H h it (ItOT t it) := ⟨e, ⟨_, e⟩, fun h1 h2 q k => k _ q⟩
def rIterT (K : PySem.W.Frag) (n : Nat) : List V → Hp → VK → Prop := fun xs H Q => ∃ (t : Addr) (zs : List V), xs = [.ref t] ∧ SqT K H t zs ∧ ∀ it, H it = Option.none → n ≤ it → Q (.ref it) (upd H it (ItOT t it))
section
variable {X : Cx}
theorem call_iterT : CallR X (.builtin "iter") (rIterT X.K X.s_0.heap.objs.size) := by
  intro pins s σ H xs us Q I r h
  obtain ⟨t, zs, rfl, hq, q⟩ := h
  obtain ⟨u, rfl, ru⟩ := vals1 r
  cases ru
  obtain ⟨its, rv, pl, hz⟩ := I.tuple hq
  refine Calls.call_function_entry (by decide +kernel) (by decide +kernel) PySem.W.kdk_entry_iter (PySem.W.kdk_args_iter _) ?_
  unfold Builtin.«iter»
  refine wpAny_bind (m := someArgs "iter" 1 2 _) (wpAny_of_eq (a := [Value.ref t]) (by first | rfl | kernel_rfl!) ?_)
  show wpAny _ _ (pyIter (.ref t) >>= _) _ _ _
  refine wpAny_bind (wpAny_pyIter_tuple (show s.heap.IsTuple t its.toArray from pl) ?_)
  refine wpAny_pure ⟨_, rfl, ?_⟩
  exact ⟨.ref s.heap.objs.size, _, I.laid (t' := s.toks) (fun b u e => Heap.get?_push_of_some _ e) (Nat.le_refl _) (itOT_ok (Heap.get?_push_size _ rfl)), rfl, q _ (I.hok.fresh (Nat.le_refl _)) I.sz⟩
end
def spIt (K : PySem.W.Frag) (c : Str) (n : Nat) : Sp := fun vs H Q _ => ∃ a dx fs t xs, vs = [.ref a] ∧ H a = some (.ins (He.ga K c) dx fs) ∧ fs.lookup ("_vertices" : Str) = some (V.ref t) ∧ SqT K H t xs ∧ ∀ it, H it = none → n ≤ it → Q (.ref it) (upd H it (ItOT t it))
structure ItP (P : Program) (w : World) (K : PySem.W.Frag) (mg : Str → Option Value) (base : Heap) (k : Nat) (c : Str) : Prop where
  ex : ∃ (f : Addr) (fd : FuncData) (ps : List Str), FnS P w K mg base (L2.CX P w) k f fd ps (spIt K c) ∧ PySem.W.findIn K (.ref (He.ga K c)) "__iter__" = some (some (.ref f)) ∧ PySem.W.isFn K (.ref f) = true ∧ Binds K fd ps []
/-- def __iter__(self): return iter(self._vertices) -/
theorem ok_iter {P : Program} {w : World} {K : PySem.W.Frag} {mg : Str → Option Value} {base : Heap} {c qual : Str} {st : Stmt} {f : Addr} {fd : FuncData} {p1 p2 p3 p4 p5 : Pos} (F : Fun K "__iter__" qual st f fd) (S : FnScope ["self"] ["self"] (defScope st)) (C : ClsP K c ["size", "edges", "_vertices", "_rows"]) (f_iter : mg "iter" = none)
    (hb : defBody st = [.Return (some (.Call (.Name "iter" p1) [.Attribute (.Name "self" p2) "_vertices" p3] [] p4)) p5]) (hg : (defScope st).names.lookup ("iter" : Str) = some .globalImplicit) (hself : (defScope st).names.lookup ("self" : Str) = some .local) : FnS P w K mg base (L2.CX P w) 1 f fd ["self"] (spIt K c) := by
  obtain ⟨oc, od, kV, doc, pm, an, cdv, ct, osl, rfl, lk, hcd⟩ := F.ex
  refine fn_ofS lk hcd S (fun n vs H Q E h => ?_) (fun A outer s H vs Q E hr h => ?_)
  · obtain ⟨a, dx, fs, t, xs, rfl, _⟩ := h
    rfl
  · obtain ⟨a, dx, fs, t, xs, rfl, ha, hl, ht, q⟩ := h
    rw [hb]
    refine ⟨_, pss_one (ps_ret (pe_callB call_iterT hg f_iter (by decide +kernel) (pa_cons (pe_fld (pe_var (i := 0) rfl (.inl hself) (by decide) (by decide)) rfl) pa_nil))), ?_⟩
    exact ⟨_, rfl, a, _, dx, fs, _, rfl, ha, C.cl, C.no _ (by decide), hl, t, xs, rfl, ht, q⟩
def pItems (c : Str) : PV → Option (List PV)
  | .obj c' fs => if c' = c then (match fs.lookup ("_vertices" : Str) with
      | some (.tup xs) => some xs
      | _ => none) else none
  | _ => none
def fIterG (c : Str) (fa : FE) : FA := fun ρ => (fa ρ).bind fun z => ofO (pItems c z.1) z.2
section
variable {X : Cx} {E : L2.St → XK} {tg e : Expr} {fa : FE} {k j : Nat} {c : Str}
theorem ui_own (I0 : ItP X.prog X.w X.K X.mg X.base k c) (hr : Room j X.A) (hk : k ≤ j) (ha : PE X e (pE X.K E fa)) : PI X tg e (pI X.K E (fIterG c fa)) := by
  obtain ⟨f, fd, ps, hF, h1, h2, hb⟩ := I0.ex
  refine ⟨fun pins s σ H R I h => ?_⟩
  have h' : pE X.K E fa σ H fun v H1 => Small X.K H1 → ∃ a dx fs t xs, v = .ref a ∧ H1 a = some (.ins (He.ga X.K c) dx fs) ∧ fs.lookup ("_vertices" : Str) = some (V.ref t) ∧ SqT X.K H1 t xs ∧ R (Itt X.K t) H1 := by
    obtain ⟨H0, A, Z, T, S, own, ρ, P, h⟩ := h
    refine ⟨H0, A, Z, T, S, own, ρ, P, h.bnd.mono ?_⟩
    rintro p H1 - ⟨ρ1, P1, k1, h1⟩ v r1 sm
    obtain ⟨items, e, kk⟩ := ofO_ok P1 h1
    have kk := kk H1 (.refl _)
    cases p <;> try (cases e; done)
    rename_i c' fs
    unfold pItems at e
    dsimp only at e
    split at e
    · rename_i hc
      subst hc
      split at e
      · rename_i xs hl
        cases e
        obtain ⟨a, dx, vfs, rfl, na, ha, rf⟩ := r1
        obtain ⟨w, l1, l2⟩ := rf.look hl
        obtain ⟨t, vs, rfl, ht, rt⟩ := l2
        exact ⟨a, dx, vfs, t, vs, rfl, ha, l1, sqT_of ht, kk (by rw [rt.len]; exact sm t vs (.inr (sqT_of ht))) _ (wk_tup ht rt)⟩
      · cases e
    · cases e
  refine thn (ha.small.run pins s σ H _ I h') fun u s1 ⟨v, H1, I1, r1, q1⟩ => ?_
  obtain ⟨a, dx, fs, t, xs, rfl, ea, hl, ht, q⟩ := q1
  cases r1
  obtain ⟨mA, J, _⟩ := ins_get I1.hok ea
  obtain ⟨od, J, _⟩ := J.look
  obtain ⟨m, hFr⟩ := I1.fr
  refine PySem.W.owit_iter hFr I1.ok.mod.kin J h1 h2 ?_
  have hsp : spIt X.K c s1.heap.objs.size [.ref a] H1 (fun v H' => ∃ it, v = .ref it ∧ H1 it = none ∧ s1.heap.objs.size ≤ it ∧ H' = upd H1 it (ItOT t it)) L2.E0 := ⟨a, dx, fs, t, xs, rfl, ea, hl, ht, fun it h1 h2 => ⟨it, rfl, h1, h2, rfl⟩⟩
  have r2 : Vals [V.ref a] [Value.ref a] := .cons rfl .nil
  refine wpAny_call (codeAny_mono (hF.run X.A X.stack s1 H1 ⟨[.ref a], []⟩ [.ref a] [.ref a] _ L2.E0 (hr.mono hk) I1.env0 (by
    have hlen := hF.len _ _ _ _ _ hsp
    have := hb s1 [.ref a] I1.kIn (by rw [List.append_nil]; exact hlen)
    rw [List.append_nil] at this
    exact this) r2 hsp) fun r s' hq => ?_)
  cases r with
  | error e => exact passL pins σ H1 s1 e s' I1 hq
  | ok fl =>
    cases fl with
    | ret u =>
      obtain ⟨v, H', I2, rv, it, rfl, hn, hge, rfl⟩ := I1.after hq
      cases rv
      have eo : s'.heap.get? it = some (itoT t) := (I2.hok it _ upd_same).1
      have hd : ItX.dropH (upd H1 it (ItOT t it)) it = H1 := ItX.dropH_upd hn
      have I3 := ItX.inv_drop I2 (a := it) (φ := fun h => h.get? it = some (itoT t)) upd_same
      have fp := ItX.inv_fp I2 (a := it) upd_same (Nat.le_trans I1.sz hge)
      rw [hd] at I3 fp
      have hT : s'.TypeIs (.ref it) "tuple_iterator" := ⟨_, eo, rfl⟩
      unfold PySem.W.OwitIt
      refine wpAny_specialOf (name := Str.ofString "__next__") hT PySem.F.slot_tuple_iterator_next.lookup ?_
      refine ⟨it, [it], _, _, H1, rfl, I3, turn_tuple t it, ⟨_, eo, rfl, rfl⟩, fun b hb => ?_, q⟩
      have e : b = it := by simpa using hb
      rw [e]
      exact fp
    | next => exact False.elim hq
    | brk => exact False.elim hq
    | cont => exact False.elim hq
end
end Ev
namespace Ev
open PySem PySem.Spec PyProof.Rows L2
/-- the items at these places -/
def pick {α : Type} (ix : List Nat) (l : List α) : List α := ix.filterMap fun i => l[i]?
structure CaKP (P : Program) (w : World) (K : PySem.W.Frag) (mg : Str → Option Value) (base : Heap) (k : Nat) (x : Str) (ks : List Str) (ix : List Nat) (sp : Sp) : Prop where
  ex : ∃ (f : Addr) (fd : FuncData) (ps : List Str), FnOk P w K mg base (L2.CX P w) k f fd ps sp ∧ mg x = some (.ref f) ∧ PySem.W.keepIn K (.ref f) = true ∧
    (∀ (s : Shared) (ws : List Value), K.In s.heap → ws.length = ks.length → BindsTo s fd ⟨[], ks.zip ws⟩ (ps.zip (pick ix ws)))
theorem vals_pick {ix : List Nat} {zs : List V} {ws : List Value} (h : Vals zs ws) : Vals (pick ix zs) (pick ix ws) := by
  have at_ : ∀ {zs : List V} {ws : List Value} (i : Nat), Vals zs ws → (zs[i]? = none ∧ ws[i]? = none) ∨ ∃ z w, zs[i]? = some z ∧ ws[i]? = some w ∧ RelV z w := by
    intro zs ws i h
    induction h generalizing i with
    | nil => exact .inl ⟨rfl, rfl⟩
    | cons r _ ih =>
      cases i with
      | zero => exact .inr ⟨_, _, rfl, rfl, r⟩
      | succ i => simpa using ih i
  unfold pick
  induction ix with
  | nil => exact .nil
  | cons i ix ih =>
    rcases at_ i h with ⟨h1, h2⟩ | ⟨z, w, h1, h2, h3⟩
    · rw [List.filterMap_cons_none h1, List.filterMap_cons_none h2]; exact ih
    · rw [List.filterMap_cons_some h1, List.filterMap_cons_some h2]; exact .cons h3 ih
theorem rel_pick {K : PySem.W.Frag} {S : Addr → Prop} {σ : L2.St} {H : Hp} {ix : List Nat} {as : List AV} {vs : List V} (h : RelA K S σ H as vs) : RelA K S σ H (pick ix as) (pick ix vs) := by
  have at_ : ∀ {as : List AV} {vs : List V} (i : Nat), RelA K S σ H as vs → (as[i]? = none ∧ vs[i]? = none) ∨ ∃ a v, as[i]? = some a ∧ vs[i]? = some v ∧ RelA K S σ H [a] [v] := by
    intro as
    induction as with
    | nil => intro vs i h; cases h; exact .inl ⟨rfl, rfl⟩
    | cons a as ih =>
      intro vs i h
      cases a with
      | e p =>
        obtain ⟨v, r, e, h1, h2⟩ := h
        subst e
        cases i with
        | zero => exact .inr ⟨_, _, rfl, rfl, v, [], rfl, h1, rfl⟩
        | succ i => simpa using ih i h2
      | r q =>
        obtain ⟨v, r, e, h1, h2⟩ := h
        subst e
        cases i with
        | zero => exact .inr ⟨_, _, rfl, rfl, v, [], rfl, h1, rfl⟩
        | succ i => simpa using ih i h2
  unfold pick
  induction ix with
  | nil => rfl
  | cons i ix ih =>
    rcases at_ i h with ⟨h1, h2⟩ | ⟨a, v, h1, h2, h3⟩
    · rw [List.filterMap_cons_none h1, List.filterMap_cons_none h2]; exact ih
    · rw [List.filterMap_cons_some h1, List.filterMap_cons_some h2]
      cases a with
      | e p => obtain ⟨w, r, e, h3, _⟩ := h3; cases e; exact ⟨_, _, rfl, h3, ih⟩
      | r q => obtain ⟨w, r, e, h3, _⟩ := h3; cases e; exact ⟨_, _, rfl, h3, ih⟩
def fCallK (g : Fn) (n : Nat) (ix : List Nat) (fa : FAs) : FE := fun ρ => (fa ρ).bind fun z => if (pick ix z.1).length = n then (callR g (pick ix z.1) z.2).bind fun w => ofO (frz w.1) w.2 else .bad
theorem rel_len' {K : PySem.W.Frag} {S : Addr → Prop} {σ : L2.St} {H : Hp} : ∀ {as : List AV} {vs : List V}, RelA K S σ H as vs → vs.length = as.length
  | [], _, h => by cases h; rfl
  | .e _ :: _, _, ⟨_, _, e, _, t⟩ => by subst e; exact congrArg Nat.succ (rel_len' t)
  | .r _ :: _, _, ⟨_, _, e, _, t⟩ => by subst e; exact congrArg Nat.succ (rel_len' t)
section
variable {X : Cx} {E : L2.St → XK} {e o : Expr} {es : List Expr} {x c m : Str} {p pos apos kpos : Pos} {f : FE} {fo : FE} {fa ra : FAs} {n k j : Nat} {g : Fn} {kws : List Keyword} {ks : List Str} {ix : List Nat} {nm : Option Str}
theorem uk_nil : PK X [] (pAs X.K E aNil) := ⟨fun pos pins s σ H Q I h => pk_nil.run pos pins s σ H Q I (by
  obtain ⟨H0, A, Z, T, S, own, ρ, P, h⟩ := h
  exact h H P .refl _ rfl)⟩
theorem uk_cons (ha : PE X e (pE X.K E f)) (hr : PK X kws (pAs X.K E ra)) : PK X (⟨nm, e, kpos⟩ :: kws) (pAs X.K E (aCons f ra)) := ⟨fun pos pins s σ H Q I h => (pk_cons ha hr).run pos pins s σ H Q I (by
  obtain ⟨H0, A, Z, T, S, own, ρ, P, h⟩ := h
  refine ⟨H0, A, Z, T, S, own, ρ, P, h.bnd.mono ?_⟩
  rintro p H1 - ⟨ρ1, P1, k1, h1⟩ v r1
  refine ⟨H0, A, Z, T, S, own, ρ1, P1, h1.bnd.mono ?_⟩
  rintro ps H2 - ⟨ρ2, P2, k2, h2⟩ vs r2
  exact h2 H2 P2 .refl _ ⟨v, vs, rfl, r1.keep k2, r2⟩)⟩
theorem callK_imp {K : PySem.W.Frag} {σ : L2.St} {H : Hp} {Q : VK} (hn : ∀ ρ w, fa ρ = .ok w → w.1.length = ks.length) (h : pE K E (fCallK g n ix fa) σ H Q) : tCallSK (spG K n g) ks.length (pick ix) E (pAs K E fa) σ H Q := by
  obtain ⟨H0, A, Z, T, S, own, ρ, P, h⟩ := h
  refine ⟨H0, A, Z, T, S, own, ρ, P, ?_⟩
  have h := h.bnd
  cases e : fa ρ with
  | ok w =>
    rw [e] at h
    intro H1 P1 k1 vs hR
    obtain ⟨ρ1, P1', k1', h1⟩ := h H1 P1 k1
    dsimp only at h1
    split at h1
    · rename_i hl
      exact ⟨(rel_len' hR).trans (hn ρ w e), call_imp P1' (rel_pick hR) hl h1⟩
    · exact h1.elim
  | err e' ρ' => rw [e] at h; exact h
  | bad => rw [e] at h; exact h
/-- f(a=.., b=..) -/
theorem ue_callK (c : CaKP X.prog X.w X.K X.mg X.base k x ks ix (spG X.K n g)) (hr : Room j X.A) (hk : k ≤ j) (hg : Gl X x) (hx : ∀ σ, PassesAt (L2.CX X.prog X.w) X σ (E σ)) (hkw : PK X kws (pAs X.K E fa)) (hn : ∀ ρ w, fa ρ = .ok w → w.1.length = ks.length)
    (hall : (backToKw pos (keywordEach kws X.env)).all (·.1.isSome) = true := by rfl) (hks : (backToKw pos (keywordEach kws X.env)).filterMap (·.1) = ks := by rfl)
    (hpl : ((backTo pos (starEach [] X.env)).any (·.1) || (backToKw pos (keywordEach kws X.env)).any (·.1.isNone)) = false := by rfl) (hdb : (x == ("__debug__" : Str)) = false := by decide) :
    PE X (.Call (.Name x p) [] kws pos) (pE X.K E (fCallK g n ix fa)) := by
  obtain ⟨f, fd, ps, F, h1, h2, hb⟩ := c.ex
  exact (pe_cSK (gV := pick ix) ⟨⟨f, fd, ps, pick ix, F, h1, h2, hb, fun h => vals_pick h⟩⟩ hr hk hg hx hkw hall hks hpl hdb).imp fun _ _ _ h => callK_imp hn h
end
end Ev
namespace Ev
open PySem PySem.Spec PyProof.Rows L2
/-- the errors of the program's own: they are those of g (b: all are) -/
structure ErS (K : PySem.W.Frag) (es : List Str) (g : Str) (b : Bool) : Prop where
  m : ∀ c ∈ es, PySem.W.exmOne K (.ref (He.ga K c)) (.ref (He.ga K g)) = some (b || decide (c = g))
structure ErK (K : PySem.W.Frag) (es : List Str) : Prop where
  k : ∀ c ∈ es, ∀ d ∈ es, PySem.W.kitOne K (.ref (He.ga K c)) (.ref (He.ga K d)) = some (decide (c = d))
  ec : ∀ c ∈ es, ExcC K (He.ga K c)
structure XcP (K : PySem.W.Frag) (c : Str) (fl : List Str) : Prop where
  xf : XfC K (He.ga K c)
  no : ∀ f ∈ fl, PySem.W.findIn K (.ref (He.ga K c)) f = some none
def gTry (es : List Str) (g : Str) (b : Bool) (h : PErr → FS) (gb : FS) : FS := fun ρ => match gb ρ with
  | .err e ρ' => if e.cls ∈ es then (if (b || decide (e.cls = g)) = true then h e ρ' else .err e ρ') else .bad
  | r => r
/-- if isinstance(e, C1): return ("T1", e.f1) .. -/
def tellF (es : List Str) (i : Nat) : List (Str × Str × Str) → PErr → FS
  | [], _ => fun ρ => match setE i .no ρ with
    | some ρ' => .ok (.nx ρ')
    | none => .bad
  | (c, t, f) :: r, e => fun ρ => if c ∈ es then (if e.cls = c then (match e.args.lookup f, setE i .no ρ with
      | some v, some ρ' => .ok (.rt (.fr (.tup [.str t, v])) ρ')
      | _, _ => .bad) else tellF es i r e ρ) else .bad
def tTell (K : PySem.W.Frag) (i : Nat) (c t f : Str) (a : Addr) (cls : Value) (d : Option Addr) : TS :=
  tIfS (tB (tCB (rIsX K a cls d) (tCons (tVar i) (tCons (tC (.ref (He.ga K c))) tNil)))) (tRet (tTup (tCons (tC (.str t)) (tCons (tXf a cls d (He.ga K c) f (tVar i)) tNil)))) tNext
def tTells (K : PySem.W.Frag) (i : Nat) (a : Addr) (cls : Value) (d : Option Addr) : List (Str × Str × Str) → TS
  | [] => tNext
  | (c, t, f) :: r => tSeq (tTell K i c t f a cls d) (tTells K i a cls d r)
section
variable {K : PySem.W.Frag} {H0 : Hp} {A : Nat → Option Addr} {Z T S : Addr → Prop} {own : Nat → Addr} {σ : L2.St} {H H' : Hp} {ρ ρ' : Env}
/-- a slot is given up, or gets a value that isn't spoken of -/
theorem PSt.clr {i : Nat} {v : Option V} (P : PSt K H0 A Z T S own σ H ρ) (e : setE i .no ρ = some ρ') : PSt K H0 A Z T S own (σ.set i v) H ρ' := by
  unfold setE at e
  have key : ∃ f, ρ[i]? = some f ∧ (∀ q, f ≠ .io q) ∧ ρ' = ρ.set i .no := by
    cases e1 : ρ[i]? with
    | none => rw [e1] at e; cases e
    | some f => rw [e1] at e; cases f <;> first | (cases e; done) | (cases e; exact ⟨_, rfl, (fun q z => nomatch z), rfl⟩)
  obtain ⟨f, e1, nf, rfl⟩ := key
  have hil : i < ρ.length := (List.getElem?_eq_some_iff.mp e1).1
  have get : ∀ j, (ρ.set i .no)[j]? = if i = j then some .no else ρ[j]? := fun j => by
    rw [List.getElem?_set]
    by_cases h : i = j
    · subst h; rw [if_pos rfl, if_pos rfl, if_pos hil]
    · rw [if_neg h, if_neg h]
  refine ⟨P.kp, P.ia, P.i0, P.z0, P.al, P.ts, P.zs, by rw [List.length_set, List.length_set]; exact P.ln, fun j e h => ?_, fun j q h => ?_, fun j k e g a h1 h2 => ?_⟩
  · rw [get] at h
    by_cases hj : i = j
    · rw [if_pos hj] at h; cases h; exact trivial
    · rw [if_neg hj] at h
      rw [List.getElem?_set, if_neg hj]
      exact P.sl j e h
  · rw [get] at h
    by_cases hj : i = j
    · rw [if_pos hj] at h; cases h
    · rw [if_neg hj] at h; exact P.fr j q h
  · rw [get] at h1 h2
    by_cases hj : i = j
    · rw [if_pos hj] at h1; cases h1; intro z; cases z
    · by_cases hk : i = k
      · rw [if_pos hk] at h2; cases h2; intro _ z; cases z
      · rw [if_neg hj] at h1
        rw [if_neg hk] at h2
        exact P.dj j k e g a h1 h2
theorem setE_lt {i : Nat} {e : EV} (h : setE i e ρ = some ρ') : i < ρ.length := by
  unfold setE at h
  cases e1 : ρ[i]? with
  | none => rw [e1] at h; cases h
  | some f => exact (List.getElem?_eq_some_iff.mp e1).1
theorem tells_ok {E : L2.St → XK} {es : List Str} {i : Nat} {e : PErr} {a dd : Addr} {D : Ends} (kk : ErK K es) (he : e.cls ∈ es) (P : PSt K H0 A Z T S own σ H ρ) (hd : ErrD K S H e dd) : ∀ {hs : List (Str × Str × Str)}, okF K H0 A Z E T S H D (tellF es i hs e ρ) →
    tTells K i a (.ref (He.ga K e.cls)) (some dd) hs { nx := fun σ' H' => D.nx (σ'.set i none) H', rt := D.rt, bk := fun σ' H' => D.bk (σ'.set i none) H', ct := fun σ' H' => D.ct (σ'.set i none) H' } (σ.set i (some (.ref a))) H
  | [], h => by
    unfold tellF at h
    cases hs : setE i .no ρ with
    | none => rw [hs] at h; exact h.elim
    | some ρ' =>
      rw [hs] at h
      refine h _ H T S own ?_ .refl
      rw [List.set_set]
      exact P.clr hs
  | (c, t, f) :: r, h => by
    unfold tellF at h
    split at h
    · rename_i hc
      obtain ⟨vfs, h1, h2⟩ := hd
      have hlt : i < σ.length ∨ ∃ x : Nat, True := .inr ⟨0, trivial⟩
      split at h
      · rename_i hec
        subst hec
        split at h
        · rename_i v ρ' hv hs
          have hl : i < σ.length := by rw [← P.ln]; exact setE_lt hs
          have e1 : (σ.set i (some (V.ref a)))[i]? = some (some (.ref a)) := by rw [List.getElem?_set, if_pos rfl, if_pos hl]
          obtain ⟨w, l1, l2⟩ := h2.look hv
          refine ⟨.ref a, e1, He.ga K e.cls, .ref (He.ga K e.cls), .ref (He.ga K e.cls), true, dd, vfs, rfl, rfl, rfl, h1, kk.ec _ hc, .own _, by rw [kk.k _ he _ he, decide_eq_true rfl], _, rfl, iteT ?_⟩
          refine ⟨.ref a, e1, rfl, rfl, dd, vfs, w, rfl, h1, l1, (by show 2 ≤ sizeLine; decide), fun q hq => ?_⟩
          exact h _ _ _ T S own ((P.clr (v := none) hs).same (same_new hq)) (rep_new_tup P.al hq (reps2 rfl l2))
        · exact h.elim
      · rename_i hec
        by_cases hl : i < σ.length
        · have e1 : (σ.set i (some (V.ref a)))[i]? = some (some (.ref a)) := by rw [List.getElem?_set, if_pos rfl, if_pos hl]
          refine ⟨.ref a, e1, He.ga K e.cls, .ref (He.ga K c), .ref (He.ga K c), false, dd, vfs, rfl, rfl, rfl, h1, kk.ec _ he, .own _, by rw [kk.k _ he _ hc, decide_eq_false hec], _, rfl, iteF ?_⟩
          exact tells_ok kk he P ⟨vfs, h1, h2⟩ h
        · exfalso
          have : ∀ hs, okF K H0 A Z E T S H D (tellF es i hs e ρ) → i < σ.length := by
            intro hs
            induction hs with
            | nil =>
              intro h
              unfold tellF at h
              cases hs : setE i .no ρ with
              | none => rw [hs] at h; exact h.elim
              | some ρ' => rw [← P.ln]; exact setE_lt hs
            | cons x r ih =>
              obtain ⟨c, t, f⟩ := x
              intro h
              unfold tellF at h
              split at h
              · split at h
                · split at h
                  · rename_i hs; rw [← P.ln]; exact setE_lt hs
                  · exact h.elim
                · exact ih h
              · exact h.elim
          exact hl (this r h)
    · exact h.elim
end
section
variable {X : Cx} {E : L2.St → XK} {x n : Str} {body suite : List Stmt} {b₀ : Stmt} {np pos pos' : Pos} {gb : FS} {es : List Str} {g : Str} {b : Bool} {i : Nat} {hs : List (Str × Str × Str)}
theorem us_tell (Z : ErS X.K es g b) (kk : ErK X.K es) (hst : X.stack = X.env :: X.outer) (hf : X.env.frame = some X.env.locals) (hN : X.N.Nodup) (hi : X.N[i]? = some n) (hln : X.env.kindOf n = some .local) (hgl : Gl X x) (hdb : (x == ("__debug__" : Str)) = false) (hm : X.mg x = some (.ref (He.ga X.K g))) (tk : Takes X (fun cls d σ H => E σ cls d H))
    (hb : ∀ (W : WX) (pn : List (Addr × Obj)) (xe : Value → Shared → Prop), Takes (X.tr pn xe) W → PassesOwn (model X.prog X.w) X.A X.env xe → PSs (X.tr pn xe) body (pS X.K (WE W) gb))
    (hsu : ∀ (a : Addr) (oe : Obj) (cls : Value) (d : Option Addr) (pn : List (Addr × Obj)), Zc cls d oe → (∃ vs, oe.data = .fields vs) → PSs (X.suite a ((a, oe) :: pn)) (b₀ :: suite) (tTells X.K i a cls d hs)) :
    PS X (.Try body [.ExceptHandler (some (.Name x np)) (some n) (b₀ :: suite) pos'] [] [] pos) (pS X.K E (gTry es g b (tellF es i hs) gb)) :=
  (ps_try_as (tb := fun W => pS X.K (WE W) gb) (ts := fun a cls d => tTells X.K i a cls d hs) (Wout := fun cls d σ H => E σ cls d H) hst hf hN hi hln ⟨hgl, hdb, .inl hm⟩ tk hb hsu).imp (by
    rintro D σ H ⟨H0, A, Z0, T, S, own, ρ, P, h⟩
    refine ⟨H0, A, Z0, T, S, own, ρ, P, ?_⟩
    unfold gTry at h
    generalize gb ρ = r at h ⊢
    match r, h with
    | .ok (.nx _), h => exact h
    | .ok (.bk _), h => exact h
    | .ok (.ct _), h => exact h
    | .ok (.rt (.fr _) _), h => exact h
    | .ok (.rt (.ow _) _), h => exact h
    | .ok (.rt (.io _) _), h => exact h
    | .ok (.rt .no _), h => exact h
    | .bad, h => exact h
    | .err e ρ', h =>
      dsimp only at h
      split at h
      · rename_i he
        intro d σ' H' T' S' own' P' f' hd
        refine ⟨_, Z.m _ he, fun hb a na => ?_, fun hb => ?_⟩
        · rw [if_pos hb] at h
          exact tells_ok kk he P' hd (okF.shift P.ts f' h)
        · rw [if_neg (by rw [hb]; decide)] at h
          exact h d σ' H' T' S' own' P' f' hd
      · exact h.elim)
end
end Ev
namespace Ev
open PySem PySem.Spec PyProof.Rows L2
def sealV : EV → EV
  | .no => .no
  | .fr p => .fr p
  | .ow p => .fr p
  | .io p => .fr p
def sealE (ρ : Env) : Env := ρ.map sealV
mutual
def scalP : PV → Bool
  | .non => true
  | .bl _ => true
  | .int _ => true
  | .str _ => true
  | .tup xs => scalPs xs
  | _ => false
def scalPs : List PV → Bool
  | [] => true
  | p :: ps => scalP p && scalPs ps
end
section
variable {K : PySem.W.Frag} {H0 : Hp} {A : Nat → Option Addr} {Z T S S' : Addr → Prop} {own : Nat → Addr} {σ : L2.St} {H H' : Hp} {ρ : Env}
mutual
theorem scal_rep (hn : ∀ a vs, S a → ¬ S' a → ¬ Rd H a (.tup vs)) : ∀ {p : PV} {v : V}, scalP p = true → Rep K S' H p v → Rep K S H p v
  | .non, _, _, r => r
  | .bl _, _, _, r => r
  | .int _, _, _, r => r
  | .str _, _, _, r => r
  | .tup xs, _, h, ⟨a, vs, e, z, r⟩ => ⟨a, vs, e, z.imp (fun z => ⟨fun w => hn a vs w z.1 z.2, z.2⟩) id, scal_reps hn (by unfold scalP at h; exact h) r⟩
theorem scal_reps (hn : ∀ a vs, S a → ¬ S' a → ¬ Rd H a (.tup vs)) : ∀ {p : List PV} {v : List V}, scalPs p = true → Reps K S' H p v → Reps K S H p v
  | [], _, _, r => r
  | p :: ps, _, h, ⟨v, r, e, z, t⟩ => by
    unfold scalPs at h
    rw [Bool.and_eq_true] at h
    exact ⟨v, r, e, scal_rep hn h.1 z, scal_reps hn h.2 t⟩
end
/-- an own address holds no tuple -/
theorem own_tup (P : PSt K H0 A Z T S own σ H ρ) (s : Same H H') {a : Addr} {vs : List V} (h : S a) (n : ¬ (S a ∧ ∀ i, slA A own ρ i ≠ some a)) : ¬ Rd H' a (.tup vs) := by
  intro z
  have key : ∀ {p : PV} (_ : Top K S H a p), False := fun {p} t => by
    have fin : ∀ o, H a = some o → (∀ xs, o ≠ .tup xs) → (∀ u, o ≠ .frz u (.tup vs)) → False := fun o e h1 h2 => by
      have e' := s _ _ e
      rcases z with z | ⟨u, z⟩
      · rw [e'] at z; exact h1 _ (Option.some.inj z)
      · rw [e'] at z; exact h2 u (Option.some.inj z)
    cases p <;> try exact t.elim
    · obtain ⟨vs, t1, _⟩ := t; exact fin _ t1 (fun _ z => nomatch z) fun _ z => nomatch z
    · obtain ⟨dx, vs, t1, _⟩ := t; exact fin _ t1 (fun _ z => nomatch z) fun _ z => nomatch z
    · obtain ⟨vs, t1, _⟩ := t; exact fin _ t1 (fun _ z => nomatch z) fun _ z => nomatch z
  refine n ⟨h, fun i hi => ?_⟩
  unfold slA at hi
  cases e : ρ[i]? with
  | none => rw [e] at hi; cases hi
  | some f =>
    rw [e] at hi
    have hi : f.adr (A i) (own i) = some a := hi
    have := P.sl i f e
    cases f with
    | no => cases hi
    | fr p => cases hi
    | ow p => obtain ⟨_, _, t⟩ := this; cases hi; exact key t
    | io p => obtain ⟨c, z, _, _, t⟩ := this; rw [show (EV.io p).adr (A i) (own i) = A i from rfl, z] at hi; cases hi; exact key t
theorem top_thaw {a : Addr} (hs : ∀ s, S' s → S s) (n : ¬ S' a) {p : PV} (t : Top K S H a p) : Rep K S' H p (.ref a) := by
  have h : ∀ s, S' s → S s ∨ H s = none := fun s z => .inl (hs s z)
  cases p <;> try exact t.elim
  · obtain ⟨vs, t1, t2⟩ := t; exact ⟨a, vs, rfl, n, t1, t2.fut .refl h⟩
  · obtain ⟨dx, vs, t1, t2⟩ := t; exact ⟨a, dx, vs, rfl, n, t1, t2.fut .refl h⟩
  · obtain ⟨vs, t1, t2⟩ := t; exact ⟨a, vs, rfl, n, t1, t2.fut .refl h⟩
theorem PSt.thaw (P : PSt K H0 A Z T S own σ H ρ) : PSt K H (fun _ => none) (fun _ => False) (fun _ => False) (fun s => S s ∧ ∀ i, slA A own ρ i ≠ some s) own σ H (sealE ρ) := by
  have hs : ∀ s, (S s ∧ ∀ i, slA A own ρ i ≠ some s) → S s := fun s z => z.1
  refine ⟨fun _ _ h _ => h, fun i a h => (nomatch h), fun i a h => (nomatch h), fun s z => z.elim, fun s z => P.al s z.1, fun s z => z.elim, fun s z => z.elim, by unfold sealE; rw [List.length_map]; exact P.ln, fun i e he => ?_, fun i p hp => ?_, fun i j e f a h1 h2 h3 h4 => ?_⟩
  · unfold sealE at he
    rw [List.getElem?_map] at he
    obtain ⟨g, h1, rfl⟩ := Option.map_eq_some_iff.mp he
    have := P.sl i g h1
    cases g with
    | no => trivial
    | fr p => obtain ⟨v, e1, r⟩ := this; exact ⟨v, e1, r.fut .refl fun s z => .inl (hs s z)⟩
    | ow p =>
      obtain ⟨e1, hT, t⟩ := this
      exact ⟨_, e1, top_thaw hs (fun z => z.2 i (by unfold slA; rw [h1]; rfl)) t⟩
    | io p =>
      obtain ⟨c, z, e1, hT, t⟩ := this
      exact ⟨_, e1, top_thaw hs (fun z' => z'.2 i (by unfold slA; rw [h1]; exact z)) t⟩
  · unfold sealE at hp
    rw [List.getElem?_map] at hp
    obtain ⟨g, _, z⟩ := Option.map_eq_some_iff.mp hp
    cases g <;> cases z
  · unfold sealE at h1
    rw [List.getElem?_map] at h1
    obtain ⟨g, _, z⟩ := Option.map_eq_some_iff.mp h1
    subst z
    cases g <;> cases h3
end
abbrev PON (X : Cx) (f : Value → Value → Sem Value) (g : PV → PV → Option PV) : Prop := OpR X f (fun x y H Q => ∃ S p q z, (∀ s, S s → ∃ o, H s = some o) ∧ Rep X.K S H p x ∧ Rep X.K S H q y ∧ g p q = some z ∧ ∀ a H', H a = none → Same H H' → Top X.K (Sand S a) H' a z → Q (.ref a) H')
section
variable {X : Cx} {K : PySem.W.Frag} {S : Addr → Prop} {H : Hp}
def pMulL : PV → PV → Option PV
  | .lst a, .int k => if decide (-(2 ^ 63) ≤ k) && decide (k < 2 ^ 63) && decide (a.length * k.toNat ≤ sizeLine) then some (.lst (List.replicate k.toNat a).flatten) else none
  | _, _ => none
theorem pon_mul : PON X (binaryOp .Mult) pMulL := fun pins s σ H x y v u Q I r1 r2 ⟨S, p, q, z, al, h1, h2, e, k⟩ => op_rep pins s σ H x y v u Q I r1 r2 (by
  cases p <;> cases q <;> try (cases e; done)
  obtain ⟨a, vs, rfl, na, ha, ra⟩ := h1; obtain rfl := h2
  simp only [pMulL] at e
  split at e
  · rename_i hc
    cases e
    rw [Bool.and_eq_true, Bool.and_eq_true, decide_eq_true_eq, decide_eq_true_eq, decide_eq_true_eq] at hc
    exact ⟨a, _, vs, rfl, rfl, ha, hc.1.1, hc.1.2, by rw [← ra.len]; exact hc.2, fun p hp => k _ _ hp (same_new hp) (top_new hp (reps_rep ra _))⟩
  · cases e)
end
end Ev
namespace Ev
open PySem PySem.Spec PyProof.Rows L2
section
variable {X : Cx} {E : L2.St → XK} {e a b : Expr} {es : List Expr} {x y : Str} {p pos pos' pos2 : Pos} {f fa fb : FE} {ra : FA} {g : List PV → Option PV} {g2 : PV → PV → Option PV} {id T : String} {i : Nat}
theorem PSt.sandTop {K : PySem.W.Frag} {H0 : Hp} {A : Nat → Option Addr} {Z T S : Addr → Prop} {own : Nat → Addr} {σ : L2.St} {H1 H' : Hp} {ρ1 : Env} {a : Addr} {z : PV} (P1 : PSt K H0 A Z T S own σ H1 ρ1) (hn : H1 a = none) (s : Same H1 H') (t : Top K (Sand S a) H' a z) : PSt K H0 A Z T (Sand S a) own σ H' ρ1 := by
  have P2 := P1.same s
  refine ⟨P2.kp, P2.ia, P2.i0, P2.z0, fun s' z' => ?_, fun s' z' => .inl (P2.ts s' z'), fun s' z' => .inl (P2.zs s' z'), P2.ln, fun i e he => ?_, P2.fr, P2.dj⟩
  · rcases z' with z' | rfl
    · exact P2.al s' z'
    · cases z <;> first | exact t.elim | (obtain ⟨_, h, _⟩ := t; exact ⟨_, h⟩) | (obtain ⟨_, _, h, _⟩ := t; exact ⟨_, h⟩)
  · have hs : ∀ s', Sand S a s' → S s' ∨ H1 s' = none := fun s' z' => z'.imp (fun x => x) fun e => by rw [e]; exact hn
    have := P1.sl i e he
    cases e with
    | no => trivial
    | fr p => obtain ⟨v, e1, r⟩ := this; exact ⟨v, e1, r.fut (.of s) hs⟩
    | ow p => obtain ⟨e1, h1, t⟩ := this; exact ⟨e1, h1, t.keep (.of s) hs fun o h => s _ o h⟩
    | io p => obtain ⟨c, z, e1, h1, t⟩ := this; exact ⟨c, z, e1, h1, t.keep (.of s) hs fun o h => s _ o h⟩
theorem nb_op {σ : L2.St} {H : Hp} {Q : VK} (h : pN X.K E (fBin g2 fa fb) σ H Q) : tOp (fun x y H Q => ∃ S p q z, (∀ s, S s → ∃ o, H s = some o) ∧ Rep X.K S H p x ∧ Rep X.K S H q y ∧ g2 p q = some z ∧ ∀ a H', H a = none → Same H H' → Top X.K (Sand S a) H' a z → Q (.ref a) H') (pE X.K E fa) (pE X.K E fb) σ H Q := by
  obtain ⟨H0, A, Z, T, S, own, ρ, P, h⟩ := h
  refine ⟨H0, A, Z, T, S, own, ρ, P, (okN.bnd P.ts h).mono ?_⟩
  rintro p H1 - ⟨ρ1, P1, k1, h1⟩ v r1
  refine ⟨H0, A, Z, T, S, own, ρ1, P1, (okN.bnd P1.ts h1).mono ?_⟩
  rintro q H2 - ⟨ρ2, P2, k2, h2⟩ w r2
  dsimp only at h2
  cases e : g2 p q with
  | none => rw [e] at h2; exact h2.elim
  | some z =>
    rw [e] at h2
    refine ⟨S, p, q, z, P2.al, r1.keep (k2.up P1.ts), r2, e, fun a H' hn s t => ?_⟩
    exact h2 H' a (P2.sandTop hn s t) (.of s) hn (P2.new hn) t
/-- x = a op b, the answer fresh -/
theorem us_ownOp {op : Operator} (hN : X.N.Nodup) (hi : X.N[i]? = some x) (hx : Loc X.env.scope x) (ho : PON X (binaryOp op) g2) (ha : PE X a (pE X.K E fa)) (hb : PE X b (pE X.K E fb))
    (hs : swapsWith (.BinOp a op b pos) (some (.Name x pos')) pos2.line X.env = pure false := by rfl) (hf : X.fn x = true ∨ X.env.scope.names.lookup x = some .local := by first | exact .inl rfl | exact .inr rfl | assumption) :
    PS X (.Assign [.Name x pos'] (.BinOp a op b pos) pos2) (pS X.K E (gOwn i (fBin g2 fa fb))) := us_own i (ps_set (i := i) hN hi hx (pe_op ho ha hb) hs hf) fun _ _ _ => nb_op
end
end Ev
namespace Ev
open PySem PySem.Spec PyProof.Rows L2
def BmR (K : PySem.W.Frag) (g : List PV → List PV → Option (PV × List PV)) : V → List V → Hp → VK → Prop := fun x vs H Q => ∃ (S : Addr → Prop) (a : Addr) (ws : List V) (xs ps : List PV) (z : PV) (ys : List PV), x = .ref a ∧ S a ∧ (∀ s, S s → ∃ o, H s = some o) ∧ Small K H ∧ H a = some (.lst ws) ∧ Reps K S H xs ws ∧ Reps K S H ps vs ∧ g xs ps = some (z, ys) ∧
  ∀ v zs, Rep K S (upd H a (.lst zs)) z v → Reps K S (upd H a (.lst zs)) ys zs → Q v (upd H a (.lst zs))
abbrev BmP (X : Cx) (id : String) (g : List PV → List PV → Option (PV × List PV)) : Prop := MtR X id (BmR X.K g)
def fBmO (i : Nat) (g : List PV → List PV → Option (PV × List PV)) (ra : FA) : FE := fun ρ => if ownL i ρ = true then (ra ρ).bind fun z => match ownP i z.2 with
  | some (.lst xs) => (match g xs z.1 with
    | some (r, ys) => (match putE i (.lst ys) z.2 with
      | some ρ' => .ok (r, ρ')
      | none => .bad)
    | none => .bad)
  | _ => .bad else .bad
def mIns (xs ps : List PV) : Option (PV × List PV) := match ps with
  | [.int i, p] => if decide (0 ≤ i) && decide (i < 2 ^ 63) && decide (xs.length < 1000000) then some (.non, xs.take i.toNat ++ [p] ++ xs.drop i.toNat) else none
  | _ => none
theorem keep_upd {S : Addr → Prop} {H : Hp} {a : Addr} {o : HO} (h : S a) : Keep S H (upd H a o) := fun b u e n => by
  rw [upd_ne (fun z => n (by rw [z]; exact h))]; exact e
section
variable {X : Cx}
theorem bm_insert : BmP X "list.insert" mIns := fun pins s σ H x vs v us Q I rx rv ⟨S, a, ws, xs, ps, z, ys, e1, hS, al, sm, hH, rw', rp, e, k⟩ => mt_insert pins s σ H x vs v us Q I rx rv (by
  unfold mIns at e
  split at e
  · rename_i i p
    split at e
    · rename_i hc
      cases e
      rw [Bool.and_eq_true, Bool.and_eq_true, decide_eq_true_eq, decide_eq_true_eq, decide_eq_true_eq] at hc
      obtain ⟨v1, v2, rfl, h1, h2⟩ := two_rep rp
      cases h1
      refine ⟨a, ws, i, v2, e1, rfl, hH, by rw [← rw'.len]; exact Nat.lt_of_lt_of_le hc.2 (by decide), hc.1.1, hc.1.2, k _ _ rfl ?_⟩
      exact (((rw'.take _).app (reps1 h2)).app (rw'.drop _)).keep (keep_upd hS)
    · cases e
  · cases e)
end
section
variable {X : Cx} {E : L2.St → XK} {e : Expr} {es : List Expr} {x m : Str} {pos apos cpos npos : Pos} {ra : FA} {g : List PV → List PV → Option (PV × List PV)} {id : String} {i : Nat}
theorem bmO_imp {σ : L2.St} {H : Hp} {Q : VK} (h : pE X.K E (fBmO i g ra) σ H Q) : ∃ v, σ[i]? = some (some v) ∧ tyV X.K "list" v H ∧ pA X.K E ra σ H (fun vs H1 => Small X.K H1 → BmR X.K g v vs H1 Q) := by
  obtain ⟨H0, A, Z, T, S, own, ρ, P, h⟩ := h
  unfold fBmO at h
  split at h
  · rename_i hl
    unfold ownL at hl
    split at hl
    · rename_i xs hx
      obtain ⟨a, ha, hσ, hT, ⟨vs, hH, _⟩, _⟩ := P.ownAt hx
      refine ⟨_, hσ, .inl ⟨rfl, vs, SqL.of hH⟩, H0, A, Z, T, S, own, ρ, P, (okR.bnd (r := ra ρ) h).mono ?_⟩
      rintro ps H1 - ⟨ρ1, P1, k1, h1⟩ vs1 r1 sm
      dsimp only at h1
      cases ho : ownP i ρ1 with
      | none => rw [ho] at h1; exact h1.elim
      | some q =>
        rw [ho] at h1
        cases q <;> try exact h1.elim
        rename_i ys
        dsimp only at h1
        cases hg : g ys ps with
        | none => rw [hg] at h1; exact h1.elim
        | some w =>
          obtain ⟨z, zs⟩ := w
          rw [hg] at h1
          dsimp only at h1
          obtain ⟨a', ha', hσ', hT', ⟨ws, hH', rw'⟩, hput⟩ := P1.ownAt ho
          rw [hσ] at hσ'
          cases hσ'
          obtain ⟨ρ', hp⟩ := hput (.lst zs)
          rw [hp] at h1
          refine ⟨S, a, ws, ys, ps, z, zs, rfl, P1.ts _ hT', P1.al, sm, hH', rw', r1, hg, fun v us rz rzs => ?_⟩
          have k : ∀ b, b ≠ a → (upd H1 a (.lst us)) b = H1 b := fun b hb => upd_ne hb
          obtain ⟨P2, kk⟩ := P1.put ha' hp k ⟨_, upd_same, rzs⟩
          exact h1 _ P2 kk v rz
    · cases hl
  · exact h.elim
theorem ue_bmO (i : Nat) (slot : Slot "list" m id) (hty : typeOf (.builtin id) = pure (.type "method_descriptor")) (hm : BmP X id g) (ha : PA X (e :: es) (pA X.K E ra)) (hN : X.N[i]? = some x := by rfl) (hv : Vis X.env.scope x := by first | exact Or.inl rfl | exact Or.inr (Or.inl rfl) | exact Or.inr (Or.inr rfl)) (hd : (x == ("__debug__" : Str)) = false := by decide)
    (hcd : (x == ("__classdict__" : Str)) = false := by decide) (hbase : attributeBase (.Name x npos) m X.env (eval (.Name x npos) X.env) = eval (.Name x npos) X.env := by rfl)
    (hfew : ((backTo cpos (starEach (e :: es) X.env)).all (fun x => !x.1) && (backToKw cpos (keywordEach [] X.env)).all (fun x => x.1.isSome)
      && decide ((e :: es).length + ([] : List Keyword).length + (if ([] : List Keyword).isEmpty then 0 else 1) < 30)) = true := by rfl)
    (hline : (apos.endLine == cpos.line) = true := by rfl) (hs : starEach (e :: es) X.env = (false, eval e X.env) :: starEach es X.env := by rfl) (hplain : (backTo cpos (starEach es X.env)).any (·.1) = false := by rfl) :
    PE X (.Call (.Attribute (.Name x npos) m apos) (e :: es) [] cpos) (pE X.K E (fBmO i g ra)) := (pe_bm PySem.F.plainAttrs_list slot hty hm (pe_var (i := i) hN hv hd hcd) ha.small hbase hfew hline hs hplain).imp (by
    intro σ H Q h
    obtain ⟨v, h1, h2, h3⟩ := bmO_imp h
    exact ⟨v, h1, h2, h3⟩)
/-- return x, x the body's own -/
def gRetO (i : Nat) : FS := fun ρ => match ρ[i]? with
  | some (.ow p) => .ok (.rt (.ow p) ρ)
  | _ => .bad
theorem us_retO (i : Nat) (hN : X.N[i]? = some x := by rfl) (hv : Vis X.env.scope x := by first | exact Or.inl rfl | exact Or.inr (Or.inl rfl) | exact Or.inr (Or.inr rfl)) (hd : (x == ("__debug__" : Str)) = false := by decide)
    (hcd : (x == ("__classdict__" : Str)) = false := by decide) : PS X (.Return (some (.Name x npos)) pos) (pS X.K E (gRetO i)) := (ps_ret (pe_var (i := i) hN hv hd hcd)).imp (by
    rintro D σ H ⟨H0, A, Z, T, S, own, ρ, P, h⟩
    unfold gRetO at h
    cases e : ρ[i]? with
    | none => rw [e] at h; exact h.elim
    | some z =>
      rw [e] at h
      cases z <;> try exact h.elim
      obtain ⟨h1, h2, h3⟩ := P.sl i _ e
      exact ⟨_, h1, h _ _ _ _ _ _ P (P.fr i _ e) (P.ts _ h2) h3⟩)
end
theorem fn_bad {P : Program} {w : World} {K : PySem.W.Frag} {mg : Str → Option Value} {base : Heap} {k n : Nat} {f : Addr} {fd : FuncData} {ps : List Str} : FnOk P w K mg base (L2.CX P w) k f fd ps (spG K n fun _ => .bad) := by
  refine ⟨fun vs H Q E h => ?_, fun A outer s H args us vs Q E _ _ _ _ h => ?_⟩
  · obtain ⟨_, _, _, _, _, _, _, _, _, h⟩ := h
    exact h.elim
  · obtain ⟨_, _, _, _, _, _, _, _, _, h⟩ := h
    exact h.elim
end Ev
namespace Ev
open PySem PySem.Spec PyProof.Rows L2
theorem lcL_mono {vs : List Nat} {t : Tg1} {c : FT} {f : FE} : ∀ (xs : List PV) (ρ : Env) (acc : List PV) (w : List PV × Env), lcL vs t c f xs ρ acc = .ok w → acc.length ≤ w.1.length
  | [], ρ, acc, w, h => by cases h; exact Nat.le_refl _
  | x :: xs, ρ, acc, w, h => by
    unfold lcL at h
    cases ea : asg t x ρ with
    | none => rw [ea] at h; cases h
    | some ρ1 =>
      rw [ea] at h
      dsimp only at h
      cases ec : c ρ1 with
      | err e r => rw [ec] at h; cases h
      | bad => rw [ec] at h; cases h
      | ok k =>
        rw [ec] at h
        replace h : (if k.1 = true then (noErr (f k.2)).bind fun z => match wipeO vs z.2 with | some ρ2 => lcL vs t c f xs ρ2 (acc ++ [z.1]) | none => .bad else match wipeO vs k.2 with | some ρ2 => lcL vs t c f xs ρ2 acc | none => .bad) = Res.ok w := h
        split at h
        · cases ef : f k.2 with
          | err e r => rw [ef] at h; cases h
          | bad => rw [ef] at h; cases h
          | ok z =>
            rw [ef] at h
            replace h : (match wipeO vs z.2 with | some ρ2 => lcL vs t c f xs ρ2 (acc ++ [z.1]) | none => .bad) = Res.ok w := h
            cases eo : wipeO vs z.2 with
            | none => rw [eo] at h; cases h
            | some ρ2 =>
              rw [eo] at h
              have := lcL_mono xs ρ2 _ w h
              rw [List.length_append] at this
              exact Nat.le_trans (Nat.le_add_right _ _) this
        · cases eo : wipeO vs k.2 with
          | none => rw [eo] at h; cases h
          | some ρ2 => rw [eo] at h; exact lcL_mono xs ρ2 acc w h
theorem wipeO_eq {vs : List Nat} {ρ ρ' : Env} (h : wipeO vs ρ = some ρ') : plainAt vs ρ = true ∧ ρ' = wipeE vs ρ := by
  unfold wipeO at h
  split at h
  · rename_i z; cases h; exact ⟨z, rfl⟩
  · cases h
def lcL2 (vs : List Nat) (t : Tg1) (c : FT) (fi1 : FA) (vs1 : List Nat) (t1 : Tg1) (c1 : FT) (f : FE) : List PV → Env → List PV → Res (List PV × Env)
  | [], ρ, acc => .ok (acc, ρ)
  | x :: xs, ρ, acc => match asg t x ρ with
    | none => .bad
    | some ρ1 => (noErr (c ρ1)).bind fun k => if k.1 = true then (noErr (fi1 k.2)).bind fun z => match wipeO vs1 z.2 with
        | some ρ3 => (lcL vs1 t1 c1 f z.1 ρ3 acc).bind fun w => match wipeO vs w.2 with
          | some ρ2 => lcL2 vs t c fi1 vs1 t1 c1 f xs ρ2 w.1
          | none => .bad
        | none => .bad
      else match wipeO vs k.2 with
        | some ρ2 => lcL2 vs t c fi1 vs1 t1 c1 f xs ρ2 acc
        | none => .bad
def fLc2 (fi : FA) (vs : List Nat) (t : Tg1) (c : FT) (fi1 : FA) (vs1 : List Nat) (t1 : Tg1) (c1 : FT) (f : FE) : FE := fun ρ => (fi ρ).bind fun z => match wipeO vs z.2 with
  | some ρw => (noErr (lcL2 vs t c fi1 vs1 t1 c1 f z.1 ρw [])).bind fun w => if w.1.length ≤ sizeLine then .ok (.lst w.1, restE z.2 vs w.2) else .bad
  | none => .bad
theorem lcL2_mono {vs : List Nat} {t : Tg1} {c : FT} {fi1 : FA} {vs1 : List Nat} {t1 : Tg1} {c1 : FT} {f : FE} : ∀ (xs : List PV) (ρ : Env) (acc : List PV) (w : List PV × Env), lcL2 vs t c fi1 vs1 t1 c1 f xs ρ acc = .ok w → acc.length ≤ w.1.length
  | [], ρ, acc, w, h => by cases h; exact Nat.le_refl _
  | x :: xs, ρ, acc, w, h => by
    unfold lcL2 at h
    cases ea : asg t x ρ with
    | none => rw [ea] at h; cases h
    | some ρ1 =>
      rw [ea] at h
      dsimp only at h
      cases ec : c ρ1 with
      | err e r => rw [ec] at h; cases h
      | bad => rw [ec] at h; cases h
      | ok k =>
        obtain ⟨b, ρb⟩ := k
        rw [ec, noErr_ok, Res.bind_ok] at h
        dsimp only at h
        cases b with
        | true =>
          rw [if_pos rfl] at h
          cases ef : fi1 ρb with
          | err e r => rw [ef] at h; cases h
          | bad => rw [ef] at h; cases h
          | ok z =>
            rw [ef, noErr_ok, Res.bind_ok] at h
            cases eo : wipeO vs1 z.2 with
            | none => rw [eo] at h; cases h
            | some ρ3 =>
              rw [eo] at h
              replace h : ((lcL vs1 t1 c1 f z.1 ρ3 acc).bind fun w => match wipeO vs w.2 with | some ρ2 => lcL2 vs t c fi1 vs1 t1 c1 f xs ρ2 w.1 | none => .bad) = Res.ok w := h
              cases ei : lcL vs1 t1 c1 f z.1 ρ3 acc with
              | err e r => rw [ei] at h; cases h
              | bad => rw [ei] at h; cases h
              | ok v =>
                rw [ei, Res.bind_ok] at h
                cases e2 : wipeO vs v.2 with
                | none => rw [e2] at h; cases h
                | some ρ2 => rw [e2] at h; exact Nat.le_trans (lcL_mono _ _ _ _ ei) (lcL2_mono xs ρ2 _ w h)
        | false =>
          rw [if_neg Bool.false_ne_true] at h
          cases eo : wipeO vs ρb with
          | none => rw [eo] at h; cases h
          | some ρ2 => rw [eo] at h; exact lcL2_mono xs ρ2 acc w h
theorem lc_inner {K : PySem.W.Frag} {H0 : Hp} {A : Nat → Option Addr} {Z T S : Addr → Prop} {own : Nat → Addr} {τ : L2.St} {vs : List Nat} {t : Tg1} {c : FT} {f : FE} {items : List PV} {J : It} {D : Addr} {H4 : Hp} {Nx : Hp → Prop} {HB : Hp} {ρ1 : Env} {acc0 : List PV} {vacc0 : List V} {w : List PV × Env}
    (hv : ∀ i ∈ t.vars, i ∈ vs) (P1 : PSt K H0 A Z T (Sand S D) own τ H4 ρ1) (hp : plainAt vs ρ1 = true) (hH0 : H0 D = none) (hTD : ¬ T D) (hB : HB D = none) (kB : Keep T HB H4) (hD4 : H4 D = some (.lst vacc0)) (r0 : Reps K (Sand S D) H4 acc0 vacc0) (wk : Wk K (Sand S D) H4 J items)
    (ew : lcL vs t c f items (wipeE vs ρ1) acc0 = .ok w) (hw : w.1.length ≤ sizeLine) (kTS : ∀ s, T s → Sand S D s)
    (hN : ∀ H', PSt K H0 A Z T (Sand S D) own (L2.wipe τ vs) H' w.2 → Keep T HB H' → Keep (Sand S D) H4 H' → (∃ vacc, H' D = some (.lst vacc) ∧ Reps K (Sand S D) H' w.1 vacc) → Nx H') :
    ∃ W1 : Nat → Nat → Hp → Prop, (∃ m, W1 0 m H4) ∧ ∀ j k H, W1 j k H → (J.stop j H ∧ Nx H) ∨ (J.go j H ∧ ∃ Nx1 : Hp → Prop, (∀ H', Nx1 H' → ∃ k', k' < k ∧ W1 (j + 1) k' H') ∧ ∀ x H', J.yld j H x H' → pG K t x (L2.wipe τ vs) H' fun σ3 H5 => L2.wipe σ3 vs = L2.wipe τ vs ∧ pT K E0S c σ3 H5 fun b H6 =>
      if b = true then pE K E0S f σ3 H6 fun y H7 => ∃ acc, H7 D = some (.lst acc) ∧ acc.length < sizeLine ∧ Nx1 (upd H7 D (.lst (acc ++ [y]))) else Nx1 H6) := by
  refine ⟨fun i m H => m = items.length - i ∧ i ≤ items.length ∧ ∃ ρi acc vacc, PSt K H0 A Z T (Sand S D) own (L2.wipe τ vs) H ρi ∧ Keep T HB H ∧ Keep (Sand S D) H4 H ∧ H D = some (.lst vacc) ∧ Reps K (Sand S D) H acc vacc ∧ lcL vs t c f (items.drop i) ρi acc = .ok w,
    ⟨_, rfl, Nat.zero_le _, wipeE vs ρ1, acc0, vacc0, P1.wipe hp, kB, .refl, hD4, r0, by rw [List.drop_zero]; exact ew⟩, ?_⟩
  rintro i m H2 ⟨rfl, hi, ρi, acc, vacc, P2, k2, kS2, hD2, r2, e2⟩
  by_cases hlt : i < items.length
  · right
    refine ⟨wk.go i H2 kS2 hlt, fun H => i + 1 ≤ items.length ∧ ∃ ρi acc vacc, PSt K H0 A Z T (Sand S D) own (L2.wipe τ vs) H ρi ∧ Keep T HB H ∧ Keep (Sand S D) H4 H ∧ H D = some (.lst vacc) ∧ Reps K (Sand S D) H acc vacc ∧ lcL vs t c f (items.drop (i + 1)) ρi acc = .ok w, fun H' h' => ⟨_, by omega, rfl, h'⟩, fun v H3 hy => ?_⟩
    obtain ⟨s3, x, hx, rx⟩ := wk.yld i (Sand S D) H2 v H3 kS2 (fun s z => .inl z) P2.al hlt hy
    have hxi : items.drop i = x :: items.drop (i + 1) := by
      obtain ⟨h1, h2⟩ := List.getElem?_eq_some_iff.mp hx
      rw [List.drop_eq_getElem_cons h1, h2]
    rw [hxi] at e2
    unfold lcL at e2
    have P3 := P2.same s3
    cases ea : asg t x ρi with
    | none => rw [ea] at e2; cases e2
    | some ρa =>
    rw [ea] at e2
    dsimp only at e2
    refine ⟨H0, A, Z, T, Sand S D, own, ρi, x, ρa, P3, rx, ea, fun σ' P' off => ?_⟩
    have ewp : L2.wipe σ' vs = L2.wipe τ vs := (off_wipe (off_mono off hv)).trans (wipe_wipe τ vs)
    refine ⟨ewp, H0, A, Z, T, Sand S D, own, ρa, P', ?_⟩
    cases ec : c ρa with
    | err e r => rw [ec] at e2; cases e2
    | bad => rw [ec] at e2; cases e2
    | ok kk =>
    obtain ⟨b, ρb⟩ := kk
    rw [ec] at e2
    intro H5 P5 k5
    replace e2 : (if b = true then (noErr (f ρb)).bind fun z => match wipeO vs z.2 with | some ρ2 => lcL vs t c f (items.drop (i + 1)) ρ2 (acc ++ [z.1]) | none => .bad else match wipeO vs ρb with | some ρ2 => lcL vs t c f (items.drop (i + 1)) ρ2 acc | none => .bad) = Res.ok w := e2
    have hD5 : H5 D = some (.lst vacc) := k5 _ _ (s3 _ _ hD2) hTD
    have k15 : Keep T HB H5 := (k2.trans (.of s3)).trans k5
    have kS5 : Keep (Sand S D) H4 H5 := (kS2.trans (.of s3)).trans (k5.up kTS)
    have r5 : Reps K (Sand S D) H5 acc vacc := (r2.keep (.of s3)).keep (k5.up kTS)
    cases b with
    | false =>
      refine iteF ?_
      rw [if_neg Bool.false_ne_true] at e2
      cases eo : wipeO vs ρb with
      | none => rw [eo] at e2; cases e2
      | some ρ5 =>
        rw [eo] at e2
        obtain ⟨hpl, rfl⟩ := wipeO_eq eo
        have := P5.wipe hpl
        rw [ewp] at this
        exact ⟨hlt, _, acc, vacc, this, k15, kS5, hD5, r5, e2⟩
    | true =>
      refine iteT ?_
      rw [if_pos rfl] at e2
      cases ef : f ρb with
      | err e r => rw [ef] at e2; cases e2
      | bad => rw [ef] at e2; cases e2
      | ok zz =>
      obtain ⟨z, ρc⟩ := zz
      rw [ef] at e2
      replace e2 : (match wipeO vs ρc with | some ρ2 => lcL vs t c f (items.drop (i + 1)) ρ2 (acc ++ [z]) | none => .bad) = Res.ok w := e2
      refine ⟨H0, A, Z, T, Sand S D, own, ρb, P5, ?_⟩
      rw [ef]
      intro H6 P6 k6 y ry
      have hD6 : H6 D = some (.lst vacc) := k6 _ _ hD5 hTD
      have r6 := r5.keep (k6.up kTS)
      cases eo : wipeO vs ρc with
      | none => rw [eo] at e2; cases e2
      | some ρ6 =>
        rw [eo] at e2
        obtain ⟨hpl, rfl⟩ := wipeO_eq eo
        have P7 := (P6.wipe hpl).putD (o := .lst (vacc ++ [y])) hH0 hTD
        rw [ewp] at P7
        have kD : Keep (Sand S D) H6 (upd H6 D (.lst (vacc ++ [y]))) := fun b u e n => by rw [upd_ne (fun z => n (.inr z))]; exact e
        have hm := lcL_mono _ _ _ _ e2
        rw [List.length_append] at hm
        refine ⟨vacc, hD6, ?_, hlt, _, acc ++ [z], vacc ++ [y], P7, fun b o hb n => ?_, (kS5.trans (k6.up kTS)).trans kD, upd_same, (r6.app (show Reps K (Sand S D) H6 [z] [y] from ⟨y, [], rfl, ry, rfl⟩)).keep kD, e2⟩
        · rw [← r6.len]
          have : [z].length = 1 := rfl
          omega
        · rw [upd_ne (fun z => by rw [z, hB] at hb; cases hb)]
          exact k6 _ _ (k15 _ _ hb n) n
  · left
    have e : i = items.length := by omega
    subst e
    rw [List.drop_of_length_le (Nat.le_refl _)] at e2
    cases e2
    exact ⟨wk.stop H2 kS2, hN H2 P2 k2 kS2 ⟨vacc, hD2, r2⟩⟩
theorem lc2_impN {K : PySem.W.Frag} {E : L2.St → XK} {fi fi1 : FA} {vs vs1 : List Nat} {t t1 : Tg1} {c c1 : FT} {f : FE} {σ : L2.St} {H : Hp} {Q : VK} (hv : ∀ i ∈ t.vars, i ∈ vs) (hv1 : ∀ i ∈ t1.vars, i ∈ vs1) (hvv : ∀ i ∈ vs1, i ∈ vs) (h : pN K E (fLc2 fi vs t c fi1 vs1 t1 c1 f) σ H Q) :
    tLc2 (pI K E fi) (pG K t) (pT K E0S c) (pI K E0S fi1) (pG K t1) (pT K E0S c1) (pE K E0S f) vs vs1 σ H Q := by
  obtain ⟨H0, A, Z, T, S, own, ρ, P, h⟩ := h
  refine ⟨H0, A, Z, T, S, own, ρ, P, (okN.bnd P.ts h).mono ?_⟩
  rintro items H1 - ⟨ρ1, P1, k0, h1⟩ hlen J wk D hD
  have k1 : Keep S H H1 := k0.up P.ts
  dsimp only at h1
  cases ew : wipeO vs ρ1 with
  | none => rw [ew] at h1; exact h1.elim
  | some ρw =>
  rw [ew] at h1
  obtain ⟨hp, rfl⟩ := wipeO_eq ew
  cases ew2 : lcL2 vs t c fi1 vs1 t1 c1 f items (wipeE vs ρ1) [] with
  | err e r => dsimp only at h1; rw [ew2] at h1; exact h1.elim
  | bad => dsimp only at h1; rw [ew2] at h1; exact h1.elim
  | ok w =>
  dsimp only at h1
  rw [ew2] at h1
  replace h1 : okN K H0 A Z T S own σ E H1 (if w.1.length ≤ sizeLine then .ok (PV.lst w.1, restE ρ1 vs w.2) else .bad) Q := h1
  have hw : w.1.length ≤ sizeLine := Decidable.byContradiction fun z => by rw [if_neg z] at h1; exact h1.elim
  rw [if_pos hw] at h1
  have hH0 := P1.H0n' hD
  have hTD := P1.nT hD
  have hSD := P1.new hD
  have hs : ∀ s, Sand S D s → S s ∨ H1 s = none := fun s h => h.imp id fun e => by rw [e]; exact hD
  have kTS : ∀ s, T s → Sand S D s := fun s z => .inl (P1.ts s z)
  refine ⟨fun i m H => m = items.length - i ∧ i ≤ items.length ∧ ∃ ρi acc vacc, PSt K H0 A Z T (Sand S D) own (L2.wipe σ vs) H ρi ∧ Keep T H1 H ∧ H D = some (.lst vacc) ∧ Reps K (Sand S D) H acc vacc ∧ ρi.length = ρ1.length ∧ lcL2 vs t c fi1 vs1 t1 c1 f (items.drop i) ρi acc = .ok w, ⟨_, rfl, Nat.zero_le _, wipeE vs ρ1, [], [], (P1.wipe hp).sand hD, .of (same_new hD), upd_same, rfl, wipeE_len _ _, by rw [List.drop_zero]; exact ew2⟩, ?_⟩
  rintro i m H2 ⟨rfl, hi, ρi, acc, vacc, P2, k2, hD2, r2, hρ2, e2⟩
  have kS2 : Keep S H1 H2 := k2.up P1.ts
  by_cases hlt : i < items.length
  · right
    refine ⟨wk.go i H2 kS2 hlt, fun H => i + 1 ≤ items.length ∧ ∃ ρi acc vacc, PSt K H0 A Z T (Sand S D) own (L2.wipe σ vs) H ρi ∧ Keep T H1 H ∧ H D = some (.lst vacc) ∧ Reps K (Sand S D) H acc vacc ∧ ρi.length = ρ1.length ∧ lcL2 vs t c fi1 vs1 t1 c1 f (items.drop (i + 1)) ρi acc = .ok w, fun H' h' => ⟨_, by omega, rfl, h'⟩, fun v H3 hy => ?_⟩
    obtain ⟨s3, x, hx, rx⟩ := wk.yld i (Sand S D) H2 v H3 kS2 hs P2.al hlt hy
    have hxi : items.drop i = x :: items.drop (i + 1) := by
      obtain ⟨h1, h2⟩ := List.getElem?_eq_some_iff.mp hx
      rw [List.drop_eq_getElem_cons h1, h2]
    rw [hxi] at e2
    unfold lcL2 at e2
    have P3 := P2.same s3
    cases ea : asg t x ρi with
    | none => rw [ea] at e2; cases e2
    | some ρa =>
    rw [ea] at e2
    dsimp only at e2
    refine ⟨H0, A, Z, T, Sand S D, own, ρi, x, ρa, P3, rx, ea, fun σ' P' off => ?_⟩
    have ewp : L2.wipe σ' vs = L2.wipe σ vs := (off_wipe (off_mono off hv)).trans (wipe_wipe σ vs)
    refine ⟨ewp, H0, A, Z, T, Sand S D, own, ρa, P', ?_⟩
    have lenW : ∀ (τ : L2.St) (ρ' : Env) (H' : Hp), τ.length = σ'.length → PSt K H0 A Z T (Sand S D) own τ H' ρ' → ρ'.length = ρ1.length := fun τ ρ' H' hl P' => by
      rw [P'.ln, P1.ln, hl, off.1, wipe_length]
    cases ec : c ρa with
    | err e r => rw [ec] at e2; cases e2
    | bad => rw [ec] at e2; cases e2
    | ok kk =>
    obtain ⟨b, ρb⟩ := kk
    rw [ec, noErr_ok, Res.bind_ok] at e2
    intro H4 P4 k4
    have hD4 : H4 D = some (.lst vacc) := k4 _ _ (s3 _ _ hD2) hTD
    have k14 : Keep T H1 H4 := (k2.trans (.of s3)).trans k4
    have r4 : Reps K (Sand S D) H4 acc vacc := (r2.keep (.of s3)).keep (k4.up P3.ts)
    cases b with
    | false =>
      refine iteF ?_
      rw [if_neg Bool.false_ne_true] at e2
      cases eo : wipeO vs ρb with
      | none => rw [eo] at e2; cases e2
      | some ρ5 =>
        rw [eo] at e2
        obtain ⟨hpl, rfl⟩ := wipeO_eq eo
        have := P4.wipe hpl
        rw [ewp] at this
        exact ⟨hlt, _, acc, vacc, this, k14, hD4, r4, by rw [wipeE_len]; exact lenW _ _ _ rfl P4, e2⟩
    | true =>
      refine iteT ?_
      rw [if_pos rfl] at e2
      cases ef : fi1 ρb with
      | err e r => rw [ef] at e2; cases e2
      | bad => rw [ef] at e2; cases e2
      | ok zz =>
      obtain ⟨it1, ρc⟩ := zz
      rw [ef, noErr_ok, Res.bind_ok] at e2
      refine ⟨H0, A, Z, T, Sand S D, own, ρb, P4, ?_⟩
      rw [ef]
      intro H5 P5 k5 hl5 J1 wk1
      dsimp only at e2
      cases eo : wipeO vs1 ρc with
      | none => rw [eo] at e2; cases e2
      | some ρ6 =>
        rw [eo] at e2
        replace e2 : ((lcL vs1 t1 c1 f it1 ρ6 acc).bind fun w => match wipeO vs w.2 with | some ρ2 => lcL2 vs t c fi1 vs1 t1 c1 f (items.drop (i + 1)) ρ2 w.1 | none => .bad) = Res.ok w := e2
        obtain ⟨hpl, rfl⟩ := wipeO_eq eo
        cases ei : lcL vs1 t1 c1 f it1 (wipeE vs1 ρc) acc with
        | err e r => rw [ei] at e2; cases e2
        | bad => rw [ei] at e2; cases e2
        | ok w1 =>
        rw [ei, Res.bind_ok] at e2
        cases e9 : wipeO vs w1.2 with
        | none => rw [e9] at e2; cases e2
        | some ρ9 =>
        rw [e9] at e2
        dsimp only at e2
        obtain ⟨hpl9, rfl⟩ := wipeO_eq e9
        have hw1 : w1.1.length ≤ sizeLine := Nat.le_trans (lcL2_mono _ _ _ _ e2) hw
        refine lc_inner hv1 P5 hpl hH0 hTD hD (k14.trans k5) (k5 _ _ hD4 hTD) (r4.keep (k5.up kTS)) wk1 ei hw1 kTS fun H7 P7 k7 _ ⟨vacc7, hD7, r7⟩ => ?_
        have o1 : L2.wipe (L2.wipe σ' vs1) vs = L2.wipe σ vs := (off_wipe (off_mono (⟨wipe_length σ' vs1, fun i hi => wipe_out hi⟩ : Off vs1 σ' (L2.wipe σ' vs1)) hvv)).trans ewp
        have P8 := P7.wipe hpl9
        rw [o1] at P8
        exact ⟨hlt, _, w1.1, vacc7, P8, k7, hD7, r7, by rw [wipeE_len]; exact lenW _ _ _ (wipe_length σ' vs1) P7, e2⟩
  · left
    have e : i = items.length := by omega
    subst e
    rw [List.drop_of_length_le (Nat.le_refl _)] at e2
    cases e2
    exact ⟨wk.stop H2 kS2, h1 H2 D (P1.rest hD P2 kS2 hp hρ2) k2 hD hSD ⟨vacc, hD2, r2⟩⟩
def fThawL (f : FE) : FE := fun ρ => match f (sealE ρ) with
  | .ok z => match z.1 with
    | .lst xs => if scalPs xs = true then .ok (.lst xs, ρ) else .bad
    | _ => .bad
  | _ => .bad
theorem thawL_imp {K : PySem.W.Frag} {E : L2.St → XK} {f : FE} {σ : L2.St} {H : Hp} {Q : VK} (h : pE K E (fThawL f) σ H Q) : pN K E f σ H Q := by
  obtain ⟨H0, A, Z, T, S, own, ρ, P, h⟩ := h
  refine ⟨H, _, _, _, _, own, _, P.thaw, ?_⟩
  unfold fThawL at h
  generalize f (sealE ρ) = r at h ⊢
  match r, h with
  | .ok z, h =>
    obtain ⟨p, ρ'⟩ := z
    dsimp only at h
    match p, h with
    | .lst xs, h =>
      dsimp only at h
      split at h
      · rename_i hsc
        intro H' a P' _ hn nS t
        have s : Same H H' := fun b o hb => P'.kp b o hb fun i z => nomatch z
        obtain ⟨vs, t1, t2⟩ := t
        have nSa : ¬ S a := P.new hn
        refine h H' (P.same s) (.of s) (.ref a) ⟨a, vs, rfl, nSa, t1, ?_⟩
        refine scal_reps (S' := Sand (fun s => S s ∧ ∀ i, slA _ own ρ i ≠ some s) a) (fun b ws h1 h2 => own_tup P s h1 fun z => h2 (.inl z)) hsc t2
      · exact h.elim
    | .non, h => exact h.elim
    | .bl _, h => exact h.elim
    | .int _, h => exact h.elim
    | .str _, h => exact h.elim
    | .tup _, h => exact h.elim
    | .scr _, h => exact h.elim
    | .obj _ _, h => exact h.elim
    | .dic _, h => exact h.elim
  | .err _ _, h => exact h.elim
  | .bad, h => exact h.elim
theorem asgN_imp {K : PySem.W.Frag} {E : L2.St → XK} {i : Nat} {f : FE} {D : Ends} {σ : L2.St} {H : Hp} (h : pS K E (gAsg (.nm i) f) D σ H) : pE K E f σ H (fun v H1 => gName i v σ H1 D.nx) := by
  obtain ⟨H0, A, Z, T, S, ow, ρ, P, h⟩ := h
  exact ⟨H0, A, Z, T, S, ow, ρ, P, (okF.bnd P h).mono (by
    rintro p H1 - ⟨ρ1, P1, k1, h1⟩ v r1
    dsimp only at h1
    cases e : asg (.nm i) p ρ1 with
    | none => rw [e] at h1; exact h1.elim
    | some ρ' => rw [e] at h1; exact h1 _ H1 T S ow (P1.set r1 e) .refl)⟩
section
variable {X : Cx} {E : L2.St → XK} {e : Expr} {f : FE}
theorem us_setLc2T {i : Nat} {y : Str} {py : Pos} {elt tg iter tg1 iter1 : Expr} {ifs ifs1 : List Expr} {scope : Scope} {own : List (Str × Nat)} {vs1 : List Nat} {pos spos : Pos} {fi fi1 : FA} {t t1 : Tg1} {c c1 : FT} {f : FE} (hc : X.calm = true) (hN : X.N.Nodup) (hy : X.N[i]? = some y) (hyl : X.env.scope.names.lookup y = some .local)
    (hsw : swapsWith (.ListComp elt [⟨tg, iter, ifs, 0⟩, ⟨tg1, iter1, ifs1, 0⟩] scope pos) (some (.Name y py)) spos.line X.env = pure true) (hi : PI X tg iter (pI X.K E fi)) (ok : BlkOk X.N X.env.scope scope own) (hvv : ∀ i ∈ vs1, i ∈ own.map (·.2))
    (hg : ∀ (s : Shared) (H : Hp) (C : Addr) (cl : List (Str × Addr)) (fp : List Addr), PG (X.blk s H scope (compEnvC scope cl C X.env) fp) tg (pG X.K t)) (ht : ∀ (s : Shared) (H : Hp) (C : Addr) (cl : List (Str × Addr)) (fp : List Addr), PTs (X.blk s H scope (compEnvC scope cl C X.env) fp) ifs (pT X.K E0S c))
    (hi1 : ∀ (s : Shared) (H : Hp) (C : Addr) (cl : List (Str × Addr)) (fp : List Addr), PI (X.blk s H scope (compEnvC scope cl C X.env) fp) tg1 iter1 (pI X.K E0S fi1))
    (hg1 : ∀ (s : Shared) (H : Hp) (C : Addr) (cl : List (Str × Addr)) (fp : List Addr), PG (X.blk s H scope (compEnvC scope cl C X.env) fp) tg1 (pG X.K t1)) (ht1 : ∀ (s : Shared) (H : Hp) (C : Addr) (cl : List (Str × Addr)) (fp : List Addr), PTs (X.blk s H scope (compEnvC scope cl C X.env) fp) ifs1 (pT X.K E0S c1))
    (he : ∀ (s : Shared) (H : Hp) (C : Addr) (cl : List (Str × Addr)) (fp : List Addr), PE (X.blk s H scope (compEnvC scope cl C X.env) fp) elt (pE X.K E0S f)) (hv : ∀ i ∈ t.vars, i ∈ own.map (·.2)) (hv1 : ∀ i ∈ t1.vars, i ∈ vs1) (hs : ∀ x, foldedSetIterable iter X.env x = pure x := by intro _; rfl) (hs1 : ∀ env x, foldedSetIterable iter1 env x = pure x := by intro _ _; rfl) :
    PS X (.Assign [.Name y py] (.ListComp elt [⟨tg, iter, ifs, 0⟩, ⟨tg1, iter1, ifs1, 0⟩] scope pos) spos) (pS X.K E (gAsg (.nm i) (fThawL (fLc2 fi (own.map (·.2)) t c fi1 vs1 t1 c1 f)))) := (ps_setLc2 (i := i) hc hN hy hyl hsw hi ok hvv hg ht hi1 hg1 ht1 he hs hs1).imp fun D σ H h => lc2_impN hv hv1 hvv (thawL_imp (asgN_imp h))
end
end Ev
namespace Ev
open PySem PySem.Spec PyProof.Rows L2
def keyOf : PV → Option Key
  | .int i => some (.inl i)
  | .str x => some (.inr x)
  | _ => none
def lookD : List (Key × PV) → Key → Option PV
  | [], _ => none
  | (j, p) :: r, k => if j = k then some p else lookD r k
def setD (kvs : List (Key × PV)) (k : Key) (p : PV) : List (Key × PV) := if (lookD kvs k).isSome = true then kvs.map fun kv => if kv.1 = k then (kv.1, p) else kv else kvs ++ [(k, p)]
section
variable {K : PySem.W.Frag} {S : Addr → Prop} {H : Hp}
theorem key_rep {p : PV} {k : Key} {v : V} (e : keyOf p = some k) (r : Rep K S H p v) : v = kV k := by
  cases p <;> first | (cases e; done) | (cases e; cases r; rfl)
theorem lenD_rep : ∀ {kvs : List (Key × PV)} {vks : List (Key × V)}, RepD K S H kvs vks → kvs.length = vks.length
  | [], _, rfl => rfl
  | (_, _) :: _, _, ⟨_, _, rfl, _, t⟩ => congrArg Nat.succ (lenD_rep t)
theorem lookD_rep {k : Key} : ∀ {kvs : List (Key × PV)} {vks : List (Key × V)}, RepD K S H kvs vks → (∀ p, lookD kvs k = some p → ∃ v, valV vks k = some v ∧ Rep K S H p v) ∧ (lookD kvs k = none → valV vks k = none)
  | [], _, rfl => ⟨fun p h => (nomatch h), fun _ => rfl⟩
  | (j, q) :: r, _, ⟨v, w, rfl, h, t⟩ => by
    have ih := lookD_rep (k := k) t
    by_cases e : j = k
    · have e1 : lookD ((j, q) :: r) k = some q := if_pos e
      have e2 : valV ((j, v) :: w) k = some v := valV_pos e
      rw [e1, e2]
      exact ⟨fun p z => ⟨v, rfl, by cases z; exact h⟩, fun z => nomatch z⟩
    · have e1 : lookD ((j, q) :: r) k = lookD r k := if_neg e
      have e2 : valV ((j, v) :: w) k = valV w k := by
        unfold valV
        rw [List.find?_cons]
        rw [show decide (((j, v) : Key × V).1 = k) = false from decide_eq_false e]
      rw [e1, e2]
      exact ih
theorem any_val {k : Key} : ∀ {vks : List (Key × V)}, (vks.any fun kv => decide (kv.1 = k)) = (valV vks k).isSome
  | [] => rfl
  | (j, v) :: r => by
    have ih := any_val (k := k) (vks := r)
    rw [List.any_cons, ih]
    unfold valV
    rw [List.find?_cons]
    cases decide (((j, v) : Key × V).1 = k) <;> simp
theorem mapD_rep {k : Key} {p : PV} {v : V} (h : Rep K S H p v) : ∀ {kvs : List (Key × PV)} {vks : List (Key × V)}, RepD K S H kvs vks → RepD K S H (kvs.map fun kv => if kv.1 = k then (kv.1, p) else kv) (vks.map fun kv => if kv.1 = k then (kv.1, v) else kv)
  | [], _, rfl => rfl
  | (j, q) :: r, _, ⟨u, w, rfl, h1, t⟩ => by
    have ih := mapD_rep h (k := k) t
    rw [List.map_cons, List.map_cons]
    by_cases e : j = k
    · rw [if_pos e, if_pos e]; exact ⟨v, _, rfl, h, ih⟩
    · rw [if_neg e, if_neg e]; exact ⟨u, _, rfl, h1, ih⟩
theorem appD_rep {k : Key} {p : PV} {v : V} (h : Rep K S H p v) : ∀ {kvs : List (Key × PV)} {vks : List (Key × V)}, RepD K S H kvs vks → RepD K S H (kvs ++ [(k, p)]) (vks ++ [(k, v)])
  | [], _, rfl => ⟨v, [], rfl, h, rfl⟩
  | (j, q) :: r, _, ⟨u, w, rfl, h1, t⟩ => ⟨u, _, rfl, h1, appD_rep h t⟩
theorem setD_rep {k : Key} {p : PV} {v : V} {kvs : List (Key × PV)} {vks : List (Key × V)} (h : Rep K S H p v) (r : RepD K S H kvs vks) : RepD K S H (setD kvs k p) (putK vks k v) := by
  have l := lookD_rep (k := k) r
  unfold setD putK
  rw [any_val]
  cases e : lookD kvs k with
  | none =>
    rw [l.2 e, if_neg (by simp), if_neg (by simp)]
    exact appD_rep h r
  | some q =>
    obtain ⟨u, e2, _⟩ := l.1 q e
    rw [e2, if_pos (show (some q).isSome = true from rfl), if_pos (show (some u).isSome = true from rfl)]
    exact mapD_rep h r
end
def ownD (i : Nat) (ρ : Env) : Option (List (Key × PV)) := match ownP i ρ with
  | some (.dic kvs) => some kvs
  | _ => none
theorem ownD_eq {i : Nat} {ρ : Env} {kvs : List (Key × PV)} (h : ownD i ρ = some kvs) : ownP i ρ = some (.dic kvs) := by
  unfold ownD at h
  split at h
  · rename_i e; cases h; exact e
  · cases h
theorem uI {k : Nat} {A : Around} (hr : Room k A) : A.units + 1 < cLine := Nat.lt_of_le_of_lt (Nat.add_le_add_left (by decide : 1 ≤ 64) _) (show A.units + 64 < cLine from hr.units)
def fDic0 : FE := fun ρ => .ok (.dic [], ρ)
/-- d[k], d the body's own -/
def fGetD (i : Nat) (fk : FE) : FE := fun ρ => if (ownD i ρ).isSome = true then (fk ρ).bind fun z => ofO ((ownD i z.2).bind fun kvs => (keyOf z.1).bind fun k => lookD kvs k) z.2 else .bad
section
variable {X : Cx} {E : L2.St → XK} {e b o : Expr} {x : Str} {pos pos' npos : Pos} {f fd fk : FE}
theorem nb_dic {σ : L2.St} {H : Hp} {Q : VK} (h : pN X.K E fDic0 σ H Q) : tDNewK σ H Q := by
  obtain ⟨H0, A, Z, T, S, own, ρ, P, h⟩ := h
  exact fun p hp => h _ p (P.sand hp) (.of (same_new hp)) hp (P.new hp) ⟨[], upd_same, rfl⟩
theorem us_ownDic0 {i : Nat} (hN : X.N.Nodup) (hi : X.N[i]? = some x) (hx : Loc X.env.scope x) (hf : X.fn x = true ∨ X.env.scope.names.lookup x = some .local := by first | exact .inl rfl | exact .inr rfl | assumption) {pos2 : Pos} (hs2 : swapsWith (.Dict [] [] pos) (some (.Name x pos')) pos2.line X.env = pure false := by rfl) :
    PS X (.Assign [.Name x pos'] (.Dict [] [] pos) pos2) (pS X.K E (gOwn i fDic0)) := us_own i (ps_set (i := i) hN hi hx pe_dnewK hs2 hf) fun _ _ _ => nb_dic
theorem ue_getD (i : Nat) (hu : X.A.units + 1 < cLine) (hb : PE X b (pE X.K E fk)) (hs : NoSl b) (hN : X.N[i]? = some x := by rfl) (hv : Vis X.env.scope x := by first | exact Or.inl rfl | exact Or.inr (Or.inl rfl) | exact Or.inr (Or.inr rfl)) (hd : (x == ("__debug__" : Str)) = false := by decide)
    (hcd : (x == ("__classdict__" : Str)) = false := by decide) : PE X (.Subscript (.Name x npos) b pos) (pE X.K E (fGetD i fk)) := (pe_dget hu (pe_var (i := i) hN hv hd hcd) hb hs).imp (by
  rintro σ H Q ⟨H0, A, Z, T, S, own, ρ, P, h⟩
  unfold fGetD at h
  split at h
  · rename_i hl
    obtain ⟨kvs0, hx⟩ := Option.isSome_iff_exists.mp hl
    obtain ⟨a, ha, hσ, hT, _, _⟩ := P.ownAt (ownD_eq hx)
    refine ⟨_, hσ, H0, A, Z, T, S, own, ρ, P, (okR.bnd (r := fk ρ) h).mono ?_⟩
    rintro p H1 - ⟨ρ1, P1, k1, h1⟩ v r1
    obtain ⟨z, e, k⟩ := ofO_ok P1 h1
    obtain ⟨kvs, e1, e2⟩ := Option.bind_eq_some_iff.mp e
    obtain ⟨key, e3, e4⟩ := Option.bind_eq_some_iff.mp e2
    obtain ⟨a', ha', hσ', hT', ⟨ws, hH', rw'⟩, _⟩ := P1.ownAt (ownD_eq e1)
    rw [hσ] at hσ'
    cases hσ'
    obtain ⟨u, e5, e6⟩ := (lookD_rep rw').1 _ e4
    refine ⟨a, u, rfl, ?_, k H1 (.refl _) u e6⟩
    rw [key_rep e3 r1, ← e5]
    exact DGet.k hH'
  · exact h.elim)
def fLenD (i : Nat) : FE := fun ρ => ofO ((ownD i ρ).map fun kvs => .int kvs.length) ρ
theorem ue_lenD (i : Nat) (hg : Gl X "len") (hm : X.mg "len" = none) (hv' : bootBuiltins "len" = some (.builtin "len")) (hN : X.N[i]? = some x := by rfl) (hv : Vis X.env.scope x := by first | exact Or.inl rfl | exact Or.inr (Or.inl rfl) | exact Or.inr (Or.inr rfl)) (hd : (x == ("__debug__" : Str)) = false := by decide)
    (hcd : (x == ("__classdict__" : Str)) = false := by decide) {p : Pos} (he : starEach [.Name x npos] X.env = (false, eval (.Name x npos) X.env) :: starEach [] X.env := by rfl) (hpl : (backTo pos (starEach [] X.env)).any (·.1) = false := by rfl) : PE X (.Call (.Name "len" p) [.Name x npos] [] pos) (pE X.K E (fLenD i)) :=
  (pe_callB call_lenD hg hm hv' (pa_cons (pe_var (i := i) (pos := npos) hN hv hd hcd) pa_nil he) (by decide) (by decide) he hpl).imp (by
  rintro σ H Q ⟨H0, A, Z, T, S, own, ρ, P, h⟩
  obtain ⟨z, e, k⟩ := ofO_ok P h
  obtain ⟨kvs, e1, e2⟩ := Option.map_eq_some_iff.mp e
  obtain ⟨a, ha, hσ, hT, ⟨ws, hH, rd⟩, _⟩ := P.ownAt (ownD_eq e1)
  subst e2
  exact ⟨_, hσ, a, ws, rfl, hH, by rw [← lenD_rep rd]; exact k H (.refl _) _ rfl⟩)
/-- d.setdefault(k, z), d the body's own -/
def fSetdD (i : Nat) (fk fz : FE) : FE := fun ρ => if (ownD i ρ).isSome = true then (fk ρ).bind fun y => (fz y.2).bind fun z => match ownD i z.2, keyOf y.1 with
  | some kvs, some k => if kvs.length < sizeLine then (match lookD kvs k with
    | some p => .ok (p, z.2)
    | none => match putE i (.dic (setD kvs k z.1)) z.2 with
      | some ρ' => .ok (z.1, ρ')
      | none => .bad) else .bad
  | _, _ => .bad
  else .bad
theorem ue_setdD (i : Nat) {apos cpos : Pos} (hb : PE X b (pE X.K E fk)) (he : PE X o (pE X.K E f)) (m : M2 X (.Name x npos) "setdefault" apos b o cpos) (hN : X.N[i]? = some x := by rfl) (hv : Vis X.env.scope x := by first | exact Or.inl rfl | exact Or.inr (Or.inl rfl) | exact Or.inr (Or.inr rfl)) (hd : (x == ("__debug__" : Str)) = false := by decide) (hcd : (x == ("__classdict__" : Str)) = false := by decide) : PE X (.Call (.Attribute (.Name x npos) "setdefault" apos) [b, o] [] cpos) (pE X.K E (fSetdD i fk f)) := (pe_dsetd (pe_var (i := i) hN hv hd hcd) hb he m).imp (by
  rintro σ H Q ⟨H0, A, Z, T, S, own, ρ, P, h⟩
  unfold fSetdD at h
  split at h
  · rename_i hl
    obtain ⟨kvs0, hx⟩ := Option.isSome_iff_exists.mp hl
    obtain ⟨a, ha, hσ, hT, ⟨ws0, hH0, _⟩, _⟩ := P.ownAt (ownD_eq hx)
    refine ⟨_, hσ, a, rfl, .inl ⟨ws0, .inl hH0⟩, H0, A, Z, T, S, own, ρ, P, (okR.bnd (r := fk ρ) h).mono ?_⟩
    rintro p H1 - ⟨ρ1, P1, k1, h1⟩ v r1
    refine ⟨H0, A, Z, T, S, own, ρ1, P1, (okR.bnd (r := f ρ1) h1).mono ?_⟩
    rintro q H2 - ⟨ρ2, P2, k2, h2⟩ w r2
    dsimp only at h2
    cases ho : ownD i ρ2 with
    | none => rw [ho] at h2; exact h2.elim
    | some kvs =>
      cases hk : keyOf p with
      | none => rw [ho, hk] at h2; exact h2.elim
      | some key =>
        rw [ho, hk] at h2
        dsimp only at h2
        split at h2
        · rename_i hlt
          obtain ⟨a', ha', hσ', hT', ⟨ws, hH', rw'⟩, hput⟩ := P2.ownAt (ownD_eq ho)
          rw [hσ] at hσ'
          cases hσ'
          have l := lookD_rep (k := key) rw'
          refine ⟨ws, key, hH', key_rep hk r1, by rw [← lenD_rep rw']; exact hlt, fun u hu => ?_, fun hu => ?_⟩
          · cases e5 : lookD kvs key with
            | none => rw [l.2 e5] at hu; cases hu
            | some p5 =>
              rw [e5] at h2
              obtain ⟨u', e6, e7⟩ := l.1 _ e5
              rw [hu] at e6
              cases e6
              exact h2 H2 P2 .refl u e7
          · cases e5 : lookD kvs key with
            | some p5 => obtain ⟨u', e6, e7⟩ := l.1 _ e5; rw [hu] at e6; cases e6
            | none =>
              rw [e5] at h2
              obtain ⟨ρ', hp⟩ := hput (.dic (setD kvs key q))
              dsimp only at h2
              rw [hp] at h2
              have kk : ∀ b, b ≠ a → (upd H2 a (.dK (putK ws key w))) b = H2 b := fun b hb => upd_ne hb
              have kS : Keep S H2 (upd H2 a (.dK (putK ws key w))) := fun b u hb n => by rw [kk b (fun z => n (by rw [z]; exact P2.ts _ hT))]; exact hb
              obtain ⟨P3, k3⟩ := P2.put ha' hp kk ⟨_, upd_same, (setD_rep r2 rw').keep kS⟩
              exact h2 _ P3 k3 w (r2.keep kS)
        · exact h2.elim
  · exact h.elim)
end
end Ev
namespace Ev
open PySem PySem.Spec PyProof.Rows L2
abbrev W (α : Type) : Type := (α → Prop) → (PErr → Prop) → Prop
def W.ret {α : Type} (a : α) : W α := fun Q _ => Q a
def W.bind {α β : Type} (w : W α) (k : α → W β) : W β := fun Q X => w (fun a => k a Q X) X
def W.err {α : Type} (e : PErr) : W α := fun _ X => X e
def W.req {α : Type} (P : Prop) (a : α) : W α := fun Q _ => P ∧ Q a
def W.bad {α : Type} : W α := fun _ _ => False
/-- some value that fits -/
def W.ex {α : Type} (P : α → Prop) : W α := fun Q _ => ∃ a, P a ∧ Q a
/-- no error leaves -/
def W.no {α : Type} (w : W α) : W α := fun Q _ => w Q fun _ => False
/-- a number below m -/
def W.draw (m : Int) : W Int := fun Q _ => 0 < m ∧ m < 2 ^ 64 ∧ ∀ r, 0 ≤ r → r < m → Q r
def W.opt {α : Type} (o : Option α) : W α := fun Q _ => ∃ a, o = some a ∧ Q a
def W.lc {α β : Type} (c : α → W Bool) (f : α → W β) : List α → W (List β)
  | [] => W.ret []
  | x :: xs => W.bind (W.no (c x)) fun k => if k = true then W.bind (W.no (f x)) fun y => W.bind (W.lc c f xs) fun ys => W.ret (y :: ys) else W.lc c f xs
def W.lc2 {α β γ : Type} (c : α → W Bool) (g : α → W (List β)) (c1 : α → β → W Bool) (f : α → β → W γ) : List α → W (List γ)
  | [] => W.ret []
  | x :: xs => W.bind (W.no (c x)) fun k => if k = true then W.bind (W.no (g x)) fun ys => W.bind (W.lc (c1 x) (f x) ys) fun zs => W.bind (W.lc2 c g c1 f xs) fun r => W.ret (zs ++ r) else W.lc2 c g c1 f xs
def W.forS {α σ : Type} (b : σ → α → W σ) : List α → σ → W σ
  | [], s => W.ret s
  | x :: xs, s => W.bind (b s x) fun s' => W.forS b xs s'
inductive St (σ β : Type) where
  | go (s : σ) | brk (s : σ) | ret (b : β)
def W.forB {α σ β : Type} (b : σ → α → W (St σ β)) : List α → σ → W (St σ β)
  | [], s => W.ret (.go s)
  | x :: xs, s => W.bind (b s x) fun
    | .go s' => W.forB b xs s'
    | .brk s' => W.ret (.go s')
    | .ret v => W.ret (.ret v)
def W.whileB {σ β : Type} (c : σ → W Bool) (b : σ → W (St σ β)) : Nat → σ → W (St σ β)
  | 0, _ => W.bad
  | n + 1, s => W.bind (c s) fun k => if k = true then W.bind (b s) fun
    | .go s' => W.whileB c b n s'
    | .brk s' => W.ret (.go s')
    | .ret v => W.ret (.ret v)
    else W.ret (.go s)
def W.cont {σ β γ : Type} (k : σ → W γ) (r : β → W γ) : St σ β → W γ
  | .go s => k s
  | .brk s => k s
  | .ret b => r b
def W.tryC {α : Type} (es : List Str) (g : Str) (b : Bool) (w : W α) (h : PErr → W α) : W α := fun Q X => w Q fun e => e.cls ∈ es ∧ if (b || decide (e.cls = g)) = true then h e Q X else X e
theorem W.ext {α : Type} {w w' : W α} (h : ∀ Q X, w Q X ↔ w' Q X) : w = w' := by
  funext Q X
  exact propext (h Q X)
theorem W.ret_bind {α β : Type} (a : α) (k : α → W β) : W.bind (W.ret a) k = k a := W.ext fun _ _ => Iff.rfl
theorem W.bind_bind {α β γ : Type} (w : W α) (k : α → W β) (l : β → W γ) : W.bind (W.bind w k) l = W.bind w fun a => W.bind (k a) l := W.ext fun _ _ => Iff.rfl
theorem W.no_ret {α : Type} (a : α) : W.no (W.ret a) = W.ret a := W.ext fun _ _ => Iff.rfl
theorem W.req_true {α : Type} {P : Prop} (h : P) (a : α) : W.req P a = W.ret a := by
  funext Q X
  exact propext ⟨fun z => z.2, fun z => ⟨h, z⟩⟩
theorem W.opt_some {α : Type} (a : α) : W.opt (some a) = W.ret a := by
  funext Q X
  exact propext ⟨fun ⟨b, e, q⟩ => by cases e; exact q, fun q => ⟨a, rfl, q⟩⟩
/-- the pool of draws (both kinds of it) -/
def PoolP (p : PV) : Prop := ∃ (ns : List Int) (a b c : Int), p = .lst [.lst (ns.map .int), .int a, .int b, .int c] ∧ ns.length ≤ 63 ∧ 0 ≤ a ∧ 0 ≤ b ∧ 0 ≤ c
inductive SC where
  | v (p : PV) | o (p : PV) | i (p : PV) | pool | opool | jk | any | top
def Sl : SC → EV → Prop
  | .v p, e => e = .fr p
  | .o p, e => e = .ow p
  | .i p, e => e = .io p
  | .pool, e => ∃ p, e = .io p ∧ PoolP p
  | .opool, e => ∃ p, e = .ow p ∧ PoolP p
  | .jk, e => e = .no ∨ ∃ p, e = .fr p
  | .any, e => ∀ p, e ≠ .io p
  | .top, _ => True
abbrev Ctx := List SC
def Mt : Ctx → Env → Prop
  | [], ρ => ρ = []
  | c :: Γ, ρ => ∃ e r, ρ = e :: r ∧ Sl c e ∧ Mt Γ r
/-- of the first slots -/
def MtP : Ctx → Env → Prop
  | [], _ => True
  | c :: L, ρ => ∃ e r, ρ = e :: r ∧ Sl c e ∧ MtP L r
def SubC : SC → SC → Prop
  | _, .top => True
  | .v _, .jk => True
  | .jk, .jk => True
  | _, .jk => False
  | .v _, .any => True
  | .o _, .any => True
  | .opool, .any => True
  | .jk, .any => True
  | .any, .any => True
  | _, .any => False
  | c, c' => c = c'
theorem SubC.sl {c c' : SC} {e : EV} (h : SubC c c') (s : Sl c e) : Sl c' e := by
  cases c' with
  | top => trivial
  | jk => cases c with
    | v p => exact .inr ⟨_, s⟩
    | jk => exact s
    | _ => exact h.elim
  | any => cases c with
    | v q => intro p z; cases s; cases z
    | o q => intro p z; cases s; cases z
    | opool => obtain ⟨q, rfl, _⟩ := s; intro p z; cases z
    | jk => intro p z; rcases s with rfl | ⟨q, rfl⟩ <;> cases z
    | any => exact s
    | _ => exact h.elim
  | v p => cases c <;> first | (cases h; exact s) | cases h
  | o p => cases c <;> first | (cases h; exact s) | cases h
  | i p => cases c <;> first | (cases h; exact s) | cases h
  | pool => cases c <;> first | (cases h; exact s) | cases h
  | opool => cases c <;> first | (cases h; exact s) | cases h
def Sub : Ctx → Ctx → Prop
  | [], [] => True
  | c :: Γ, c' :: Γ' => SubC c c' ∧ Sub Γ Γ'
  | _, _ => False
def SubP : Ctx → Ctx → Prop
  | _, [] => True
  | c :: Γ, c' :: Γ' => SubC c c' ∧ SubP Γ Γ'
  | [], _ :: _ => False
theorem Sub.mt : ∀ {Γ Γ' : Ctx} {ρ : Env}, Sub Γ Γ' → Mt Γ ρ → Mt Γ' ρ
  | [], [], _, _, m => m
  | _ :: _, _ :: _, _, h, ⟨e, r, z, s, m⟩ => ⟨e, r, z, h.1.sl s, Sub.mt h.2 m⟩
  | [], _ :: _, _, h, _ => h.elim
  | _ :: _, [], _, h, _ => h.elim
theorem SubP.mt : ∀ {Γ L : Ctx} {ρ : Env}, SubP Γ L → Mt Γ ρ → MtP L ρ
  | _, [], _, _, _ => trivial
  | _ :: _, _ :: _, _, h, ⟨e, r, z, s, m⟩ => ⟨e, r, z, h.1.sl s, SubP.mt h.2 m⟩
  | [], _ :: _, _, h, _ => h.elim
theorem SubP.nil {Γ : Ctx} : SubP Γ [] := by cases Γ <;> trivial
def gt : Ctx → Nat → Option SC
  | [], _ => none
  | c :: _, 0 => some c
  | _ :: Γ, n + 1 => gt Γ n
def pt1 (c : SC) : Ctx → Nat → Ctx
  | [], _ => []
  | _ :: Γ, 0 => c :: Γ
  | d :: Γ, n + 1 => d :: pt1 c Γ n
abbrev pt (i : Nat) (c : SC) (Γ : Ctx) : Ctx := pt1 c Γ i
theorem Mt.gt : ∀ {Γ : Ctx} {ρ : Env} {i : Nat} {c : SC}, Mt Γ ρ → gt Γ i = some c → ∃ e, ρ[i]? = some e ∧ Sl c e
  | [], _, _, _, _, h => by cases h
  | _ :: _, _, 0, _, ⟨e, r, z, s, _⟩, h => by cases h; subst z; exact ⟨e, rfl, s⟩
  | _ :: Γ, _, n + 1, _, ⟨e, r, z, _, m⟩, h => by
    subst z
    obtain ⟨f, h1, h2⟩ := Mt.gt (i := n) m h
    exact ⟨f, by simpa using h1, h2⟩
theorem Mt.pt : ∀ {Γ : Ctx} {ρ : Env} {i : Nat} {c : SC} {e : EV}, Mt Γ ρ → Sl c e → Mt (pt i c Γ) (ρ.set i e)
  | [], _, i, _, _, m, _ => by cases m; show [].set i _ = []; exact List.set_nil
  | _ :: _, _, 0, _, _, ⟨f, r, z, _, m⟩, s => by subst z; exact ⟨_, r, rfl, s, m⟩
  | _ :: _, _, n + 1, _, _, ⟨f, r, z, s0, m⟩, s => by subst z; exact ⟨f, _, rfl, s0, Mt.pt m s⟩
theorem pt_id : ∀ {Γ : Ctx} {i : Nat} {c : SC}, gt Γ i = some c → pt i c Γ = Γ
  | [], _, _, h => by cases h
  | _ :: _, 0, _, h => by cases h; rfl
  | d :: Γ, n + 1, _, h => congrArg (d :: ·) (pt_id (i := n) h)
theorem Mt.len : ∀ {Γ : Ctx} {ρ : Env}, Mt Γ ρ → ρ.length = Γ.length
  | [], _, m => by cases m; rfl
  | _ :: _, _, ⟨_, _, z, _, m⟩ => by subst z; exact congrArg Nat.succ m.len
theorem Mt.app : ∀ {Γ Γ' : Ctx} {ρ ρ' : Env}, Mt Γ ρ → Mt Γ' ρ' → Mt (Γ ++ Γ') (ρ ++ ρ')
  | [], _, _, _, m, m' => by cases m; exact m'
  | _ :: _, _, _, _, ⟨e, r, z, s, m⟩, m' => by subst z; exact ⟨e, _, rfl, s, Mt.app m m'⟩
theorem Mt.reps : ∀ n : Nat, Mt (List.replicate n .jk) (List.replicate n .no)
  | 0 => rfl
  | n + 1 => ⟨_, _, rfl, .inl rfl, Mt.reps n⟩
theorem Mt.ext {Γ : Ctx} {ρ ρ' : Env} (m : Mt Γ ρ) (h : ∀ i : Nat, ρ'[i]? = ρ[i]?) : Mt Γ ρ' := by
  have : ρ' = ρ := List.ext_getElem? h
  rw [this]; exact m
/-- a slot can be given a value -/
def canSet : SC → Prop
  | .i _ => False
  | .pool => False
  | .top => False
  | _ => True
theorem Mt.setE {Γ : Ctx} {ρ : Env} {i : Nat} {c c' : SC} {e : EV} (m : Mt Γ ρ) (h : Ev.gt Γ i = some c) (hc : canSet c) (s : Sl c' e) : ∃ ρ', Ev.setE i e ρ = some ρ' ∧ Mt (Ev.pt i c' Γ) ρ' := by
  obtain ⟨f, h1, h2⟩ := m.gt h
  refine ⟨ρ.set i e, ?_, m.pt s⟩
  unfold Ev.setE
  rw [h1]
  cases c <;> first | exact hc.elim | (cases h2; rfl) | skip
  · obtain ⟨p, rfl, _⟩ := h2; rfl
  · rcases h2 with rfl | ⟨p, rfl⟩ <;> rfl
  · cases f <;> first | rfl | exact absurd rfl (h2 _)
/-- a result is as wanted -/
def Ok1 {α β : Type} (r : Res (β × Env)) (Γ : Ctx) (R : α → β) (w : W α) : Prop := ∀ (Q : α → Prop) (X : PErr → Prop), w Q X →
  (∃ a ρ', r = .ok (R a, ρ') ∧ Mt Γ ρ' ∧ Q a) ∨ ∃ e ρ', r = .err e ρ' ∧ Mt Γ ρ' ∧ X e
def Sim {α β : Type} (f : Env → Res (β × Env)) (Γ : Ctx) (R : α → β) (w : W α) : Prop := ∀ ρ, Mt Γ ρ → Ok1 (f ρ) Γ R w
section
variable {α β γ δ : Type} {f : Env → Res (β × Env)} {r : Res (β × Env)} {Γ Γ' : Ctx} {R : α → β} {w : W α} {ρ : Env}
theorem Ok1.bnd {k : β × Env → Res (δ × Env)} {R' : γ → δ} {kw : α → W γ} (h : Ok1 r Γ R w) (hk : ∀ a ρ', Mt Γ ρ' → Ok1 (k (R a, ρ')) Γ R' (kw a)) : Ok1 (r.bind k) Γ R' (W.bind w kw) := fun Q X q => by
  rcases h _ X q with ⟨a, ρ', e, m', q'⟩ | ⟨x, ρ', e, m', q'⟩
  · subst e
    exact hk a ρ' m' Q X q'
  · subst e
    exact .inr ⟨x, ρ', rfl, m', q'⟩
theorem Ok1.ret (m : Mt Γ ρ) {a : α} : Ok1 (.ok (R a, ρ)) Γ R (W.ret a) := fun Q X q => .inl ⟨a, ρ, rfl, m, q⟩
theorem Ok1.pure (m : Mt Γ ρ) {a : α} {b : β} (e : b = R a) : Ok1 (.ok (b, ρ)) Γ R (W.ret a) := by subst e; exact Ok1.ret m
theorem Ok1.req (m : Mt Γ ρ) {a : α} {P : Prop} (e : P → r = .ok (R a, ρ)) : Ok1 r Γ R (W.req P a) := fun Q X q => .inl ⟨a, ρ, e q.1, m, q.2⟩
theorem Ok1.ofO (m : Mt Γ ρ) {o : Option β} (h : ∀ Q X, w Q X → ∃ a, o = some (R a) ∧ Q a) : Ok1 (Ev.ofO o ρ) Γ R w := fun Q X q => by
  obtain ⟨a, e, q⟩ := h Q X q
  subst e
  exact .inl ⟨a, ρ, rfl, m, q⟩
theorem Ok1.no (h : Ok1 r Γ R w) : Ok1 (noErr r) Γ R (W.no w) := fun Q X q => by
  rcases h _ _ q with ⟨a, ρ', e, m', q'⟩ | ⟨x, ρ', e, m', q'⟩
  · subst e
    exact .inl ⟨a, ρ', rfl, m', q'⟩
  · exact q'.elim
theorem Ok1.same {R' : α → δ} {r' : Res (δ × Env)} (h : Ok1 r Γ R w) (h1 : ∀ a ρ', r = .ok (R a, ρ') → r' = .ok (R' a, ρ')) (h2 : ∀ e ρ', r = .err e ρ' → r' = .err e ρ') : Ok1 r' Γ R' w := fun Q X q => by
  rcases h _ _ q with ⟨a, ρ', e, m', q'⟩ | ⟨x, ρ', e, m', q'⟩
  · exact .inl ⟨a, ρ', h1 _ _ e, m', q'⟩
  · exact .inr ⟨x, ρ', h2 _ _ e, m', q'⟩
/-- the same value said otherwise -/
theorem sim_co {R' : γ → β} (h : α → γ) (hr : ∀ a, R a = R' (h a)) (s : Sim f Γ R w) : Sim f Γ R' (W.bind w fun a => W.ret (h a)) := fun ρ m Q X q => by
  rcases s ρ m _ X q with ⟨a, ρ', e, m', q'⟩ | z
  · exact .inl ⟨h a, ρ', by rw [e, hr], m', q'⟩
  · exact .inr z
/-- .. where it can be said so -/
theorem sim_cox {R' : γ → β} {h : α → W γ} (hr : ∀ a Q X, h a Q X → ∃ c, R a = R' c ∧ Q c) (s : Sim f Γ R w) : Sim f Γ R' (W.bind w h) := fun ρ m Q X q => by
  rcases s ρ m _ X q with ⟨a, ρ', e, m', q'⟩ | z
  · obtain ⟨c, e2, q2⟩ := hr a Q X q'
    exact .inl ⟨c, ρ', by rw [e, e2], m', q2⟩
  · exact .inr z
end
abbrev Enc (α : Type) := α → PV
def eI : Enc Int := fun i => .int i
def eB : Enc Bool := fun b => .bl b
def eS : Enc Str := fun s => .str s
def eA : Enc PV := fun p => p
def eN : Enc Unit := fun _ => .non
def eL {α : Type} (e : Enc α) : Enc (List α) := fun xs => .lst (xs.map e)
def eT {α : Type} (e : Enc α) : Enc (List α) := fun xs => .tup (xs.map e)
def eC {α : Type} (e : Enc α) : Enc (List α) := fun xs => .scr (xs.map e)
def eO {α : Type} (e : Enc α) : Enc (Option α)
  | none => .non
  | some a => e a
def eP1 {α : Type} (a : Enc α) : Enc α := fun x => .tup [a x]
def eP2 {α β : Type} (a : Enc α) (b : Enc β) : Enc (α × β) := fun x => .tup [a x.1, b x.2]
end Ev
namespace Ev
open PySem PySem.Spec PyProof.Rows L2
def OpS {α β γ : Type} (g : PV → PV → Option PV) (ea : Enc α) (eb : Enc β) (ec : Enc γ) (op : α → β → W γ) : Prop := ∀ a b Q X, op a b Q X → ∃ c, g (ea a) (eb b) = some (ec c) ∧ Q c
def UnS {α γ : Type} (g : PV → Option PV) (ea : Enc α) (ec : Enc γ) (op : α → W γ) : Prop := ∀ a Q X, op a Q X → ∃ c, g (ea a) = some (ec c) ∧ Q c
/-- a built-in's, of its arguments -/
def BnS {τ γ : Type} (g : List PV → Option PV) (RA : τ → List PV) (ec : Enc γ) (op : τ → W γ) : Prop := ∀ t Q X, op t Q X → ∃ c, g (RA t) = some (ec c) ∧ Q c
section
variable {α β γ δ τ : Type} {Γ Γ' : Ctx} {f fa fb fc : FE} {ta tb : FT} {ra : FA} {ea : Enc α} {eb : Enc β} {ec : Enc γ} {wa : W α} {wb : W β} {wc : W γ}
theorem sv_var {x : α} (i : Nat) (h : gt Γ i = some (.v (ea x))) : Sim (fVar i) Γ ea (W.ret x) := fun ρ m Q X q => by
  obtain ⟨e, h1, h2⟩ := m.gt h
  refine .inl ⟨x, ρ, ?_, m, q⟩
  cases h2
  unfold fVar
  rw [h1]
theorem sv_c {x : α} {p : PV} (h : p = ea x) : Sim (fC p) Γ ea (W.ret x) := fun ρ m => Ok1.pure m h
theorem se_bin {g : PV → PV → Option PV} {op : α → β → W γ} (h : OpS g ea eb ec op) (ha : Sim fa Γ ea wa) (hb : Sim fb Γ eb wb) : Sim (fBin g fa fb) Γ ec (W.bind wa fun a => W.bind wb fun b => op a b) :=
  fun ρ m => (ha ρ m).bnd fun a ρ1 m1 => (hb ρ1 m1).bnd fun b ρ2 m2 => Ok1.ofO m2 (h a b)
theorem se_un {g : PV → Option PV} {op : α → W γ} (h : UnS g ea ec op) (ha : Sim fa Γ ea wa) : Sim (fUn g fa) Γ ec (W.bind wa op) := fun ρ m => (ha ρ m).bnd fun a ρ1 m1 => Ok1.ofO m1 (h a)
theorem st_T {w : W Bool} (h : Sim f Γ eB w) : Sim (fT f) Γ id w := fun ρ m => (h ρ m).same (fun a ρ' e => by unfold fT; rw [e]; rfl) (fun x ρ' e => by unfold fT; rw [e]; rfl)
theorem se_and {w wa' : W Bool} (ha : Sim fa Γ eB w) (hb : Sim fb Γ eB wa') : Sim (fAnd fa fb) Γ eB (W.bind w fun a => if a = true then wa' else W.ret false) :=
  fun ρ m => (st_T ha ρ m).bnd fun a ρ1 m1 => by
    cases a with
    | true => exact hb ρ1 m1
    | false => exact Ok1.ret m1
theorem se_or {w wa' : W Bool} (ha : Sim fa Γ eB w) (hb : Sim fb Γ eB wa') : Sim (fOr fa fb) Γ eB (W.bind w fun a => if a = true then W.ret true else wa') :=
  fun ρ m => (st_T ha ρ m).bnd fun a ρ1 m1 => by
    cases a with
    | true => exact Ok1.ret m1
    | false => exact hb ρ1 m1
theorem se_not {w : W Bool} (ha : Sim fa Γ eB w) : Sim (fNot fa) Γ eB (W.bind w fun a => W.ret (!a)) := fun ρ m => (st_T ha ρ m).bnd fun a ρ1 m1 => Ok1.ret m1
theorem st_and {w w' : W Bool} (ha : Sim ta Γ (id : Bool → Bool) w) (hb : Sim tb Γ (id : Bool → Bool) w') : Sim (tAndF ta tb) Γ (id : Bool → Bool) (W.bind w fun a => if a = true then w' else W.ret false) :=
  fun ρ m => (ha ρ m).bnd fun a ρ1 m1 => by
    cases a with
    | true => exact hb ρ1 m1
    | false => exact Ok1.pure m1 rfl
theorem st_or {w w' : W Bool} (ha : Sim ta Γ (id : Bool → Bool) w) (hb : Sim tb Γ (id : Bool → Bool) w') : Sim (tOrF ta tb) Γ (id : Bool → Bool) (W.bind w fun a => if a = true then W.ret true else w') :=
  fun ρ m => (ha ρ m).bnd fun a ρ1 m1 => by
    cases a with
    | true => exact Ok1.pure m1 rfl
    | false => exact hb ρ1 m1
theorem st_not {w : W Bool} (ha : Sim ta Γ (id : Bool → Bool) w) : Sim (tNotF ta) Γ (id : Bool → Bool) (W.bind w fun a => W.ret (!a)) := fun ρ m => (ha ρ m).bnd fun a ρ1 m1 => Ok1.pure m1 rfl
theorem st_yes : Sim fYes Γ (id : Bool → Bool) (W.ret true) := fun ρ m => Ok1.pure m rfl
theorem se_chain {g g' : PV → PV → Option PV} {op : α → β → W Bool} {op' : β → γ → W Bool} (h : OpS g ea eb eB op) (h' : OpS g' eb ec eB op') (ha : Sim fa Γ ea wa) (hb : Sim fb Γ eb wb) (hc : Sim fc Γ ec wc) :
    Sim (fChain g g' fa fb fc) Γ eB (W.bind wa fun a => W.bind wb fun b => W.bind (op a b) fun k => if k = true then W.bind wc fun c => op' b c else W.ret false) :=
  fun ρ m => (ha ρ m).bnd fun a ρ1 m1 => (hb ρ1 m1).bnd fun b ρ2 m2 => Ok1.bnd (R := (id : Bool → Bool)) (Ok1.ofO m2 fun Q X q => by
    obtain ⟨c, e, q⟩ := h a b Q X q
    exact ⟨c, by dsimp only; rw [e]; rfl, q⟩) fun k ρ3 m3 => by
    cases k with
    | true => exact (hc ρ3 m3).bnd fun c ρ4 m4 => Ok1.ofO m4 (h' b c)
    | false => exact Ok1.ret m3
theorem sa_nil : Sim fNil Γ (fun _ : Unit => []) (W.ret ()) := fun ρ m => Ok1.pure m rfl
theorem sa_cons {R : τ → List PV} {wr : W τ} (ha : Sim fa Γ ea wa) (hr : Sim ra Γ R wr) : Sim (fCons fa ra) Γ (fun p : α × τ => ea p.1 :: R p.2) (W.bind wa fun a => W.bind wr fun b => W.ret (a, b)) :=
  fun ρ m => (ha ρ m).bnd fun a ρ1 m1 => (hr ρ1 m1).bnd fun b ρ2 m2 => Ok1.pure m2 rfl
theorem sl_nil : Sim fNil Γ (List.map ea) (W.ret []) := fun ρ m => Ok1.pure m rfl
theorem sl_cons {wr : W (List α)} (ha : Sim fa Γ ea wa) (hr : Sim ra Γ (List.map ea) wr) : Sim (fCons fa ra) Γ (List.map ea) (W.bind wa fun a => W.bind wr fun as => W.ret (a :: as)) :=
  fun ρ m => (ha ρ m).bnd fun a ρ1 m1 => (hr ρ1 m1).bnd fun b ρ2 m2 => Ok1.pure m2 rfl
theorem se_lst {wr : W (List α)} (hr : Sim ra Γ (List.map ea) wr) : Sim (fLst ra) Γ (eL ea) (W.bind wr fun as => W.req (as.length ≤ 1000) as) :=
  fun ρ m => (hr ρ m).bnd fun as ρ1 m1 => Ok1.req m1 fun h => by dsimp only; rw [if_pos (by rw [List.length_map]; exact h)]; rfl
theorem se_tup1 (ha : Sim fa Γ ea wa) : Sim (fTup (fCons fa fNil)) Γ (eP1 ea) wa := fun ρ m => (ha ρ m).same (fun a ρ' e => by unfold fTup fCons fNil; rw [e]; rfl) (fun x ρ' e => by unfold fTup fCons fNil; rw [e]; rfl)
theorem tup_go {R : τ → List PV} {wr : W τ} {n : Nat} {o : τ → γ} (hn : n ≤ 1000) (hr : Sim ra Γ R wr) (hl : ∀ t, (R t).length = n) (ho : ∀ t, PV.tup (R t) = ec (o t)) : Sim (fTup ra) Γ ec (W.bind wr fun t => W.ret (o t)) :=
  fun ρ m => (hr ρ m).bnd fun t ρ1 m1 => by
    dsimp only
    rw [if_pos (by rw [hl]; exact hn)]
    exact Ok1.pure m1 (ho t)
theorem se_tup2 (ha : Sim fa Γ ea wa) (hb : Sim fb Γ eb wb) : Sim (fTup (fCons fa (fCons fb fNil))) Γ (eP2 ea eb) (W.bind wa fun a => W.bind wb fun b => W.ret (a, b)) :=
  tup_go (n := 2) (o := fun t => (t.1, t.2.1)) (by decide) (sa_cons ha (sa_cons hb sa_nil)) (fun _ => rfl) (fun _ => rfl)
theorem se_b {g : List PV → Option PV} {RA : τ → List PV} {op : τ → W γ} {wr : W τ} (h : BnS g RA ec op) (hr : Sim ra Γ RA wr) : Sim (fB g ra) Γ ec (W.bind wr op) := fun ρ m => (hr ρ m).bnd fun t ρ1 m1 => Ok1.ofO m1 (h t)
theorem se_b1 {g : List PV → Option PV} {op : α → W γ} (h : BnS g (fun a => [ea a]) ec op) (ha : Sim fa Γ ea wa) : Sim (fB g (fCons fa fNil)) Γ ec (W.bind wa op) :=
  se_b (RA := fun p : α × Unit => [ea p.1]) (op := fun t => op t.1) (wr := W.bind wa fun a => W.ret (a, ())) (fun t => h t.1) (sa_cons ha sa_nil)
theorem ownP_o {ρ : Env} {i : Nat} {p : PV} (m : Mt Γ ρ) (h : gt Γ i = some (.o p) ∨ gt Γ i = some (.i p)) : ownP i ρ = some p := by
  unfold ownP
  rcases h with h | h <;> (obtain ⟨e, h1, h2⟩ := m.gt h; cases h2; rw [h1])
theorem atI_map {xs : List α} {k : Int} {z : α} (h : atI xs k = some z) : atI (xs.map ea) k = some (ea z) := by
  unfold atI at h ⊢
  rw [List.length_map]
  cases hx : ixN xs.length k with
  | none => rw [hx] at h; cases h
  | some j =>
    rw [hx] at h
    show (xs.map ea)[j]? = _
    rw [List.getElem?_map, show xs[j]? = some z from h]
    rfl
theorem fIxO_on {ρ : Env} {ps : List PV} {i : Nat} (o : ownP i ρ = some (.lst ps)) : fIxO' i f ρ = (f ρ).bind fun z => ofO ((ownP i z.2).bind fun p => pIdx p z.1) z.2 := by
  have : ownL i ρ = true := by unfold ownL; rw [o]
  unfold fIxO' fIxO
  rw [if_pos this]
theorem se_ixO {xs : List α} (i : Nat) {w : W Int} (h : gt Γ i = some (.o (eL ea xs)) ∨ gt Γ i = some (.i (eL ea xs))) (hk : Sim f Γ eI w) : Sim (fIxO' i f) Γ ea (W.bind w fun k => W.opt (atI xs k)) := fun ρ m => by
  rw [fIxO_on (ownP_o m h)]
  exact (hk ρ m).bnd fun k ρ1 m1 => Ok1.ofO m1 fun Q X ⟨z, ez, q⟩ => ⟨z, by
    dsimp only
    rw [ownP_o m1 h]
    exact atI_map ez, q⟩
def cut {α : Type} (xs : List α) (lo hi : Option Int) : List α := (xs.drop (HT.sIx xs.length 0 lo)).take (HT.sIx xs.length xs.length hi - HT.sIx xs.length 0 lo)
theorem so_no : Sim fNo Γ (id : Option Int → Option Int) (W.ret none) := fun ρ m => Ok1.pure m rfl
theorem so_so {w : W Int} (h : Sim f Γ eI w) : Sim (fSo f) Γ (id : Option Int → Option Int) (W.bind w fun k => W.ret (some k)) := fun ρ m => (h ρ m).bnd fun a ρ1 m1 => Ok1.ofO m1 fun Q X q => ⟨some a, rfl, q⟩
abbrev SimI {α : Type} (f : FA) (Γ : Ctx) (ea : Enc α) (w : W (List α)) : Prop := Sim f Γ (List.map ea) w
theorem si_seqL {wl : W (List α)} (h : Sim f Γ (eL ea) wl) : SimI (fSeq f) Γ ea wl := fun ρ m => (h ρ m).same (fun a ρ' e => by unfold fSeq; rw [e]; rfl) (fun x ρ' e => by unfold fSeq; rw [e]; rfl)
theorem si_seqT {wl : W (List α)} (h : Sim f Γ (eT ea) wl) : SimI (fSeq f) Γ ea wl := fun ρ m => (h ρ m).same (fun a ρ' e => by unfold fSeq; rw [e]; rfl) (fun x ρ' e => by unfold fSeq; rw [e]; rfl)
theorem si_seqA {wl : W PV} (h : Sim f Γ eA wl) : SimI (fSeq f) Γ eA (W.bind wl fun p => W.opt (seqP p)) := fun ρ m => (h ρ m).bnd fun p ρ1 m1 => Ok1.ofO m1 fun Q X ⟨a, e, q⟩ => ⟨a, by show seqP p = _; rw [e]; show _ = some (a.map eA); rw [show (eA : PV → PV) = id from rfl, List.map_id], q⟩
/-- range -/
def rng (lo hi : Int) : List Int := (List.range (hi - lo).toNat).map fun (i : Nat) => lo + (i : Int)
theorem rngP_eq (lo hi : Int) : rngP lo hi = (rng lo hi).map eI := by
  unfold rngP rng
  rw [List.map_map]
  rfl
def W.rng1 (j : Int) : W (List Int) := W.req (-1000000 ≤ j ∧ j ≤ 1000000) (rng 0 j)
def W.rng2 (i j : Int) : W (List Int) := W.req (-1000000 ≤ i ∧ i ≤ 1000000 ∧ -1000000 ≤ j ∧ j ≤ 1000000) (rng i j)
theorem rng1P_ok {j : Int} (h : -1000000 ≤ j ∧ j ≤ 1000000) : rng1P (.int j) = some ((rng 0 j).map eI) := by
  unfold rng1P
  dsimp only
  rw [decide_eq_true h.1, decide_eq_true h.2, rngP_eq]
  rfl
theorem rng2P_ok {i j : Int} (h : -1000000 ≤ i ∧ i ≤ 1000000 ∧ -1000000 ≤ j ∧ j ≤ 1000000) : rng2P (.int i) (.int j) = some ((rng i j).map eI) := by
  unfold rng2P
  dsimp only
  rw [decide_eq_true h.1, decide_eq_true h.2.1, decide_eq_true h.2.2.1, decide_eq_true h.2.2.2, rngP_eq]
  rfl
theorem si_rng1 {w : W Int} (h : Sim f Γ eI w) : SimI (fRng1 f) Γ eI (W.bind w W.rng1) := fun ρ m => (h ρ m).bnd fun j ρ1 m1 => Ok1.ofO m1 fun Q X q => ⟨_, rng1P_ok q.1, q.2⟩
theorem si_rng2 {w w' : W Int} (h : Sim fa Γ eI w) (h' : Sim fb Γ eI w') : SimI (fRng2 fa fb) Γ eI (W.bind w fun i => W.bind w' fun j => W.rng2 i j) := fun ρ m => (h ρ m).bnd fun i ρ1 m1 => (h' ρ1 m1).bnd fun j ρ2 m2 => Ok1.ofO m2 fun Q X q => ⟨_, rng2P_ok q.1, q.2⟩
def enumFrom {α : Type} : Int → List α → List (Int × α)
  | _, [] => []
  | n, x :: xs => (n, x) :: enumFrom (n + 1) xs
theorem numF_eq : ∀ (n : Nat) (xs : List α), numF n (xs.map ea) = (enumFrom (n : Int) xs).map (eP2 eI ea)
  | _, [] => rfl
  | n, x :: xs => by
    show _ :: numF (n + 1) (xs.map ea) = _ :: (enumFrom ((n : Int) + 1) xs).map _
    rw [numF_eq (n + 1) xs]
    rfl
theorem si_enum {p : List α → PV} {wl : W (List α)} (hp : ∀ xs, seqP (p xs) = some (xs.map ea)) (h : Sim f Γ p wl) : SimI (fEnum f) Γ (eP2 eI ea) (W.bind wl fun xs => W.ret (enumFrom 0 xs)) :=
  fun ρ m => (h ρ m).bnd fun xs ρ1 m1 => Ok1.ofO m1 fun Q X q => ⟨_, by show (seqP (p xs)).map (numF 0) = _; rw [hp]; exact congrArg some (numF_eq 0 xs), q⟩
theorem zipP_eq : ∀ (xs : List α) (ys : List β), zipP (xs.map ea) (ys.map eb) = (xs.zip ys).map (eP2 ea eb)
  | [], _ => rfl
  | _ :: _, [] => rfl
  | x :: xs, y :: ys => by
    show PV.tup [ea x, eb y] :: zipP (xs.map ea) (ys.map eb) = _
    rw [zipP_eq xs ys]
    rfl
end
end Ev
namespace Ev
open PySem PySem.Spec PyProof.Rows L2
theorem outsZ (ρ : Env) : outs 0 ρ = [] := rfl
theorem outsC (n : Nat) (e : EV) (ρ : Env) : outs (n + 1) (e :: ρ) = outE (some e) :: outs n ρ := by
  unfold outs
  rw [List.range_succ_eq_map, List.map_cons, List.map_map]
  rfl
theorem mt_iff : ∀ {Γ : Ctx} {ρ : Env}, Mt Γ ρ ↔ ρ.length = Γ.length ∧ ∀ (i : Nat) (c : SC), gt Γ i = some c → ∃ e, ρ[i]? = some e ∧ Sl c e
  | [], ρ => by
    refine ⟨fun m => ?_, fun h => ?_⟩
    · cases m; exact ⟨rfl, fun i c h => by cases h⟩
    · exact List.eq_nil_of_length_eq_zero h.1
  | c :: Γ, [] => by
    refine ⟨fun m => ?_, fun h => ?_⟩
    · obtain ⟨e, r, z, _⟩ := m; cases z
    · have := h.1; cases this
  | c :: Γ, e :: ρ => by
    refine ⟨fun m => ⟨m.len, fun i c h => m.gt h⟩, fun z => ?_⟩
    obtain ⟨h1, h2⟩ := z
    obtain ⟨f, z1, z2⟩ := h2 0 c rfl
    refine ⟨e, ρ, rfl, by cases z1; exact z2, mt_iff.mpr ⟨by simpa using h1, fun i c h => ?_⟩⟩
    obtain ⟨f, z1, z2⟩ := h2 (i + 1) c h
    exact ⟨f, by simpa using z1, z2⟩
theorem gt_len : ∀ {Γ : Ctx} {i : Nat} {c : SC}, gt Γ i = some c → i < Γ.length
  | [], _, _, h => by cases h
  | _ :: _, 0, _, _ => Nat.succ_pos _
  | _ :: Γ, n + 1, _, h => Nat.succ_lt_succ (gt_len (i := n) h)
theorem gt_pt_ne : ∀ {Γ : Ctx} {i j : Nat} {c : SC}, i ≠ j → gt (pt i c Γ) j = gt Γ j
  | [], _, _, _, _ => rfl
  | _ :: _, 0, 0, _, h => absurd rfl h
  | _ :: _, 0, _ + 1, _, _ => rfl
  | _ :: _, _ + 1, 0, _, _ => rfl
  | _ :: Γ, n + 1, m + 1, _, h => gt_pt_ne (Γ := Γ) (i := n) (j := m) (fun e => h (congrArg Nat.succ e))
theorem pt_len : ∀ {Γ : Ctx} {i : Nat} {c : SC}, (pt i c Γ).length = Γ.length
  | [], _, _ => rfl
  | _ :: _, 0, _ => rfl
  | _ :: Γ, n + 1, _ => congrArg Nat.succ (pt_len (Γ := Γ) (i := n))
def plainSC : Option SC → Prop
  | some (.v _) => True
  | some .jk => True
  | _ => False
def plainC : List Nat → Ctx → Prop
  | [], _ => True
  | v :: vs, Γ => plainSC (gt Γ v) ∧ plainC vs Γ
def wipeC : List Nat → Ctx → Ctx
  | [], Γ => Γ
  | v :: vs, Γ => pt v .jk (wipeC vs Γ)
theorem plainAt_of {ρ : Env} {Γ : Ctx} (m : Mt Γ ρ) : ∀ {vs : List Nat}, plainC vs Γ → plainAt vs ρ = true
  | [], _ => rfl
  | v :: vs, ⟨h, t⟩ => by
    have ih : plainAt vs ρ = true := plainAt_of m t
    unfold plainAt at ih ⊢
    rw [List.all_cons, Bool.and_eq_true]
    refine ⟨?_, ih⟩
    cases hc : gt Γ v with
    | none => rw [hc] at h; exact h.elim
    | some c =>
      rw [hc] at h
      obtain ⟨e, h1, h2⟩ := m.gt hc
      rw [h1]
      cases c <;> first | exact h.elim | skip
      · cases h2; rfl
      · rcases h2 with rfl | ⟨p, rfl⟩ <;> rfl
theorem wipe_len : ∀ {vs : List Nat} {Γ : Ctx}, (wipeC vs Γ).length = Γ.length
  | [], _ => rfl
  | _ :: vs, Γ => pt_len.trans (wipe_len (vs := vs))
theorem wipe_mt {ρ : Env} {Γ : Ctx} (m : Mt Γ ρ) : ∀ {vs : List Nat}, Mt (wipeC vs Γ) (wipeE vs ρ)
  | [] => m
  | v :: vs => Mt.pt (wipe_mt m (vs := vs)) (.inl rfl)
theorem wipe_out {Γ : Ctx} {i : Nat} : ∀ {vs : List Nat}, i ∉ vs → gt (wipeC vs Γ) i = gt Γ i
  | [], _ => rfl
  | v :: vs, h => (gt_pt_ne fun e => h (by rw [e]; exact List.mem_cons_self)).trans (wipe_out fun z => h (List.mem_cons_of_mem _ z))
theorem wipeO_mt {vs : List Nat} {ρ : Env} {Γ : Ctx} (m : Mt Γ ρ) (h : plainC vs Γ) : ∃ ρ', wipeO vs ρ = some ρ' ∧ Mt (wipeC vs Γ) ρ' := by
  refine ⟨_, ?_, wipe_mt m⟩
  unfold wipeO
  rw [if_pos (plainAt_of m h)]
theorem rest_out {ρ ρ' : Env} {i : Nat} : ∀ {vs : List Nat}, i ∉ vs → (restE ρ vs ρ')[i]? = ρ'[i]?
  | [], _ => rfl
  | v :: vs, h => by
    unfold restE
    rw [List.getElem?_set_ne (fun e => h (by rw [← e]; exact List.mem_cons_self))]
    exact rest_out fun z => h (List.mem_cons_of_mem _ z)
theorem rest_in {ρ ρ' : Env} {i : Nat} (hi : i < ρ'.length) : ∀ {vs : List Nat}, i ∈ vs → (restE ρ vs ρ')[i]? = some (ρ[i]?.getD .no)
  | v :: vs, h => by
    unfold restE
    by_cases e : v = i
    · subst e
      rw [List.getElem?_set_self (by rw [restE_len]; exact hi)]
    · rw [List.getElem?_set_ne e]
      exact rest_in hi ((List.mem_cons.mp h).resolve_left fun z => e z.symm)
theorem rest_mt {Γ : Ctx} {ρ ρ' : Env} {vs : List Nat} (m : Mt Γ ρ) (m' : Mt (wipeC vs Γ) ρ') : Mt Γ (restE ρ vs ρ') := by
  have l' : ρ'.length = Γ.length := m'.len.trans wipe_len
  refine mt_iff.mpr ⟨by rw [restE_len]; exact l', fun i c h => ?_⟩
  by_cases hi : i ∈ vs
  · obtain ⟨e, h1, h2⟩ := m.gt h
    refine ⟨e, ?_, h2⟩
    rw [rest_in (by rw [l']; exact gt_len h) hi, h1]
    rfl
  · obtain ⟨e, h1, h2⟩ := m'.gt ((wipe_out hi).trans h)
    exact ⟨e, by rw [rest_out hi]; exact h1, h2⟩
def AsgC {α : Type} (t : Tg1) (ei : Enc α) (Γ : Ctx) (Γb : α → Ctx) : Prop := ∀ x ρ, Mt Γ ρ → ∃ ρ', asg t (ei x) ρ = some ρ' ∧ Mt (Γb x) ρ'
section
variable {α β γ δ τ : Type} {Γ Γ' : Ctx} {f fa fb fc : FE} {ta tb : FT} {ra : FA} {ea : Enc α} {eb : Enc β} {ec : Enc γ} {wa : W α} {wb : W β} {wc : W γ}
theorem ag_nm (i : Nat) {c : SC} (h : gt Γ i = some c) (hc : canSet c) : AsgC (.nm i) ea Γ (fun x => pt i (.v (ea x)) Γ) := fun x ρ m => m.setE h hc rfl
theorem ag_tp2 {t1 t2 : Tg1} {Γ1 : α → Ctx} {Γ2 : α → β → Ctx} (h1 : AsgC t1 ea Γ Γ1) (h2 : ∀ x, AsgC t2 eb (Γ1 x) (Γ2 x)) : AsgC (.tp [t1, t2]) (eP2 ea eb) Γ (fun x => Γ2 x.1 x.2) := fun x ρ m => by
  obtain ⟨ρ1, e1, m1⟩ := h1 x.1 ρ m
  obtain ⟨ρ2, e2, m2⟩ := h2 x.1 x.2 ρ1 m1
  refine ⟨ρ2, ?_, m2⟩
  show (asg t1 (ea x.1) ρ).bind (fun ρ1 => (asg t2 (eb x.2) ρ1).bind fun ρ2 => some ρ2) = _
  rw [e1]
  show (asg t2 (eb x.2) ρ1).bind _ = _
  rw [e2]
  rfl
theorem lc_go {vs : List Nat} {t : Tg1} {c : FT} {Γb : α → Ctx} {wc : α → W Bool} {wf : α → W β} (hasg : AsgC t ea Γ Γb) (hp : ∀ x, plainC vs (Γb x)) (hw : ∀ x, wipeC vs (Γb x) = Γ) (hc : ∀ x, Sim c (Γb x) (id : Bool → Bool) (wc x)) (hf : ∀ x, Sim f (Γb x) eb (wf x)) :
    ∀ (xs : List α) (acc : List β) (ρ : Env), Mt Γ ρ → ∀ (Q : List β → Prop) (X : PErr → Prop), W.lc wc wf xs Q X → ∃ ys ρ', lcL vs t c f (xs.map ea) ρ (acc.map eb) = .ok ((acc ++ ys).map eb, ρ') ∧ Mt Γ ρ' ∧ Q ys
  | [], acc, ρ, m, Q, X, q => ⟨[], ρ, by rw [List.append_nil]; rfl, m, q⟩
  | x :: xs, acc, ρ, m, Q, X, q => by
    obtain ⟨ρ1, e1, m1⟩ := hasg x ρ m
    rw [List.map_cons]
    unfold lcL
    rw [e1]
    dsimp only
    rcases hc x ρ1 m1 _ _ q with ⟨b, ρ2, e2, m2, q2⟩ | ⟨_, _, _, _, q2⟩
    · rw [e2]
      dsimp only [noErr, Res.bind]
      cases b with
      | true =>
        rw [if_pos (show (id true) = true from rfl)]
        rw [if_pos rfl] at q2
        rcases hf x ρ2 m2 _ _ q2 with ⟨y, ρ3, e3, m3, q3⟩ | ⟨_, _, _, _, q3⟩
        · rw [e3]
          dsimp only [noErr, Res.bind]
          obtain ⟨ρ4, e4, m4⟩ := wipeO_mt m3 (hp x)
          rw [e4]
          rw [hw] at m4
          obtain ⟨ys, ρ5, e5, m5, q5⟩ := lc_go hasg hp hw hc hf xs (acc ++ [y]) ρ4 m4 _ X q3
          refine ⟨y :: ys, ρ5, ?_, m5, q5⟩
          dsimp only
          rw [List.map_append, List.map_cons, List.map_nil] at e5
          rw [e5, List.append_assoc]
          rfl
        · exact q3.elim
      | false =>
        rw [if_neg (show ¬ (id false) = true from Bool.false_ne_true)]
        rw [if_neg Bool.false_ne_true] at q2
        obtain ⟨ρ4, e4, m4⟩ := wipeO_mt m2 (hp x)
        rw [e4]
        rw [hw] at m4
        exact lc_go hasg hp hw hc hf xs acc ρ4 m4 Q X q2
    · exact q2.elim
theorem se_lc {fi : FA} {vs : List Nat} {t : Tg1} {c : FT} {Γb : α → Ctx} {wi : W (List α)} {wc : α → W Bool} {wf : α → W β} (hi : SimI fi Γ ea wi) (h0 : plainC vs Γ) (hasg : AsgC t ea (wipeC vs Γ) Γb) (hp : ∀ x, plainC vs (Γb x)) (hw : ∀ x, wipeC vs (Γb x) = wipeC vs Γ)
    (hc : ∀ x, Sim c (Γb x) (id : Bool → Bool) (wc x)) (hf : ∀ x, Sim f (Γb x) eb (wf x)) : Sim (fLc fi vs t c f) Γ (eL eb) (W.bind wi fun xs => W.lc wc wf xs) := fun ρ m => (hi ρ m).bnd fun xs ρ1 m1 Q X q => by
  obtain ⟨ρ2, e2, m2⟩ := wipeO_mt m1 h0
  dsimp only
  rw [e2]
  obtain ⟨ys, ρ3, e3, m3, q3⟩ := lc_go hasg hp hw hc hf xs [] ρ2 m2 Q X q
  rw [List.map_nil] at e3
  dsimp only
  rw [e3]
  exact .inl ⟨ys, _, rfl, rest_mt m1 m3, q3⟩
theorem lc2_go {vs vs1 : List Nat} {t t1 : Tg1} {c c1 : FT} {fi1 : FA} {Γb : α → Ctx} {Γb1 : α → β → Ctx} {wc : α → W Bool} {wg : α → W (List β)} {wc1 : α → β → W Bool} {wf : α → β → W γ} (hasg : AsgC t ea Γ Γb) (hp : ∀ x, plainC vs (Γb x)) (hw : ∀ x, wipeC vs (Γb x) = Γ) (hc : ∀ x, Sim c (Γb x) (id : Bool → Bool) (wc x)) (hg : ∀ x, SimI fi1 (Γb x) eb (wg x))
    (hp0 : ∀ x, plainC vs1 (Γb x)) (hasg1 : ∀ x, AsgC t1 eb (wipeC vs1 (Γb x)) (Γb1 x)) (hp1 : ∀ x y, plainC vs1 (Γb1 x y)) (hw1 : ∀ x y, wipeC vs1 (Γb1 x y) = wipeC vs1 (Γb x)) (hpe : ∀ x, plainC vs (wipeC vs1 (Γb x))) (hwe : ∀ x, wipeC vs (wipeC vs1 (Γb x)) = Γ)
    (hc1 : ∀ x y, Sim c1 (Γb1 x y) (id : Bool → Bool) (wc1 x y)) (hf : ∀ x y, Sim f (Γb1 x y) ec (wf x y)) :
    ∀ (xs : List α) (acc : List γ) (ρ : Env), Mt Γ ρ → ∀ (Q : List γ → Prop) (X : PErr → Prop), W.lc2 wc wg wc1 wf xs Q X → ∃ ys ρ', lcL2 vs t c fi1 vs1 t1 c1 f (xs.map ea) ρ (acc.map ec) = .ok ((acc ++ ys).map ec, ρ') ∧ Mt Γ ρ' ∧ Q ys
  | [], acc, ρ, m, Q, X, q => ⟨[], ρ, by rw [List.append_nil]; rfl, m, q⟩
  | x :: xs, acc, ρ, m, Q, X, q => by
    obtain ⟨ρ1, e1, m1⟩ := hasg x ρ m
    rw [List.map_cons]
    unfold lcL2
    rw [e1]
    dsimp only
    rcases hc x ρ1 m1 _ _ q with ⟨b, ρ2, e2, m2, q2⟩ | ⟨_, _, _, _, q2⟩
    · rw [e2]
      dsimp only [noErr, Res.bind]
      cases b with
      | true =>
        rw [if_pos (show (id true) = true from rfl)]
        rw [if_pos rfl] at q2
        rcases hg x ρ2 m2 _ _ q2 with ⟨ys, ρ3, e3, m3, q3⟩ | ⟨_, _, _, _, q3⟩
        · rw [e3]
          dsimp only [noErr, Res.bind]
          obtain ⟨ρ4, e4, m4⟩ := wipeO_mt m3 (hp0 x)
          rw [e4]
          dsimp only
          obtain ⟨zs, ρ5, e5, m5, q5⟩ := lc_go (hasg1 x) (hp1 x) (hw1 x) (hc1 x) (hf x) ys acc ρ4 m4 _ X q3
          rw [e5]
          dsimp only
          obtain ⟨ρ6, e6, m6⟩ := wipeO_mt m5 (hpe x)
          rw [e6]
          rw [hwe] at m6
          dsimp only
          obtain ⟨rs, ρ7, e7, m7, q7⟩ := lc2_go hasg hp hw hc hg hp0 hasg1 hp1 hw1 hpe hwe hc1 hf xs (acc ++ zs) ρ6 m6 _ X q5
          exact ⟨zs ++ rs, ρ7, by rw [e7, List.append_assoc], m7, q7⟩
        · exact q3.elim
      | false =>
        rw [if_neg (show ¬ (id false) = true from Bool.false_ne_true)]
        rw [if_neg Bool.false_ne_true] at q2
        obtain ⟨ρ4, e4, m4⟩ := wipeO_mt m2 (hp x)
        rw [e4]
        rw [hw] at m4
        exact lc2_go hasg hp hw hc hg hp0 hasg1 hp1 hw1 hpe hwe hc1 hf xs acc ρ4 m4 Q X q2
    · exact q2.elim
theorem se_lc2 {fi fi1 : FA} {vs vs1 : List Nat} {t t1 : Tg1} {c c1 : FT} {Γb : α → Ctx} {Γb1 : α → β → Ctx} {wi : W (List α)} {wc : α → W Bool} {wg : α → W (List β)} {wc1 : α → β → W Bool} {wf : α → β → W γ} (hi : SimI fi Γ ea wi) (h0 : plainC vs Γ) (hasg : AsgC t ea (wipeC vs Γ) Γb) (hp : ∀ x, plainC vs (Γb x)) (hw : ∀ x, wipeC vs (Γb x) = wipeC vs Γ)
    (hc : ∀ x, Sim c (Γb x) (id : Bool → Bool) (wc x)) (hg : ∀ x, SimI fi1 (Γb x) eb (wg x)) (hp0 : ∀ x, plainC vs1 (Γb x)) (hasg1 : ∀ x, AsgC t1 eb (wipeC vs1 (Γb x)) (Γb1 x)) (hp1 : ∀ x y, plainC vs1 (Γb1 x y)) (hw1 : ∀ x y, wipeC vs1 (Γb1 x y) = wipeC vs1 (Γb x)) (hpe : ∀ x, plainC vs (wipeC vs1 (Γb x))) (hwe : ∀ x, wipeC vs (wipeC vs1 (Γb x)) = wipeC vs Γ)
    (hc1 : ∀ x y, Sim c1 (Γb1 x y) (id : Bool → Bool) (wc1 x y)) (hf : ∀ x y, Sim f (Γb1 x y) ec (wf x y)) : Sim (fLc2 fi vs t c fi1 vs1 t1 c1 f) Γ (eL ec) (W.bind wi fun xs => W.bind (W.no (W.lc2 wc wg wc1 wf xs)) fun r => W.req (r.length ≤ 1000000) r) := fun ρ m => (hi ρ m).bnd fun xs ρ1 m1 Q X q => by
  obtain ⟨ρ2, e2, m2⟩ := wipeO_mt m1 h0
  dsimp only
  rw [e2]
  obtain ⟨ys, ρ3, e3, m3, q3⟩ := lc2_go hasg hp hw hc hg hp0 hasg1 hp1 hw1 hpe hwe hc1 hf xs [] ρ2 m2 _ _ q
  rw [List.map_nil] at e3
  dsimp only
  rw [e3]
  dsimp only [noErr, Res.bind]
  have hl : ((([] : List γ) ++ ys).map ec).length ≤ sizeLine := by
    rw [List.length_map]
    exact Nat.le_trans q3.1 (by decide)
  rw [if_pos hl]
  exact .inl ⟨ys, _, rfl, rest_mt m1 m3, q3.2⟩
def sealSC : SC → SC
  | .v p => .v p
  | .o p => .v p
  | .i p => .v p
  | .top => .top
  | _ => .jk
def sealC : Ctx → Ctx
  | [] => []
  | c :: Γ => sealSC c :: sealC Γ
theorem seal_sl {c : SC} {e : EV} (h : Sl c e) : Sl (sealSC c) (sealV e) := by
  cases c with
  | v p => cases h; rfl
  | o p => cases h; rfl
  | i p => cases h; rfl
  | pool => obtain ⟨p, rfl, _⟩ := h; exact .inr ⟨p, rfl⟩
  | opool => obtain ⟨p, rfl, _⟩ := h; exact .inr ⟨p, rfl⟩
  | jk => rcases h with rfl | ⟨p, rfl⟩
          · exact .inl rfl
          · exact .inr ⟨p, rfl⟩
  | any => cases e with
    | no => exact .inl rfl
    | fr p => exact .inr ⟨p, rfl⟩
    | ow p => exact .inr ⟨p, rfl⟩
    | io p => exact absurd rfl (h p)
  | top => trivial
theorem seal_mt : ∀ {Γ : Ctx} {ρ : Env}, Mt Γ ρ → Mt (sealC Γ) (sealE ρ)
  | [], _, m => by cases m; rfl
  | _ :: _, _, ⟨e, r, z, s, m⟩ => by subst z; exact ⟨_, _, rfl, seal_sl s, seal_mt m⟩
theorem se_thawL {wl : W (List α)} (h : Sim f (sealC Γ) (eL ea) wl) (hs : ∀ a, scalP (ea a) = true) : Sim (fThawL f) Γ (eL ea) (W.no wl) := fun ρ m Q X q => by
  rcases h _ (seal_mt m) _ _ q with ⟨a, ρ', e, m', q'⟩ | ⟨_, _, _, _, q'⟩
  · refine .inl ⟨a, ρ, ?_, m, q'⟩
    unfold fThawL
    rw [e]
    have : ∀ xs : List α, scalPs (xs.map ea) = true := fun xs => by
      induction xs with
      | nil => rfl
      | cons x xs ih => rw [List.map_cons]; unfold scalPs; rw [hs, ih]; rfl
    exact if_pos (this a)
  · exact q'.elim
def RelR {α : Type} (o : Bool) (e : Enc α) (a : α) (r : EV) : Prop := if o = true then r = .ow (e a) else frz r = some (e a)
theorem RelR.frz {o : Bool} {a : α} {r : EV} (h : RelR o ea a r) : Ev.frz r = some (ea a) := by
  cases o with
  | true => rw [show r = .ow (ea a) from h]; rfl
  | false => exact h
/-- a def as a typed function: its arguments, what stands in the arguments' slots behind it, its answer -/
def FnW {τ α : Type} (F : Fn) (A : τ → Ctx) (O : Ctx) (o : Bool) (e : Enc α) (f : τ → W α) : Prop := ∀ t ρ, Mt (A t) ρ → ∀ (Q : α → Prop) (X : PErr → Prop), f t Q X →
  (∃ a r ρ', F ρ = .ok (r, ρ') ∧ RelR o e a r ∧ Mt O ρ' ∧ Q a) ∨ ∃ x ρ', F ρ = .err x ρ' ∧ Mt O ρ' ∧ X x
theorem FnW.comp {τ τ' α : Type} {F : Fn} {A : τ → Ctx} {O : Ctx} {o : Bool} {e : Enc α} {f : τ → W α} (h : FnW F A O o e f) (g : τ' → τ) : FnW F (fun t => A (g t)) O o e (fun t => f (g t)) := fun t => h (g t)
def ArgC (Γ : Ctx) : List AV → Ctx → Prop
  | [], [] => True
  | .e p :: as, .v q :: A => p = q ∧ ArgC Γ as A
  | .r i :: as, .pool :: A => (gt Γ i = some .pool ∨ gt Γ i = some .opool) ∧ ArgC Γ as A
  | .r i :: as, .i q :: A => (gt Γ i = some (.i q) ∨ gt Γ i = some (.o q)) ∧ ArgC Γ as A
  | _, _ => False
theorem arg_ok {ρ : Env} (m : Mt Γ ρ) : ∀ {as : List AV} {A : Ctx}, ArgC Γ as A → ∃ ρa, argE1 ρ as = some ρa ∧ Mt A ρa
  | [], [], _ => ⟨[], rfl, rfl⟩
  | .e p :: as, .v q :: A, ⟨h, t⟩ => by
    obtain ⟨ρa, e, m'⟩ := arg_ok m t
    exact ⟨.fr p :: ρa, by unfold argE1; rw [e]; rfl, _, _, rfl, by rw [h]; rfl, m'⟩
  | .r i :: as, .pool :: A, ⟨h, t⟩ => by
    obtain ⟨ρa, e, m'⟩ := arg_ok m t
    rcases h with h | h
    · obtain ⟨_, h1, p, rfl, hp⟩ := m.gt h
      exact ⟨.io p :: ρa, by unfold argE1; rw [h1, e]; rfl, _, _, rfl, ⟨p, rfl, hp⟩, m'⟩
    · obtain ⟨_, h1, p, rfl, hp⟩ := m.gt h
      exact ⟨.io p :: ρa, by unfold argE1; rw [h1, e]; rfl, _, _, rfl, ⟨p, rfl, hp⟩, m'⟩
  | .r i :: as, .i q :: A, ⟨h, t⟩ => by
    obtain ⟨ρa, e, m'⟩ := arg_ok m t
    rcases h with h | h
    · obtain ⟨_, h1, h2⟩ := m.gt h
      cases h2
      exact ⟨.io q :: ρa, by unfold argE1; rw [h1, e]; rfl, _, _, rfl, rfl, m'⟩
    · obtain ⟨_, h1, h2⟩ := m.gt h
      cases h2
      exact ⟨.io q :: ρa, by unfold argE1; rw [h1, e]; rfl, _, _, rfl, rfl, m'⟩
  | .e _ :: _, .o _ :: _, h => h.elim
  | .e _ :: _, .i _ :: _, h => h.elim
  | .e _ :: _, .pool :: _, h => h.elim
  | .e _ :: _, .opool :: _, h => h.elim
  | .e _ :: _, .jk :: _, h => h.elim
  | .e _ :: _, .any :: _, h => h.elim
  | .e _ :: _, .top :: _, h => h.elim
  | .r _ :: _, .v _ :: _, h => h.elim
  | .r _ :: _, .o _ :: _, h => h.elim
  | .r _ :: _, .opool :: _, h => h.elim
  | .r _ :: _, .jk :: _, h => h.elim
  | .r _ :: _, .any :: _, h => h.elim
  | .r _ :: _, .top :: _, h => h.elim
  | [], _ :: _, h => h.elim
  | .e _ :: _, [], h => h.elim
  | .r _ :: _, [], h => h.elim
def BackC (Γ : Ctx) : List AV → Ctx → Prop
  | [], [] => True
  | .e _ :: as, _ :: O => BackC Γ as O
  | .r i :: as, .pool :: O => (gt Γ i = some .pool ∨ gt Γ i = some .opool) ∧ BackC Γ as O
  | _, _ => False
theorem putE_pool {ρ : Env} {i : Nat} {p : PV} (m : Mt Γ ρ) (h : gt Γ i = some .pool ∨ gt Γ i = some .opool) (hp : PoolP p) : ∃ ρ', putE i p ρ = some ρ' ∧ Mt Γ ρ' := by
  rcases h with h | h
  · obtain ⟨_, h1, q, rfl, _⟩ := m.gt h
    have := Mt.pt m (i := i) (c := .pool) (e := .io p) ⟨p, rfl, hp⟩
    rw [pt_id h] at this
    exact ⟨_, by unfold putE; rw [h1], this⟩
  · obtain ⟨_, h1, q, rfl, _⟩ := m.gt h
    have := Mt.pt m (i := i) (c := .opool) (e := .ow p) ⟨p, rfl, hp⟩
    rw [pt_id h] at this
    exact ⟨_, by unfold putE; rw [h1], this⟩
theorem back_ok : ∀ {as : List AV} {O : Ctx} {ρ ρb : Env}, BackC Γ as O → Mt Γ ρ → Mt O ρb → ∃ ρ', back as ρb ρ = some ρ' ∧ Mt Γ ρ'
  | [], [], ρ, _, _, m, mb => by cases mb; exact ⟨ρ, rfl, m⟩
  | .e _ :: as, _ :: O, ρ, _, h, m, ⟨e, r, z, _, mb⟩ => by
    subst z
    exact back_ok (as := as) h m mb
  | .r i :: as, .pool :: O, ρ, _, ⟨h, t⟩, m, ⟨e, r, z, s, mb⟩ => by
    subst z
    obtain ⟨p, rfl, hp⟩ := s
    obtain ⟨ρ1, e1, m1⟩ := putE_pool m h hp
    obtain ⟨ρ2, e2, m2⟩ := back_ok (as := as) t m1 mb
    exact ⟨ρ2, by show (putE i p ρ).bind _ = _; rw [e1]; exact e2, m2⟩
  | .r _ :: _, .v _ :: _, _, _, h, _, _ => h.elim
  | .r _ :: _, .o _ :: _, _, _, h, _, _ => h.elim
  | .r _ :: _, .i _ :: _, _, _, h, _, _ => h.elim
  | .r _ :: _, .opool :: _, _, _, h, _, _ => h.elim
  | .r _ :: _, .jk :: _, _, _, h, _, _ => h.elim
  | .r _ :: _, .any :: _, _, _, h, _, _ => h.elim
  | .r _ :: _, .top :: _, _, _, h, _, _ => h.elim
  | [], _ :: _, _, _, h, _, _ => h.elim
  | .e _ :: _, [], _, _, h, _, _ => h.elim
  | .r _ :: _, [], _, _, h, _, _ => h.elim
/-- what a call needs of its arguments -/
structure CallC (Γ : Ctx) (as : List AV) (A O : Ctx) : Prop where
  a : ArgC Γ as A
  b : BackC Γ as O
  n : (rfs as).Nodup
theorem callR_go {F : Fn} {A : τ → Ctx} {O : Ctx} {o : Bool} {h : τ → W α} {as : List AV} {t : τ} {ρ : Env} (hF : FnW F A O o ea h) (c : CallC Γ as (A t) O) (m : Mt Γ ρ) (Q : α → Prop) (X : PErr → Prop) (q : h t Q X) :
    (∃ a r ρ', callR F as ρ = .ok (r, ρ') ∧ RelR o ea a r ∧ Mt Γ ρ' ∧ Q a) ∨ ∃ x ρ', callR F as ρ = .err x ρ' ∧ Mt Γ ρ' ∧ X x := by
  obtain ⟨ρa, e1, ma⟩ := arg_ok m c.a
  have e2 : argE as ρ = some ρa := by unfold argE; rw [if_pos c.n, e1]
  rcases hF t ρa ma Q X q with ⟨a, r, ρb, e3, rr, mb, q'⟩ | ⟨x, ρb, e3, mb, q'⟩
  · obtain ⟨ρ', e4, m'⟩ := back_ok c.b m mb
    exact .inl ⟨a, r, ρ', by unfold callR; rw [e2]; dsimp only; rw [e3]; dsimp only; rw [e4], rr, m', q'⟩
  · obtain ⟨ρ', e4, m'⟩ := back_ok c.b m mb
    exact .inr ⟨x, ρ', by unfold callR; rw [e2]; dsimp only; rw [e3]; dsimp only; rw [e4], m', q'⟩
theorem callF_go {F : Fn} {A : τ → Ctx} {O : Ctx} {o : Bool} {h : τ → W α} {as : List AV} {t : τ} {ρ : Env} (hF : FnW F A O o ea h) (c : CallC Γ as (A t) O) (m : Mt Γ ρ) : Ok1 ((callR F as ρ).bind fun w => ofO (frz w.1) w.2) Γ ea (h t) := fun Q X q => by
  rcases callR_go hF c m Q X q with ⟨a, r, ρ', e, rr, m', q'⟩ | ⟨x, ρ', e, m', q'⟩
  · rw [e]
    exact .inl ⟨a, ρ', by show ofO (frz r) ρ' = _; rw [rr.frz]; rfl, m', q'⟩
  · rw [e]
    exact .inr ⟨x, ρ', rfl, m', q'⟩
theorem sr_nil : Sim aNil Γ (fun _ : Unit => []) (W.ret ()) := fun ρ m => Ok1.pure m rfl
theorem sr_cons {R : τ → List AV} {ra : FAs} {wr : W τ} (ha : Sim fa Γ ea wa) (hr : Sim ra Γ R wr) : Sim (aCons fa ra) Γ (fun p : α × τ => .e (ea p.1) :: R p.2) (W.bind wa fun a => W.bind wr fun b => W.ret (a, b)) :=
  fun ρ m => (ha ρ m).bnd fun a ρ1 m1 => (hr ρ1 m1).bnd fun b ρ2 m2 => Ok1.pure m2 rfl
/-- something is there to be handed over -/
def isRef : Option SC → Prop
  | some (.o _) => True
  | some (.i _) => True
  | some .pool => True
  | some .opool => True
  | _ => False
theorem sr_ref {R : τ → List AV} {ra : FAs} {wr : W τ} (i : Nat) (h : isRef (gt Γ i)) (hr : Sim ra Γ R wr) : Sim (aRef i ra) Γ (fun p => .r i :: R p) wr := fun ρ m Q X q => by
  have key : aRef i ra ρ = (ra ρ).bind fun w => .ok (.r i :: w.1, w.2) := by
    unfold aRef
    cases hc : gt Γ i with
    | none => rw [hc] at h; exact h.elim
    | some c =>
      rw [hc] at h
      obtain ⟨e, h1, h2⟩ := m.gt hc
      rw [h1]
      cases c <;> first | exact h.elim | skip
      · cases h2; rfl
      · cases h2; rfl
      · obtain ⟨p, rfl, _⟩ := h2; rfl
      · obtain ⟨p, rfl, _⟩ := h2; rfl
  rw [key]
  rcases hr ρ m Q X q with ⟨a, ρ', e, m', q'⟩ | ⟨x, ρ', e, m', q'⟩
  · exact .inl ⟨a, ρ', by rw [e]; rfl, m', q'⟩
  · exact .inr ⟨x, ρ', by rw [e]; rfl, m', q'⟩
theorem se_call {F : Fn} {A : τ → Ctx} {O : Ctx} {o : Bool} {h : τ → W α} {R : τ → List AV} {ra : FAs} {wr : W τ} (hF : FnW F A O o ea h) (hr : Sim ra Γ R wr) (c : ∀ t, CallC Γ (R t) (A t) O) : Sim (fCall F ra) Γ ea (W.bind wr h) :=
  fun ρ m => (hr ρ m).bnd fun t ρ1 m1 => callF_go hF (c t) m1
theorem se_callK {F : Fn} {A : τ → Ctx} {O : Ctx} {o : Bool} {h : τ → W α} {R : τ → List AV} {ra : FAs} {wr : W τ} {n : Nat} {ix : List Nat} (hF : FnW F A O o ea h) (hr : Sim ra Γ R wr) (c : ∀ t, CallC Γ (pick ix (R t)) (A t) O) (hn : ∀ t, (pick ix (R t)).length = n) : Sim (fCallK F n ix ra) Γ ea (W.bind wr h) :=
  fun ρ m => (hr ρ m).bnd fun t ρ1 m1 => by
    dsimp only
    rw [if_pos (hn t)]
    exact callF_go hF (c t) m1
theorem se_meth {c m : Str} {F : Fn} {A : α × τ → Ctx} {O : Ctx} {o : Bool} {h : α × τ → W β} {R : τ → List AV} {ra : FAs} {wr : W τ} (hF : FnW F A O o eb h) (ho : Sim fa Γ ea wa) (hi : ∀ a, isRecv c m (ea a) = true) (hr : Sim ra Γ R wr) (cc : ∀ a t, CallC Γ (.e (ea a) :: R t) (A (a, t)) O) :
    Sim (fMeth c m F fa ra) Γ eb (W.bind wa fun a => W.bind wr fun t => h (a, t)) := fun ρ mm => (ho ρ mm).bnd fun a ρ1 m1 => by
  dsimp only
  rw [if_pos (hi a)]
  exact (hr ρ1 m1).bnd fun t ρ2 m2 => callF_go hF (cc a t) m2
/-- own operators, properties -/
theorem callP_go {F : Fn} {A : τ → Ctx} {O : Ctx} {o : Bool} {h : τ → W α} {t : τ} {ps : List PV} (hF : FnW F A O o ea h) (ha : Mt (A t) (ps.map .fr)) (Q : α → Prop) (q : h t Q fun _ => False) : ∃ a, callP F ps = some (ea a) ∧ Q a := by
  rcases hF t _ ha Q _ q with ⟨a, r, ρ', e, rr, _, q'⟩ | ⟨_, _, _, _, q'⟩
  · exact ⟨a, by unfold callP; rw [e]; exact rr.frz, q'⟩
  · exact q'.elim
end
end Ev
namespace Ev
open PySem PySem.Spec PyProof.Rows L2
/-- a statement's result: it leaves (O), it goes on with k, or it raises -/
def OkC {σ τ : Type} (r : Res Fl) (Er : Env → Prop) (O : τ → Fl → Prop) (Γo : σ → Ctx) (k : σ → W τ) (w : W τ) : Prop := ∀ (Q : τ → Prop) (X : PErr → Prop), w Q X →
  (∃ t fl, r = .ok fl ∧ (∀ ρ, fl ≠ .nx ρ) ∧ O t fl ∧ Q t) ∨ (∃ s ρ', r = .ok (.nx ρ') ∧ Mt (Γo s) ρ' ∧ k s Q X) ∨ ∃ e ρ', r = .err e ρ' ∧ Er ρ' ∧ X e
def SimC {σ τ : Type} (g : FS) (Γ : Ctx) (Er : Env → Prop) (O : τ → Fl → Prop) (Γo : σ → Ctx) (k : σ → W τ) (w : W τ) : Prop := ∀ ρ, Mt Γ ρ → OkC (g ρ) Er O Γo k w
def ImE (Γ : Ctx) (Er : Env → Prop) : Prop := ∀ ρ, Mt Γ ρ → Er ρ
theorem eP {Γ L : Ctx} (h : SubP Γ L) : ImE Γ (MtP L) := fun _ m => h.mt m
theorem eM {Γ Γ' : Ctx} (h : Sub Γ Γ') : ImE Γ (Mt Γ') := fun _ m => h.mt m
def ON {τ : Type} : τ → Fl → Prop := fun _ _ => False
/-- a def's answer -/
def OF {β : Type} (o : Bool) (e : Enc β) (L : Ctx) : β → Fl → Prop := fun b fl => ∃ r ρ', fl = .rt r ρ' ∧ RelR o e b r ∧ MtP L ρ'
/-- a loop's turn -/
def OL {σ β : Type} (Γl : σ → Ctx) (Ob : β → Fl → Prop) : St σ β → Fl → Prop
  | .go s, fl => ∃ ρ', fl = .ct ρ' ∧ Mt (Γl s) ρ'
  | .brk s, fl => ∃ ρ', fl = .bk ρ' ∧ Mt (Γl s) ρ'
  | .ret b, fl => (∃ r ρ', fl = .rt r ρ') ∧ Ob b fl
section
variable {α β γ δ σ ς τ μ : Type} {Γ Γ' L : Ctx} {Er : Env → Prop} {f fa fb fc : FE} {ta tb : FT} {ra : FA} {ea : Enc α} {eb : Enc β} {ec : Enc γ} {wa : W α} {wb : W β} {wc : W γ} {g g1 g2 : FS} {O : τ → Fl → Prop} {Γo : σ → Ctx} {Γm : ς → Ctx} {k : σ → W τ} {km : ς → W τ} {w w1 w2 : W τ}
theorem sc_seq (h1 : SimC g1 Γ Er O Γm km w) (h2 : ∀ s, SimC g2 (Γm s) Er O Γo k (km s)) : SimC (gSeq g1 g2) Γ Er O Γo k w := fun ρ m Q X q => by
  unfold gSeq
  rcases h1 ρ m Q X q with ⟨t, fl, e, hn, o, q'⟩ | ⟨s, ρ', e, m', q'⟩ | ⟨x, ρ', e, m', q'⟩
  · rw [e]
    cases fl with
    | nx ρ' => exact absurd rfl (hn ρ')
    | _ => exact .inl ⟨t, _, rfl, hn, o, q'⟩
  · rw [e]
    exact h2 s ρ' m' Q X q'
  · rw [e]
    exact .inr (.inr ⟨x, ρ', rfl, m', q'⟩)
/-- the last statement of a block -/
theorem sc_last {h : ς → σ} (hs : ∀ s, Sub (Γm s) (Γo (h s))) (h1 : SimC g Γ Er O Γm (fun s => k (h s)) w) : SimC g Γ Er O Γo k w := fun ρ m Q X q => by
  rcases h1 ρ m Q X q with z | ⟨s, ρ', e, m', q'⟩ | z
  · exact .inl z
  · exact .inr (.inl ⟨h s, ρ', e, (hs s).mt m', q'⟩)
  · exact .inr (.inr z)
theorem sc_nx {s : σ} (hs : Sub Γ (Γo s)) : SimC gNx Γ Er O Γo k (k s) := fun ρ m Q X q => .inr (.inl ⟨s, ρ, rfl, hs.mt m, q⟩)
theorem ofOk1 {R : α → μ} {r : Res (μ × Env)} {c : μ × Env → Res Fl} {kw : α → W τ} (h : Ok1 r Γ R wa) (hE : ImE Γ Er) (hk : ∀ a ρ', Mt Γ ρ' → OkC (c (R a, ρ')) Er O Γo k (kw a)) : OkC (r.bind c) Er O Γo k (W.bind wa kw) := fun Q X q => by
  rcases h _ X q with ⟨a, ρ', e, m', q'⟩ | ⟨x, ρ', e, m', q'⟩
  · subst e
    exact hk a ρ' m' Q X q'
  · subst e
    exact .inr (.inr ⟨x, ρ', rfl, hE _ m', q'⟩)
theorem sc_asg {t : Tg1} {Γb : α → Ctx} {ka : α → W τ} (h : Sim f Γ ea wa) (ha : AsgC t ea Γ Γb) (hE : ImE Γ Er) : SimC (gAsg t f) Γ Er O Γb ka (W.bind wa ka) := fun ρ m => ofOk1 (h ρ m) hE fun a ρ1 m1 Q X q => by
  obtain ⟨ρ2, e, m2⟩ := ha a ρ1 m1
  dsimp only
  rw [e]
  exact .inr (.inl ⟨a, ρ2, rfl, m2, q⟩)
theorem sc_drop {ka : α → W τ} (h : Sim f Γ ea wa) (hE : ImE Γ Er) : SimC (gDrop f) Γ Er O (fun _ : α => Γ) ka (W.bind wa ka) := fun ρ m => ofOk1 (h ρ m) hE fun a ρ1 m1 Q X q => .inr (.inl ⟨a, ρ1, rfl, m1, q⟩)
/-- return -/
theorem sc_retG {h : α → τ} (hs : Sim f Γ ea wa) (hE : ImE Γ Er) (hO : ∀ a ρ', Mt Γ ρ' → O (h a) (.rt (.fr (ea a)) ρ')) : SimC (gRet f) Γ Er O Γo k (W.bind wa fun a => W.ret (h a)) := fun ρ m => ofOk1 (hs ρ m) hE fun a ρ1 m1 Q X q =>
  .inl ⟨h a, _, rfl, (fun _ z => nomatch z), hO a ρ1 m1, q⟩
theorem sc_ret {k : σ → W α} (hs : Sim f Γ ea wa) (hE : ImE Γ Er) (hL : SubP Γ L) : SimC (gRet f) Γ Er (OF false ea L) Γo k wa := sc_retG (h := fun a => a) hs hE fun a ρ' m => ⟨_, ρ', rfl, rfl, hL.mt m⟩
theorem sc_retL {k : σ → W (St ς α)} {Γl : ς → Ctx} (hs : Sim f Γ ea wa) (hE : ImE Γ Er) (hL : SubP Γ L) : SimC (gRet f) Γ Er (OL Γl (OF false ea L)) Γo k (W.bind wa fun a => W.ret (.ret a)) := sc_retG (h := fun a => St.ret a) hs hE fun a ρ' m => ⟨⟨_, _, rfl⟩, _, ρ', rfl, rfl, hL.mt m⟩
/-- .. of an own list -/
theorem sc_retO {x : α} (i : Nat) {h : τ} (hi : gt Γ i = some (.o (ea x))) (hO : ∀ ρ', Mt Γ ρ' → O h (.rt (.ow (ea x)) ρ')) : SimC (gRetO i) Γ Er O Γo k (W.ret h) := fun ρ m Q X q => by
  obtain ⟨e, h1, h2⟩ := m.gt hi
  cases h2
  unfold gRetO
  rw [h1]
  exact .inl ⟨h, _, rfl, (fun _ z => nomatch z), hO ρ m, q⟩
theorem of_own {x : α} (hL : SubP Γ L) : ∀ ρ', Mt Γ ρ' → OF true ea L x (.rt (.ow (ea x)) ρ') := fun ρ' m => ⟨_, ρ', rfl, rfl, hL.mt m⟩
theorem sc_bk {Γl : ς → Ctx} {Ob : β → Fl → Prop} {k : σ → W (St ς β)} {s : ς} (h : Sub Γ (Γl s)) : SimC gBk Γ Er (OL Γl Ob) Γo k (W.ret (.brk s)) := fun ρ m Q X q => .inl ⟨St.brk s, _, rfl, (fun _ z => nomatch z), ⟨ρ, rfl, h.mt m⟩, q⟩
def mkE (c : Str) (fs : List Str) (ps : List PV) : PErr := ⟨c, (fs.zip ps).reverse⟩
theorem sc_raise {c : Str} {fs : List Str} {R : μ → List PV} {wr : W μ} (h : Sim ra Γ R wr) (hE : ImE Γ Er) (hl : ∀ t, (R t).length = fs.length) : SimC (gRaise c fs ra) Γ Er O Γo k (W.bind wr fun t => W.err (mkE c fs (R t))) := fun ρ m => ofOk1 (h ρ m) hE fun a ρ1 m1 Q X q => by
  dsimp only
  rw [if_pos (hl a)]
  exact .inr (.inr ⟨_, ρ1, rfl, hE _ m1, q⟩)
theorem sc_if {c : W Bool} (hc : Sim ta Γ (id : Bool → Bool) c) (hE : ImE Γ Er) (h1 : SimC g1 Γ Er O Γo k w1) (h2 : SimC g2 Γ Er O Γo k w2) : SimC (gIf ta g1 g2) Γ Er O Γo k (W.bind c fun b => if b = true then w1 else w2) := fun ρ m => ofOk1 (hc ρ m) hE fun b ρ1 m1 => by
  cases b with
  | true => exact h1 ρ1 m1
  | false => exact h2 ρ1 m1
/-- a block that doesn't leave -/
theorem sc_cut {ws : W σ} (h : SimC g Γ Er ON Γo W.ret ws) : SimC g Γ Er O Γo k (W.bind ws k) := fun ρ m Q X q => by
  rcases h ρ m _ X q with ⟨t, fl, e, hn, o, q'⟩ | z | z
  · exact o.elim
  · exact .inr (.inl z)
  · exact .inr (.inr z)
theorem forS_go {t : Tg1} {Γl : σ → Ctx} {Γb : σ → α → Ctx} {b : σ → α → W σ} (ha : ∀ s, AsgC t ea (Γl s) (Γb s)) (hb : ∀ s x, SimC g (Γb s x) Er ON Γl W.ret (b s x)) :
    ∀ (xs : List α) (s : σ) (ρ : Env), Mt (Γl s) ρ → ∀ (Q : σ → Prop) (X : PErr → Prop), W.forS b xs s Q X → (∃ s' ρ', forL t g (xs.map ea) ρ = .ok (.nx ρ') ∧ Mt (Γl s') ρ' ∧ Q s') ∨ ∃ e ρ', forL t g (xs.map ea) ρ = .err e ρ' ∧ Er ρ' ∧ X e
  | [], s, ρ, m, Q, X, q => .inl ⟨s, ρ, rfl, m, q⟩
  | x :: xs, s, ρ, m, Q, X, q => by
    obtain ⟨ρ1, e1, m1⟩ := ha s x ρ m
    rw [List.map_cons]
    unfold forL
    rw [e1]
    dsimp only
    rcases hb s x ρ1 m1 _ X q with ⟨t, fl, e, hn, o, q'⟩ | ⟨s', ρ2, e2, m2, q2⟩ | ⟨e, ρ2, e2, m2, q2⟩
    · exact o.elim
    · rw [e2]
      exact forS_go ha hb xs s' ρ2 m2 Q X q2
    · rw [e2]
      exact .inr ⟨e, ρ2, rfl, m2, q2⟩
theorem sc_forS {fi : FA} {t : Tg1} {Γb : σ → α → Ctx} {b : σ → α → W σ} {wi : W (List α)} {s0 : σ} (hi : SimI fi Γ ea wi) (hE : ImE Γ Er) (hs : Sub Γ (Γo s0)) (ha : ∀ s, AsgC t ea (Γo s) (Γb s)) (hb : ∀ s x, SimC g (Γb s x) Er ON Γo W.ret (b s x)) :
    SimC (gFor fi t g) Γ Er O Γo k (W.bind wi fun xs => W.bind (W.forS b xs s0) k) := fun ρ m => ofOk1 (hi ρ m) hE fun xs ρ1 m1 Q X q => by
  rcases forS_go ha hb xs s0 ρ1 (hs.mt m1) _ X q with ⟨s', ρ', e, m', q'⟩ | ⟨e, ρ', e1, m', q'⟩
  · exact .inr (.inl ⟨s', ρ', e, m', q'⟩)
  · exact .inr (.inr ⟨e, ρ', e1, m', q'⟩)
theorem forB_go {t : Tg1} {Γl : σ → Ctx} {Γb : σ → α → Ctx} {Ob : β → Fl → Prop} {b : σ → α → W (St σ β)} (ha : ∀ s, AsgC t ea (Γl s) (Γb s)) (hb : ∀ s x, SimC g (Γb s x) Er (OL Γl Ob) Γl (fun s => W.ret (.go s)) (b s x)) :
    ∀ (xs : List α) (s : σ) (ρ : Env), Mt (Γl s) ρ → ∀ (Q : St σ β → Prop) (X : PErr → Prop), W.forB b xs s Q X → (∃ s' ρ', forL t g (xs.map ea) ρ = .ok (.nx ρ') ∧ Mt (Γl s') ρ' ∧ Q (.go s')) ∨ (∃ v r ρ', forL t g (xs.map ea) ρ = .ok (.rt r ρ') ∧ Ob v (.rt r ρ') ∧ Q (.ret v)) ∨ ∃ e ρ', forL t g (xs.map ea) ρ = .err e ρ' ∧ Er ρ' ∧ X e
  | [], s, ρ, m, Q, X, q => .inl ⟨s, ρ, rfl, m, q⟩
  | x :: xs, s, ρ, m, Q, X, q => by
    obtain ⟨ρ1, e1, m1⟩ := ha s x ρ m
    rw [List.map_cons]
    unfold forL
    rw [e1]
    dsimp only
    rcases hb s x ρ1 m1 _ X q with ⟨r, fl, e, hn, o, q'⟩ | ⟨s', ρ2, e2, m2, q2⟩ | ⟨e, ρ2, e2, m2, q2⟩
    · cases r with
      | go s' =>
        obtain ⟨ρ2, rfl, m2⟩ := o
        rw [e]
        exact forB_go ha hb xs s' ρ2 m2 Q X q'
      | brk s' =>
        obtain ⟨ρ2, rfl, m2⟩ := o
        rw [e]
        exact .inl ⟨s', ρ2, rfl, m2, q'⟩
      | ret v =>
        obtain ⟨⟨r, ρ2, rfl⟩, o⟩ := o
        rw [e]
        exact .inr (.inl ⟨v, r, ρ2, rfl, o, q'⟩)
    · rw [e2]
      exact forB_go ha hb xs s' ρ2 m2 Q X q2
    · rw [e2]
      exact .inr (.inr ⟨e, ρ2, rfl, m2, q2⟩)
theorem sc_forB {fi : FA} {t : Tg1} {Γb : σ → α → Ctx} {Ob : β → Fl → Prop} {b : σ → α → W (St σ β)} {wi : W (List α)} {s0 : σ} {h : β → τ} (hi : SimI fi Γ ea wi) (hE : ImE Γ Er) (hs : Sub Γ (Γo s0)) (ha : ∀ s, AsgC t ea (Γo s) (Γb s)) (hO : ∀ v r ρ', Ob v (.rt r ρ') → O (h v) (.rt r ρ'))
    (hb : ∀ s x, SimC g (Γb s x) Er (OL Γo Ob) Γo (fun s => W.ret (.go s)) (b s x)) :
    SimC (gFor fi t g) Γ Er O Γo k (W.bind wi fun xs => W.bind (W.forB b xs s0) (W.cont k fun v => W.ret (h v))) := fun ρ m => ofOk1 (hi ρ m) hE fun xs ρ1 m1 Q X q => by
  rcases forB_go ha hb xs s0 ρ1 (hs.mt m1) _ X q with ⟨s', ρ', e, m', q'⟩ | ⟨v, r, ρ', e, o, q'⟩ | ⟨e, ρ', e1, m', q'⟩
  · exact .inr (.inl ⟨s', ρ', e, m', q'⟩)
  · exact .inl ⟨h v, _, e, (fun _ z => nomatch z), hO v r ρ' o, q'⟩
  · exact .inr (.inr ⟨e, ρ', e1, m', q'⟩)
theorem whileB_go {c : FT} {Γl : σ → Ctx} {wc : σ → W Bool} {Ob : β → Fl → Prop} {b : σ → W (St σ β)} (hc : ∀ s, Sim c (Γl s) (id : Bool → Bool) (wc s)) (hE : ∀ s, ImE (Γl s) Er) (hb : ∀ s, SimC g (Γl s) Er (OL Γl Ob) Γl (fun s => W.ret (.go s)) (b s)) :
    ∀ (n : Nat) (s : σ) (ρ : Env), Mt (Γl s) ρ → ∀ (Q : St σ β → Prop) (X : PErr → Prop), W.whileB wc b n s Q X → (∃ s' ρ', whileL c g n ρ = .ok (.nx ρ') ∧ Mt (Γl s') ρ' ∧ Q (.go s')) ∨ (∃ v r ρ', whileL c g n ρ = .ok (.rt r ρ') ∧ Ob v (.rt r ρ') ∧ Q (.ret v)) ∨ ∃ e ρ', whileL c g n ρ = .err e ρ' ∧ Er ρ' ∧ X e
  | 0, s, ρ, m, Q, X, q => q.elim
  | n + 1, s, ρ, m, Q, X, q => by
    unfold whileL
    rcases hc s ρ m _ X q with ⟨k, ρ1, e1, m1, q1⟩ | ⟨e, ρ1, e1, m1, q1⟩
    · rw [e1]
      dsimp only [Res.bind]
      cases k with
      | true =>
        rw [if_pos (show (id true) = true from rfl)]
        rw [if_pos rfl] at q1
        rcases hb s ρ1 m1 _ X q1 with ⟨r, fl, e, hn, o, q'⟩ | ⟨s', ρ2, e2, m2, q2⟩ | ⟨e, ρ2, e2, m2, q2⟩
        · cases r with
          | go s' =>
            obtain ⟨ρ2, rfl, m2⟩ := o
            rw [e]
            exact whileB_go hc hE hb n s' ρ2 m2 Q X q'
          | brk s' =>
            obtain ⟨ρ2, rfl, m2⟩ := o
            rw [e]
            exact .inl ⟨s', ρ2, rfl, m2, q'⟩
          | ret v =>
            obtain ⟨⟨r, ρ2, rfl⟩, o⟩ := o
            rw [e]
            exact .inr (.inl ⟨v, r, ρ2, rfl, o, q'⟩)
        · rw [e2]
          exact whileB_go hc hE hb n s' ρ2 m2 Q X q2
        · rw [e2]
          exact .inr (.inr ⟨e, ρ2, rfl, m2, q2⟩)
      | false =>
        rw [if_neg (show ¬ (id false) = true from Bool.false_ne_true)]
        exact .inl ⟨s, ρ1, rfl, m1, q1⟩
    · rw [e1]
      exact .inr (.inr ⟨e, ρ1, rfl, hE s _ m1, q1⟩)
theorem sc_while {c : FT} {n : Nat} {wc : σ → W Bool} {Ob : β → Fl → Prop} {b : σ → W (St σ β)} {s0 : σ} {h : β → τ} (hs : Sub Γ (Γo s0)) (hc : ∀ s, Sim c (Γo s) (id : Bool → Bool) (wc s)) (hE : ∀ s, ImE (Γo s) Er) (hO : ∀ v r ρ', Ob v (.rt r ρ') → O (h v) (.rt r ρ'))
    (hb : ∀ s, SimC g (Γo s) Er (OL Γo Ob) Γo (fun s => W.ret (.go s)) (b s)) :
    SimC (gWhile n c g) Γ Er O Γo k (W.bind (W.whileB wc b n s0) (W.cont k fun v => W.ret (h v))) := fun ρ m Q X q => by
  unfold gWhile
  rcases whileB_go hc hE hb n s0 ρ (hs.mt m) _ X q with ⟨s', ρ', e, m', q'⟩ | ⟨v, r, ρ', e, o, q'⟩ | ⟨e, ρ', e1, m', q'⟩
  · exact .inr (.inl ⟨s', ρ', e, m', q'⟩)
  · exact .inl ⟨h v, _, e, (fun _ z => nomatch z), hO v r ρ' o, q'⟩
  · exact .inr (.inr ⟨e, ρ', e1, m', q'⟩)
theorem oF_id {Ob : β → Fl → Prop} : ∀ v r ρ', Ob v (.rt r ρ') → Ob v (.rt r ρ') := fun _ _ _ h => h
theorem oF_ret {Γl : ς → Ctx} {Ob : β → Fl → Prop} : ∀ v r ρ', Ob v (.rt r ρ') → OL Γl Ob (.ret v) (.rt r ρ') := fun _ r ρ' h => ⟨⟨r, ρ', rfl⟩, h⟩
theorem sc_own (i : Nat) {c : SC} {ka : α → W τ} (h : Sim f Γ ea wa) (hi : gt Γ i = some c) (hc : canSet c) (hE : ImE Γ Er) : SimC (gOwn i f) Γ Er O (fun x => pt i (.o (ea x)) Γ) ka (W.bind wa ka) := fun ρ m => ofOk1 (h ρ m) hE fun a ρ1 m1 Q X q => by
  obtain ⟨ρ2, e, m2⟩ := m1.setE (c' := .o (ea a)) (e := .ow (ea a)) hi hc rfl
  dsimp only
  rw [e]
  exact .inr (.inl ⟨a, ρ2, rfl, m2, q⟩)
theorem sc_frz (i : Nat) {p : PV} (hi : gt Γ i = some (.o p)) (h : SimC g (pt i (.v p) Γ) Er O Γo k w) : SimC (gFrz i g) Γ Er O Γo k w := fun ρ m => by
  obtain ⟨e, h1, h2⟩ := m.gt hi
  cases h2
  unfold gFrz
  rw [h1]
  exact h _ (Mt.pt m rfl)
/-- an own slot, of this body or the caller's -/
def ownS (b : Bool) (p : PV) : SC := if b = true then .o p else .i p
theorem own_put {i : Nat} {b : Bool} {p q : PV} {ρ : Env} (m : Mt Γ ρ) (h : gt Γ i = some (ownS b p)) : ownP i ρ = some p ∧ ∃ ρ', putE i q ρ = some ρ' ∧ Mt (pt i (ownS b q) Γ) ρ' := by
  cases b with
  | true =>
    obtain ⟨e, h1, h2⟩ := m.gt h
    cases h2
    exact ⟨by unfold ownP; rw [h1], _, by unfold putE; rw [h1], Mt.pt m rfl⟩
  | false =>
    obtain ⟨e, h1, h2⟩ := m.gt h
    cases h2
    exact ⟨by unfold ownP; rw [h1], _, by unfold putE; rw [h1], Mt.pt m rfl⟩
def W.app (xs : List α) (y : α) : W (List α) := W.req (xs.length < 1000000) (xs ++ [y])
theorem sc_app (i : Nat) {o : Bool} {xs : List α} {ka : List α → W τ} (hi : gt Γ i = some (ownS o (eL ea xs))) (h : Sim f Γ ea wa) (hE : ImE Γ Er) : SimC (gApp' i f) Γ Er O (fun ys => pt i (ownS o (eL ea ys)) Γ) ka (W.bind wa fun y => W.bind (W.app xs y) ka) := fun ρ m => by
  have e0 : gApp' i f ρ = gApp i f ρ := by
    unfold gApp' ownL
    rw [(own_put (q := .non) m hi).1]
    rfl
  rw [e0]
  exact ofOk1 (h ρ m) hE fun a ρ1 m1 Q X q => by
    obtain ⟨h1, ρ2, h2, m2⟩ := own_put (q := eL ea (xs ++ [a])) m1 hi
    dsimp only
    rw [h1]
    dsimp only [eL]
    rw [if_pos (by rw [List.length_map]; exact q.1)]
    have e : PV.lst (xs.map ea ++ [ea a]) = eL ea (xs ++ [a]) := by show _ = PV.lst ((xs ++ [a]).map ea); rw [List.map_append]; rfl
    rw [e, h2]
    exact .inr (.inl ⟨xs ++ [a], ρ2, rfl, m2, q.2⟩)
def W.setI (xs : List α) (k : Int) (v : α) : W (List α) := fun Q _ => ∃ j, ixN xs.length k = some j ∧ Q (xs.set j v)
theorem sc_setI (i : Nat) {o : Bool} {xs : List α} {wk : W Int} {ka : List α → W τ} (hi : gt Γ i = some (ownS o (eL ea xs))) (h : Sim f Γ ea wa) (hk : Sim fb Γ eI wk) (hE : ImE Γ Er) : SimC (gSetI i fb f) Γ Er O (fun ys => pt i (ownS o (eL ea ys)) Γ) ka (W.bind wa fun y => W.bind wk fun k => W.bind (W.setI xs k y) ka) := fun ρ m =>
  ofOk1 (h ρ m) hE fun a ρ1 m1 => by
    have e0 : ownL i ρ1 = true := by
      unfold ownL
      rw [(own_put (q := .non) m1 hi).1]
      rfl
    dsimp only
    rw [if_pos e0]
    exact ofOk1 (hk ρ1 m1) hE fun b ρ2 m2 Q X q => by
      obtain ⟨j, hj, q⟩ := q
      obtain ⟨h1, ρ3, h2, m3⟩ := own_put (q := eL ea (xs.set j a)) m2 hi
      dsimp only
      rw [h1]
      dsimp only [eL, eI]
      have e : PV.lst ((xs.map ea).set j (ea a)) = eL ea (xs.set j a) := by show _ = PV.lst ((xs.set j a).map ea); rw [List.map_set]
      rw [List.length_map, hj]
      dsimp only
      rw [e, h2]
      exact .inr (.inl ⟨_, ρ3, rfl, m3, q⟩)
/-- a method of an own list -/
def BmS {α μ β : Type} (g : List PV → List PV → Option (PV × List PV)) (ea : Enc α) (R : μ → List PV) (eb : Enc β) (op : List α → μ → W (β × List α)) : Prop := ∀ xs t Q X, op xs t Q X → ∃ b ys, g (xs.map ea) (R t) = some (eb b, List.map ea ys) ∧ Q (b, ys)
theorem bm_go {i : Nat} {o : Bool} {gm : List PV → List PV → Option (PV × List PV)} {xs : List α} {R : μ → List PV} {wr : W μ} {op : List α → μ → W (β × List α)} {c : PV × Env → Res Fl} {ka : β × List α → W τ} (hg : BmS gm ea R eb op) (hi : gt Γ i = some (ownS o (eL ea xs))) (h : Sim ra Γ R wr) (hE : ImE Γ Er)
    (hc : ∀ (b : β) (ys : List α) ρ', Mt (pt i (ownS o (eL ea ys)) Γ) ρ' → OkC (c (eb b, ρ')) Er O Γo k (ka (b, ys))) : ∀ ρ, Mt Γ ρ → OkC ((fBmO i gm ra ρ).bind c) Er O Γo k (W.bind wr fun t => W.bind (op xs t) ka) := fun ρ m Q X q => by
  have e0 : ownL i ρ = true := by
    unfold ownL
    rw [(own_put (q := .non) m hi).1]
    rfl
  unfold fBmO
  rw [if_pos e0]
  rcases h ρ m _ X q with ⟨t, ρ1, e1, m1, q1⟩ | ⟨x, ρ1, e1, m1, q1⟩
  · rw [e1]
    obtain ⟨b, ys, e2, q2⟩ := hg xs t _ X q1
    obtain ⟨h1, ρ2, h2, m2⟩ := own_put (q := eL ea ys) m1 hi
    dsimp only [Res.bind]
    rw [h1]
    dsimp only [eL]
    rw [e2]
    dsimp only
    rw [show PV.lst (ys.map ea) = eL ea ys from rfl, h2]
    exact hc b ys ρ2 m2 Q X q2
  · rw [e1]
    exact .inr (.inr ⟨x, ρ1, rfl, hE _ m1, q1⟩)
theorem sc_bm (i : Nat) {o : Bool} {gm : List PV → List PV → Option (PV × List PV)} {xs : List α} {R : μ → List PV} {wr : W μ} {op : List α → μ → W (β × List α)} {ka : β × List α → W τ} (hg : BmS gm ea R eb op) (hi : gt Γ i = some (ownS o (eL ea xs))) (h : Sim ra Γ R wr) (hE : ImE Γ Er) :
    SimC (gDrop (fBmO i gm ra)) Γ Er O (fun s : β × List α => pt i (ownS o (eL ea s.2)) Γ) ka (W.bind wr fun t => W.bind (op xs t) ka) :=
  bm_go hg hi h hE fun b ys ρ' m Q X q => .inr (.inl ⟨(b, ys), ρ', rfl, m, q⟩)
/-- what leaves a try -/
def OT {σ β : Type} (Ob : β → Fl → Prop) : St σ β → Fl → Prop
  | .ret b, fl => (∃ r ρ', fl = .rt r ρ') ∧ Ob b fl
  | _, _ => False
theorem sc_try {es : List Str} {c : Str} {b : Bool} {h : PErr → FS} {gb : FS} {Γe : Ctx} {Ob : β → Fl → Prop} {wb : W (St σ β)} {wh : PErr → W (St σ β)} {hh : β → τ} (hb : SimC gb Γ (Mt Γe) (OT Ob) Γo (fun s => W.ret (.go s)) wb) (hO : ∀ v r ρ', Ob v (.rt r ρ') → O (hh v) (.rt r ρ'))
    (hE : ImE Γe Er) (hh' : ∀ e, SimC (h e) Γe Er (OT Ob) Γo (fun s => W.ret (.go s)) (wh e)) : SimC (gTry es c b h gb) Γ Er O Γo k (W.bind (W.tryC es c b wb wh) (W.cont k fun v => W.ret (hh v))) := fun ρ m Q X q => by
  have out : ∀ (r : Res Fl), (∃ t fl, r = .ok fl ∧ (∀ ρ, fl ≠ .nx ρ) ∧ OT (σ := σ) Ob t fl ∧ W.cont k (fun v => W.ret (hh v)) t Q X) → (∃ t fl, r = .ok fl ∧ (∀ ρ, fl ≠ .nx ρ) ∧ O t fl ∧ Q t) := fun r ⟨t, fl, e, hn, o, q'⟩ => by
    cases t with
    | go s => exact o.elim
    | brk s => exact o.elim
    | ret v => obtain ⟨⟨r', ρ', z⟩, o⟩ := o; subst z; exact ⟨hh v, _, e, (fun _ z => nomatch z), hO v r' ρ' o, q'⟩
  unfold gTry
  rcases hb ρ m _ _ q with z | ⟨s, ρ', e, m', q'⟩ | ⟨x, ρ', e, m', q'⟩
  · obtain ⟨t, fl, e, hn, o, q'⟩ := z
    rw [e]
    exact .inl (out (.ok fl) ⟨t, fl, rfl, hn, o, q'⟩)
  · rw [e]
    exact .inr (.inl ⟨s, ρ', rfl, m', q'⟩)
  · rw [e]
    dsimp only
    rw [if_pos q'.1]
    have q2 := q'.2
    by_cases hm : (b || decide (x.cls = c)) = true
    · rw [if_pos hm] at q2 ⊢
      rcases hh' x ρ' m' _ X q2 with z | ⟨s, ρ', e, m', q'⟩ | z
      · exact .inl (out _ z)
      · exact .inr (.inl ⟨s, ρ', e, m', q'⟩)
      · exact .inr (.inr z)
    · rw [if_neg hm] at q2 ⊢
      exact .inr (.inr ⟨x, ρ', rfl, hE _ m', q2⟩)
theorem sc_retT {k : σ → W (St ς α)} (hs : Sim f Γ ea wa) (hE : ImE Γ Er) (hL : SubP Γ L) : SimC (gRet f) Γ Er (OT (OF false ea L)) Γo k (W.bind wa fun a => W.ret (.ret a)) := sc_retG (h := fun a => St.ret a) hs hE fun a ρ' m => ⟨⟨_, _, rfl⟩, _, ρ', rfl, rfl, hL.mt m⟩
/-- if isinstance(e, C): return ("T", e.f) .. -/
def tellW (es : List Str) : List (Str × Str × Str) → PErr → W (St Unit PV)
  | [], _ => W.ret (.go ())
  | (c, t, f) :: r, e => fun Q X => c ∈ es ∧ (if e.cls = c then W.bind (W.opt (e.args.lookup f)) (fun v => W.ret (.ret (.tup [.str t, v]))) Q X else tellW es r e Q X)
theorem sc_tell {es : List Str} {i : Nat} {c : SC} {Γo : Unit → Ctx} {k : Unit → W (St Unit PV)} (hi : gt Γ i = some c) (hc : canSet c) (hs : Sub (pt i .jk Γ) (Γo ())) (hL : SubP (pt i .jk Γ) L) (hk : k = fun _ => W.ret (.go ())) : ∀ (hs : List (Str × Str × Str)) (e : PErr), SimC (tellF es i hs e) Γ Er (OT (OF false eA L)) Γo k (tellW es hs e)
  | [], e => fun ρ m Q X q => by
    obtain ⟨ρ', e1, m'⟩ := m.setE (c' := .jk) (e := .no) hi hc (.inl rfl)
    subst hk
    unfold tellF
    rw [e1]
    exact .inr (.inl ⟨(), ρ', rfl, hs.mt m', q⟩)
  | (c', t, f) :: r, e => fun ρ m Q X q => by
    obtain ⟨ρ', e1, m'⟩ := m.setE (c' := .jk) (e := .no) hi hc (.inl rfl)
    obtain ⟨q1, q2⟩ := q
    unfold tellF
    rw [if_pos q1]
    by_cases h : e.cls = c'
    · rw [if_pos h] at q2 ⊢
      obtain ⟨v, e2, q3⟩ := q2
      rw [e2, e1]
      exact .inl ⟨.ret (.tup [.str t, v]), _, rfl, (fun _ z => nomatch z), ⟨⟨_, _, rfl⟩, _, _, rfl, rfl, hL.mt m'⟩, q3⟩
    · rw [if_neg h] at q2 ⊢
      exact sc_tell hi hc hs hL hk r e ρ m Q X q2
theorem gIf_seq {ρ : Env} : gSeq (gIf ta g1 g2) g ρ = (ta ρ).bind fun k => if k.1 = true then gSeq g1 g k.2 else gSeq g2 g k.2 := by
  unfold gSeq gIf
  cases ta ρ with
  | ok z =>
    obtain ⟨b, ρ'⟩ := z
    cases b <;> rfl
  | err e ρ' => rfl
  | bad => rfl
theorem sc_ifx {c : W Bool} {Γn : ς → Ctx} {kn : ς → W τ} (hc : Sim ta Γ (id : Bool → Bool) c) (hE : ImE Γ Er) (h1 : SimC g1 Γ Er O (fun z : Empty => z.elim) (fun z : Empty => z.elim) w1) (h2 : SimC (gSeq g2 g) Γ Er O Γo k w2) : SimC (gSeq (gIf ta g1 g2) g) Γ Er O Γo k (W.bind c fun b => if b = true then w1 else w2) := fun ρ m => by
  rw [gIf_seq]
  exact ofOk1 (hc ρ m) hE fun b ρ1 m1 => by
    cases b with
    | true =>
      refine sc_seq (Γm := fun z : Empty => z.elim) (km := fun z : Empty => z.elim) h1 (fun z => z.elim) ρ1 m1
    | false => exact h2 ρ1 m1
theorem sc_ifx0 {c : W Bool} (hc : Sim ta Γ (id : Bool → Bool) c) (hE : ImE Γ Er) (h1 : SimC g1 Γ Er O (fun z : Empty => z.elim) (fun z : Empty => z.elim) w1) (h2 : SimC g Γ Er O Γo k w2) : SimC (gSeq (gIf ta g1 gNx) g) Γ Er O Γo k (W.bind c fun b => if b = true then w1 else w2) :=
  sc_ifx (ς := Unit) (Γn := fun _ => Γ) (kn := fun _ => w1) hc hE h1 h2
def poolC : SC → Prop
  | .pool => True
  | .top => True
  | _ => False
def poolsC : Ctx → Prop
  | [] => True
  | c :: L => poolC c ∧ poolsC L
theorem outs_mt : ∀ {O : Ctx} {ρ : Env}, poolsC O → MtP O ρ → Mt O (outs O.length ρ)
  | [], _, _, _ => rfl
  | c :: O, _, ⟨h1, h2⟩, ⟨e, r, z, s, m⟩ => by
    subst z
    refine ⟨outE (some e), outs O.length r, outsC _ _ _, ?_, outs_mt h2 m⟩
    cases c <;> first | exact h1.elim | trivial | skip
    obtain ⟨p, rfl, hp⟩ := s
    exact ⟨p, rfl, hp⟩
theorem fn_of {nN n : Nat} {G : FS} {A : μ → Ctx} {L : Ctx} {o : Bool} {Γo : μ → σ → Ctx} {k : μ → σ → W α} {w : μ → W α} (hn : L.length = n) (hp : poolsC L) (hs : ∀ t, SimC G (A t ++ List.replicate (nN - n) .jk) (MtP L) (OF o ea L) (Γo t) (k t) (w t))
    (he : ∀ t s Q X, k t s Q X → ∃ b, Q b ∧ RelR o ea b (.fr .non) ∧ SubP (Γo t s) L) : FnW (defF nN n G) A L o ea w := fun t ρ m Q X q => by
  subst hn
  unfold defF
  rcases hs t _ (m.app (Mt.reps _)) Q X q with ⟨b, fl, e, _, ⟨r, ρ', z, rr, m'⟩, q'⟩ | ⟨s, ρ', e, m', q'⟩ | ⟨x, ρ', e, m', q'⟩
  · subst z
    rw [e]
    exact .inl ⟨b, r, _, rfl, rr, outs_mt hp m', q'⟩
  · rw [e]
    obtain ⟨b, q2, rr, sb⟩ := he t s Q X q'
    exact .inl ⟨b, _, _, rfl, rr, outs_mt hp (sb.mt m'), q2⟩
  · rw [e]
    exact .inr ⟨x, _, rfl, outs_mt hp m', q'⟩
/-- no end but by return -/
theorem fn_no {o : Bool} {L : Ctx} {Γo : μ → Empty → Ctx} {k : μ → Empty → W α} : ∀ t s Q X, k t s Q X → ∃ b, Q b ∧ RelR o ea b (.fr .non) ∧ SubP (Γo t s) L := fun _ s => s.elim
end
end Ev
namespace Ev
open PySem PySem.Spec PyProof.Rows L2
theorem os_add : OpS pAdd eI eI eI fun a b => W.ret (a + b) := fun _ _ _ _ q => ⟨_, rfl, q⟩
theorem os_sub : OpS pSub eI eI eI fun a b => W.ret (a - b) := fun _ _ _ _ q => ⟨_, rfl, q⟩
theorem os_shl : OpS pShl eI eI eI fun a b => W.req (cPow a b = true) (a * 2 ^ b.toNat) := fun a b _ _ q => ⟨_, by unfold eI pShl pI2; dsimp only; rw [if_pos q.1], q.2⟩
theorem os_shr : OpS pShr eI eI eI fun a b => W.req (0 ≤ b) (a / 2 ^ b.toNat) := fun a b _ _ q => ⟨_, by unfold eI pShr pI2; dsimp only; rw [if_pos (decide_eq_true q.1)], q.2⟩
theorem os_and : OpS pAndB eI eI eI fun a b => W.ret (Builtin.bitAnd a b) := fun _ _ _ _ q => ⟨_, rfl, q⟩
theorem os_or : OpS pOrB eI eI eI fun a b => W.ret (Builtin.bitOr a b) := fun _ _ _ _ q => ⟨_, rfl, q⟩
theorem os_xor : OpS pXorB eI eI eI fun a b => W.ret (Builtin.bitXor a b) := fun _ _ _ _ q => ⟨_, rfl, q⟩
theorem os_lt : OpS pLt eI eI eB fun a b => W.ret (decide (a < b)) := fun _ _ _ _ q => ⟨_, rfl, q⟩
theorem os_le : OpS pLe eI eI eB fun a b => W.ret (decide (a ≤ b)) := fun _ _ _ _ q => ⟨_, rfl, q⟩
theorem os_gt : OpS pGt eI eI eB fun a b => W.ret (decide (b < a)) := fun _ _ _ _ q => ⟨_, rfl, q⟩
theorem ints_eI (xs : List Int) : intsOf (xs.map eI) = some xs := by
  induction xs with
  | nil => rfl
  | cons x xs ih => show (intsOf (xs.map eI)).map (x :: ·) = _; rw [ih]; rfl
theorem bools_eB (xs : List Bool) : boolsOf (xs.map eB) = some xs := by
  induction xs with
  | nil => rfl
  | cons x xs ih => show (boolsOf (xs.map eB)).map (x :: ·) = _; rw [ih]; rfl
section
variable {α β γ : Type} {ea : Enc α} {eb : Enc β} {ec : Enc γ}
theorem os_addL : OpS pAdd (eL ea) (eL ea) (eL ea) fun a b => W.req (a.length + b.length ≤ sizeLine) (a ++ b) := fun a b _ _ q => ⟨_, by
  unfold eL pAdd
  dsimp only
  rw [if_pos (by rw [List.length_map, List.length_map]; exact q.1), ← List.map_append], q.2⟩
theorem rep_map (xs : List α) : ∀ n : Nat, (List.replicate n (xs.map ea)).flatten = (List.replicate n xs).flatten.map ea
  | 0 => rfl
  | n + 1 => by rw [List.replicate_succ, List.replicate_succ, List.flatten_cons, List.flatten_cons, List.map_append, rep_map xs n]
theorem os_mulLL : OpS pMulL (eL ea) eI (eL ea) fun a k => W.req (-(2 ^ 63) ≤ k ∧ k < 2 ^ 63 ∧ a.length * k.toNat ≤ sizeLine) (List.replicate k.toNat a).flatten := fun a k _ _ q => ⟨_, by
  unfold eL eI pMulL
  dsimp only
  rw [decide_eq_true q.1.1, decide_eq_true q.1.2.1, decide_eq_true (show (a.map ea).length * k.toNat ≤ sizeLine by rw [List.length_map]; exact q.1.2.2), rep_map]
  rfl, q.2⟩
theorem os_idxL : OpS pIdx (eL ea) eI ea fun xs k => W.opt (atI xs k) := fun xs k _ _ ⟨a, e, q⟩ => ⟨a, atI_map e, q⟩
theorem os_idxT : OpS pIdx (eT ea) eI ea fun xs k => W.opt (atI xs k) := fun xs k _ _ ⟨a, e, q⟩ => ⟨a, atI_map e, q⟩
/-- values of this kind are equal as Python says so -/
def EqOk {α : Type} [DecidableEq α] (ea : Enc α) : Prop := ∀ a b, pEqB (ea a) (ea b) = some (decide (a = b))
theorem os_eq [DecidableEq α] (h : EqOk ea) : OpS pEq ea ea eB fun a b => W.ret (decide (a = b)) := fun a b _ _ q => ⟨_, by unfold pEq; rw [h]; rfl, q⟩
theorem os_ne [DecidableEq α] (h : EqOk ea) : OpS pNe ea ea eB fun a b => W.ret (!decide (a = b)) := fun a b _ _ q => ⟨_, by unfold pNe; rw [h]; rfl, q⟩
theorem os_eqA : OpS pEq ea eb eB fun a b => W.opt (pEqB (ea a) (eb b)) := fun a b _ _ ⟨c, e, q⟩ => ⟨c, by unfold pEq; rw [e]; rfl, q⟩
theorem os_neA : OpS pNe ea eb eB fun a b => W.bind (W.opt (pEqB (ea a) (eb b))) fun c => W.ret (!c) := fun a b _ _ ⟨c, e, q⟩ => ⟨!c, by unfold pNe; rw [e]; rfl, q⟩
/-- data: as such -/
structure DatOk {α : Type} [DecidableEq α] (ea : Enc α) (n : Nat) (D : α → PyData) : Prop where
  d : ∀ a, dataOf (ea a) = some (D a)
  c : ∀ a, PyData.canLay0 (D a) = true
  h : ∀ a, PyData.depth (D a) ≤ n
  e : ∀ a b, PyData.eqv (D a) (D b) = decide (a = b)
theorem DatOk.eq [DecidableEq α] {n : Nat} {D : α → PyData} (h : DatOk ea n D) (hn : n ≤ 64) : EqOk ea := fun a b => by
  have s : ∀ a, SeqAt.shaped (D a) = true := fun a => by unfold SeqAt.shaped; rw [h.c, decide_eq_true (Nat.le_trans (h.h a) hn)]; rfl
  unfold pEqB
  rw [h.d, h.d]
  dsimp only
  rw [s, s, h.e]
  rfl
theorem int_eqv' (i j : Int) : PyData.eqv (.int i) (.int j) = decide (i = j) := by
  by_cases h : i = j
  · rw [h, decide_eq_true rfl]; simp [PyData.eqv]
  · rw [decide_eq_false h]; simp [PyData.eqv, h]
theorem dat_I : DatOk eI 0 (fun i => .int i) := ⟨fun _ => rfl, fun _ => by simp [PyData.canLay0], fun _ => by simp [PyData.depth], fun a b => int_eqv' a b⟩
section
variable [DecidableEq α] [DecidableEq β] [DecidableEq γ] {n m l : Nat} {D : α → PyData} {E : β → PyData} {F : γ → PyData}
theorem DatOk.all (h : DatOk ea n D) : ∀ xs : List α, datasOf (xs.map ea) = some (xs.map D)
  | [] => rfl
  | x :: xs => by
    show (match dataOf (ea x), datasOf (xs.map ea) with
      | some d, some ds => some (d :: ds)
      | _, _ => none) = _
    rw [h.d, h.all xs]
    rfl
theorem DatOk.lay (h : DatOk ea n D) : ∀ xs : List α, PyData.canLayAll0 (xs.map D) = true
  | [] => by simp [PyData.canLayAll0]
  | x :: xs => by rw [List.map_cons, PyData.canLayAll0, h.c, h.lay xs]; rfl
theorem DatOk.dep (h : DatOk ea n D) : ∀ xs : List α, PyData.depthAll (xs.map D) ≤ n
  | [] => by simp [PyData.depthAll]
  | x :: xs => by rw [List.map_cons, PyData.depthAll]; exact Nat.max_le.mpr ⟨h.h x, h.dep xs⟩
theorem DatOk.eqs (h : DatOk ea n D) : ∀ xs ys : List α, PyData.eqvAll (xs.map D) (ys.map D) = decide (xs = ys)
  | [], [] => by simp [PyData.eqvAll]
  | [], y :: ys => by simp [PyData.eqvAll]
  | x :: xs, [] => by simp [PyData.eqvAll]
  | x :: xs, y :: ys => by
    rw [List.map_cons, List.map_cons, PyData.eqvAll, h.e, h.eqs xs ys]
    by_cases h1 : x = y <;> by_cases h2 : xs = ys <;> simp [h1, h2]
theorem DatOk.T (h : DatOk ea n D) : DatOk (eT ea) (n + 1) (fun xs => .tuple (xs.map D)) := ⟨fun xs => by show (datasOf (xs.map ea)).map PyData.tuple = _; rw [h.all]; rfl, fun xs => by rw [PyData.canLay0]; exact h.lay xs, fun xs => by rw [PyData.depth]; exact Nat.succ_le_succ (h.dep xs), fun a b => by rw [PyData.eqv]; exact h.eqs a b⟩
theorem DatOk.P2 (h : DatOk ea n D) (h' : DatOk eb m E) : DatOk (eP2 ea eb) (max n m + 1) (fun p => .tuple [D p.1, E p.2]) := ⟨fun p => by
    show (datasOf [ea p.1, eb p.2]).map PyData.tuple = _
    rw [datasOf, datasOf, datasOf, h.d, h'.d]; rfl, fun p => by rw [PyData.canLay0, PyData.canLayAll0, PyData.canLayAll0, PyData.canLayAll0, h.c, h'.c]; rfl, fun p => by
    rw [PyData.depth, PyData.depthAll, PyData.depthAll, PyData.depthAll]
    have := h.h p.1
    have := h'.h p.2
    omega, fun a b => by
    rw [PyData.eqv, PyData.eqvAll, PyData.eqvAll, PyData.eqvAll, h.e, h'.e]
    obtain ⟨a1, a2⟩ := a
    obtain ⟨b1, b2⟩ := b
    by_cases h1 : a1 = b1 <;> by_cases h2 : a2 = b2 <;> simp [h1, h2]⟩
end
def isNonP : PV → Bool
  | .non => true
  | _ => false
theorem se_isNA {Γ : Ctx} {f : FE} {w : W PV} (h : Sim f Γ eA w) : Sim (fBin pIsN f (fC .non)) Γ eB (W.bind w fun p => W.ret (isNonP p)) := fun ρ m => (h ρ m).bnd fun p ρ1 m1 => by
  cases p <;> exact Ok1.pure m1 rfl
theorem os_isB : OpS pIsB eA eB eB fun p b => W.ex fun c => pIsB p (.bl b) = some (.bl c) := fun p b _ _ ⟨c, e, q⟩ => ⟨c, e, q⟩
theorem us_neg : UnS pNeg eI eI fun a => W.ret (-a) := fun _ _ _ q => ⟨_, rfl, q⟩
theorem us_inv : UnS pInvI eI eI fun a => W.ret (Builtin.bitNot a) := fun _ _ _ q => ⟨_, rfl, q⟩
theorem us_bits : UnS pBits eI eI fun a => W.ret ((Builtin.Int.intBits a : Nat) : Int) := fun _ _ _ q => ⟨_, rfl, q⟩
theorem us_isi {cs : List Str} {t : PT1} : UnS (pIsi cs t) eA eB fun p => W.bind (W.opt (kindOf cs p)) fun k => W.ret (k.is t) := fun p _ _ ⟨k, e, q⟩ => ⟨_, by unfold pIsi eA; rw [e]; rfl, q⟩
theorem us_isi2 {cs : List Str} {t u : PT1} : UnS (pIsi2 cs t u) eA eB fun p => W.bind (W.opt (kindOf cs p)) fun k => W.ret (k.is t || k.is u) := fun p _ _ ⟨k, e, q⟩ => ⟨_, by unfold pIsi2 eA; rw [e]; rfl, q⟩
theorem bs_lenL : BnS bLen (fun a => [eL ea a]) eI fun a => W.ret (a.length : Int) := fun a _ _ q => ⟨_, by show some (PV.int ((a.map ea).length : Int)) = _; rw [List.length_map]; rfl, q⟩
theorem bs_lenT : BnS bLen (fun a => [eT ea a]) eI fun a => W.ret (a.length : Int) := fun a _ _ q => ⟨_, by show some (PV.int ((a.map ea).length : Int)) = _; rw [List.length_map]; rfl, q⟩
theorem bs_lenA : BnS bLen (fun a => [eA a]) eI fun a => W.ex fun n => bLen [a] = some (.int n) := fun a _ _ ⟨n, e, q⟩ => ⟨n, e, q⟩
theorem bs_all : BnS bAll (fun a => [eL eB a]) eB fun a => W.ret (a.all id) := fun a _ _ q => ⟨_, by show (boolsOf (a.map eB)).map _ = _; rw [bools_eB]; rfl, q⟩
theorem bs_sum : BnS bSum (fun a => [eL eI a]) eI fun a => W.ret a.sum := fun a _ _ q => ⟨_, by show (intsOf (a.map eI)).map _ = _; rw [ints_eI]; rfl, q⟩
theorem bs_min : BnS bMin (fun a => [eL eI a]) eI fun a => W.req (a ≠ []) (minI a) := fun a _ _ q => ⟨_, by show (intsOf (a.map eI)).bind _ = _; rw [ints_eI]; exact if_neg q.1, q.2⟩
theorem bs_listT : BnS bList (fun a => [eT ea a]) (eL ea) fun a => W.ret a := fun a _ _ q => ⟨_, rfl, q⟩
theorem bs_tupL : BnS bTuple (fun a => [eL ea a]) (eT ea) fun a => W.ret a := fun a _ _ q => ⟨_, rfl, q⟩
theorem bw_ins : BmS mIns ea (fun t : Int × α × Unit => [eI t.1, ea t.2.1]) eN fun xs t => W.req (0 ≤ t.1 ∧ t.1 < 2 ^ 63 ∧ xs.length < 1000000) ((), xs.take t.1.toNat ++ [t.2.1] ++ xs.drop t.1.toNat) := fun xs t _ _ q => ⟨(), _, by
  show (if decide (0 ≤ t.1) && decide (t.1 < 2 ^ 63) && decide ((xs.map ea).length < 1000000) then some (PV.non, (xs.map ea).take t.1.toNat ++ [ea t.2.1] ++ (xs.map ea).drop t.1.toNat) else none) = _
  rw [decide_eq_true q.1.1, decide_eq_true q.1.2.1, List.length_map, decide_eq_true q.1.2.2]
  show some _ = some (PV.non, List.map ea (xs.take t.1.toNat ++ [t.2.1] ++ xs.drop t.1.toNat))
  rw [List.map_append, List.map_append, List.map_take, List.map_drop]
  rfl, q.2⟩
def inB {α : Type} [DecidableEq α] (a : α) (xs : List α) : Bool := decide (a ∈ xs)
theorem inB_iff {α : Type} [DecidableEq α] {a : α} {xs : List α} : inB a xs = true ↔ a ∈ xs := decide_eq_true_iff
def pyI : PV → Option Int
  | .int i => some i
  | _ => none
def pyB : PV → Option Bool
  | .bl b => some b
  | _ => none
def py2 : PV → Option (PV × PV)
  | .tup [a, b] => some (a, b)
  | _ => none
theorem co_I : ∀ (p : PV) (Q : Int → Prop) (X : PErr → Prop), W.opt (pyI p) Q X → ∃ c, eA p = eI c ∧ Q c := fun p Q X ⟨c, e, q⟩ => ⟨c, by unfold pyI at e; split at e <;> first | (cases e; rfl) | (cases e; done), q⟩
end
end Ev
namespace Ev
open PySem PySem.Spec PyProof.Rows L2
theorem nd1 {i : Nat} : List.Nodup [i] := by simp
section
variable {α β γ δ σ ς τ μ : Type} {Γ Γ' L : Ctx} {Er : Env → Prop} {f fa fb fc : FE} {ta tb : FT} {ra : FA} {ea : Enc α} {eb : Enc β} {ec : Enc γ} {wa : W α} {wb : W β} {wc : W γ}
theorem os_ltA : OpS pLt eA eA eB fun a b => W.ex fun c => pLt a b = some (.bl c) := fun a b _ _ ⟨c, e, q⟩ => ⟨c, e, q⟩
theorem os_leA : OpS pLe eA eA eB fun a b => W.ex fun c => pLe a b = some (.bl c) := fun a b _ _ ⟨c, e, q⟩ => ⟨c, e, q⟩
theorem os_idxA : OpS pIdx eA eI eA fun a b => W.opt (pIdx a (.int b)) := fun a b _ _ ⟨c, e, q⟩ => ⟨c, e, q⟩
theorem se_cutA {w : W PV} {fl fh : FO} {wl wh : W (Option Int)} (ha : Sim fa Γ eA w) (hl : Sim fl Γ (id : Option Int → Option Int) wl) (hh : Sim fh Γ (id : Option Int → Option Int) wh) :
    Sim (fCut fa fl fh) Γ eA (W.bind w fun p => W.bind wl fun l => W.bind wh fun h => W.opt (pCut p l h)) :=
  fun ρ m => (ha ρ m).bnd fun xs ρ1 m1 => (hl ρ1 m1).bnd fun l ρ2 m2 => (hh ρ2 m2).bnd fun h ρ3 m3 => Ok1.ofO m3 fun Q X ⟨a, e, q⟩ => ⟨a, e, q⟩
def zipA (p q : PV) : Option (List (PV × PV)) := match p, q with
  | .tup xs, .tup ys => some (xs.zip ys)
  | .lst xs, .lst ys => some (xs.zip ys)
  | .lst xs, .scr ys => some (xs.zip ys)
  | .scr xs, .lst ys => some (xs.zip ys)
  | .scr xs, .scr ys => some (xs.zip ys)
  | _, _ => none
theorem zipA_eq (xs ys : List PV) : zipP xs ys = (xs.zip ys).map (eP2 eA eA) := by
  have := zipP_eq (ea := eA) (eb := eA) xs ys
  rw [show List.map eA xs = xs from List.map_id xs, show List.map eA ys = ys from List.map_id ys] at this
  exact this
theorem zip2_eq (p q : PV) (zs : List (PV × PV)) (h : zipA p q = some zs) : zip2 p q = some (zs.map (eP2 eA eA)) := by
  unfold zipA at h
  unfold zip2
  split at h <;> first | (cases h; exact congrArg some (zipA_eq _ _)) | cases h
theorem si_zipA {w w' : W PV} (h : Sim fa Γ eA w) (h' : Sim fb Γ eA w') : SimI (fZip fa fb) Γ (eP2 eA eA) (W.bind w fun p => W.bind w' fun q => W.opt (zipA p q)) :=
  fun ρ m => (h ρ m).bnd fun xs ρ1 m1 => (h' ρ1 m1).bnd fun ys ρ2 m2 => Ok1.ofO m2 fun Q X ⟨z, e, q⟩ => ⟨z, zip2_eq _ _ _ e, q⟩
theorem si_enumA {w : W PV} (h : Sim fa Γ eA w) : SimI (fEnum fa) Γ (eP2 eI eA) (W.bind w fun p => W.bind (W.opt (seqP p)) fun xs => W.ret (enumFrom 0 xs)) :=
  fun ρ m => (h ρ m).bnd fun p ρ1 m1 => Ok1.ofO m1 fun Q X ⟨xs, e, q⟩ => ⟨_, by
    show (seqP p).map (numF 0) = _
    rw [e]
    have := numF_eq (ea := eA) 0 xs
    rw [show List.map eA xs = xs from List.map_id xs] at this
    exact congrArg some this, q⟩
theorem sc_pool (i : Nat) {O : τ → Fl → Prop} {xs : List Int} {c : SC} {ka : Unit → W τ} (h : gt Γ 0 = some (.v (eC eI xs))) (hi : gt Γ i = some c) (hc : canSet c) :
    SimC (gOwn i (fLst (fCons (fB bList (fCons (fVar 0) fNil)) (fCons (fC (.int 0)) (fCons (fC (.int 0)) (fCons (fC (.int 0)) fNil)))))) Γ Er O (fun _ : Unit => pt i .opool Γ) ka (W.bind (W.req (xs.length ≤ 63) ()) ka) := fun ρ m Q X q => by
  obtain ⟨_, h1, rfl⟩ := m.gt h
  obtain ⟨ρ', e1, m'⟩ := m.setE (c' := .opool) (e := .ow (.lst [.lst (xs.map .int), .int 0, .int 0, .int 0])) hi hc ⟨_, rfl, xs, 0, 0, 0, rfl, q.1, by decide, by decide, by decide⟩
  refine .inr (.inl ⟨(), ρ', ?_, m', q.2⟩)
  have e : (fLst (fCons (fB bList (fCons (fVar 0) fNil)) (fCons (fC (.int 0)) (fCons (fC (.int 0)) (fCons (fC (.int 0)) fNil)))) ρ) = .ok (.lst [.lst (xs.map .int), .int 0, .int 0, .int 0], ρ) := by
    have e0 : fVar 0 ρ = .ok (.scr (xs.map .int), ρ) := by unfold fVar; rw [h1]; rfl
    unfold fLst fCons fB fC fNil
    dsimp only
    rw [e0]
    rfl
  unfold gOwn
  rw [e]
  dsimp only [Res.bind]
  rw [e1]
end
end Ev
namespace Ev
open PySem PySem.Spec PyProof.Rows L2
section
variable {α β γ σ : Type}
theorem W.ite_ret (c : Bool) (a b : α) : (if c = true then W.ret a else W.ret b) = W.ret (if c = true then a else b) := by cases c <;> rfl
theorem W.no_bind {w : W α} {k : α → W β} : W.no (W.bind w k) = W.bind (W.no w) fun a => W.no (k a) := W.ext fun _ _ => Iff.rfl
theorem W.no_req {P : Prop} {a : α} : W.no (W.req P a) = W.req P a := W.ext fun _ _ => Iff.rfl
theorem W.no_opt {o : Option α} : W.no (W.opt o) = W.opt o := W.ext fun _ _ => Iff.rfl
theorem W.no_no {w : W α} : W.no (W.no w) = W.no w := W.ext fun _ _ => Iff.rfl
theorem W.cont_go {β γ : Type} (k : σ → W γ) (r : β → W γ) (s : σ) : W.cont k r (.go s) = k s := W.ext fun _ _ => Iff.rfl
theorem W.cont_brk {β γ : Type} (k : σ → W γ) (r : β → W γ) (s : σ) : W.cont k r (.brk s) = k s := W.ext fun _ _ => Iff.rfl
theorem W.cont_ret {β γ : Type} (k : σ → W γ) (r : β → W γ) (b : β) : W.cont k r (.ret b) = r b := W.ext fun _ _ => Iff.rfl
theorem W.ex_bl {o : Option PV} {c : Bool} (h : o = some (.bl c)) : W.ex (fun b => o = some (PV.bl b)) = W.ret c := by
  subst h
  exact W.ext fun Q X => ⟨fun ⟨b, e, q⟩ => by cases e; exact q, fun q => ⟨c, rfl, q⟩⟩
theorem W.ex_int {o : Option PV} {c : Int} (h : o = some (.int c)) : W.ex (fun b => o = some (PV.int b)) = W.ret c := by
  subst h
  exact W.ext fun Q X => ⟨fun ⟨b, e, q⟩ => by cases e; exact q, fun q => ⟨c, rfl, q⟩⟩
theorem kind_non (cs : List Str) : kindOf cs .non = some (.t .non) := rfl
theorem kind_bl (cs : List Str) (b : Bool) : kindOf cs (.bl b) = some (.t .bl) := rfl
theorem kind_int (cs : List Str) (i : Int) : kindOf cs (.int i) = some (.t .int) := rfl
theorem kind_str (cs : List Str) (s : Str) : kindOf cs (.str s) = some (.t .str) := rfl
theorem kind_tup (cs : List Str) (xs : List PV) : kindOf cs (.tup xs) = some (.t .tup) := rfl
theorem kind_lst (cs : List Str) (xs : List PV) : kindOf cs (.lst xs) = some (.t .lst) := rfl
theorem is_tt (g n : Tg) : (PT1.t g).is (.t n) = g.is n := rfl
theorem is_tc (g : Tg) (n : Str) : (PT1.t g).is (.c n) = false := rfl
theorem is_ct (g : Tg) (n : Str) : (PT1.c n).is (.t g) = false := rfl
theorem tg_non_non : Tg.is .non .non = true := rfl
theorem tg_non_bl : Tg.is .non .bl = false := rfl
theorem tg_non_int : Tg.is .non .int = false := rfl
theorem tg_non_str : Tg.is .non .str = false := rfl
theorem tg_non_tup : Tg.is .non .tup = false := rfl
theorem tg_non_lst : Tg.is .non .lst = false := rfl
theorem tg_bl_non : Tg.is .bl .non = false := rfl
theorem tg_bl_bl : Tg.is .bl .bl = true := rfl
theorem tg_bl_int : Tg.is .bl .int = true := rfl
theorem tg_bl_str : Tg.is .bl .str = false := rfl
theorem tg_bl_tup : Tg.is .bl .tup = false := rfl
theorem tg_bl_lst : Tg.is .bl .lst = false := rfl
theorem tg_int_non : Tg.is .int .non = false := rfl
theorem tg_int_bl : Tg.is .int .bl = false := rfl
theorem tg_int_int : Tg.is .int .int = true := rfl
theorem tg_int_str : Tg.is .int .str = false := rfl
theorem tg_int_tup : Tg.is .int .tup = false := rfl
theorem tg_int_lst : Tg.is .int .lst = false := rfl
theorem tg_str_non : Tg.is .str .non = false := rfl
theorem tg_str_bl : Tg.is .str .bl = false := rfl
theorem tg_str_int : Tg.is .str .int = false := rfl
theorem tg_str_str : Tg.is .str .str = true := rfl
theorem tg_str_tup : Tg.is .str .tup = false := rfl
theorem tg_str_lst : Tg.is .str .lst = false := rfl
theorem tg_tup_non : Tg.is .tup .non = false := rfl
theorem tg_tup_bl : Tg.is .tup .bl = false := rfl
theorem tg_tup_int : Tg.is .tup .int = false := rfl
theorem tg_tup_str : Tg.is .tup .str = false := rfl
theorem tg_tup_tup : Tg.is .tup .tup = true := rfl
theorem tg_tup_lst : Tg.is .tup .lst = false := rfl
theorem tg_lst_non : Tg.is .lst .non = false := rfl
theorem tg_lst_bl : Tg.is .lst .bl = false := rfl
theorem tg_lst_int : Tg.is .lst .int = false := rfl
theorem tg_lst_str : Tg.is .lst .str = false := rfl
theorem tg_lst_tup : Tg.is .lst .tup = false := rfl
theorem tg_lst_lst : Tg.is .lst .lst = true := rfl
theorem cc_G : (PT1.c (Str.ofString "Graph")).is (.c (Str.ofString "Graph")) = true := by decide
theorem pyI_int (i : Int) : pyI (.int i) = some i := rfl
theorem pyB_bl (b : Bool) : pyB (.bl b) = some b := rfl
theorem py2_tup (p q : PV) : py2 (.tup [p, q]) = some (p, q) := rfl
theorem W.req_T {α : Type} (a : α) : W.req True a = W.ret a := W.req_true trivial a
theorem W.draw_bind {β : Type} {m : Int} {k : Int → W β} {Q : β → Prop} {X : PErr → Prop} (h1 : 0 < m) (h2 : m < 2 ^ 64) (h : ∀ r, 0 ≤ r → r < m → k r Q X) : W.bind (W.draw m) k Q X := ⟨h1, h2, h⟩
theorem W.draw_ap {m : Int} {Q : Int → Prop} {X : PErr → Prop} (h1 : 0 < m) (h2 : m < 2 ^ 64) (h : ∀ r, 0 ≤ r → r < m → Q r) : W.draw m Q X := ⟨h1, h2, h⟩
theorem W.if_ap {β : Type} {c : Bool} {a b : W β} {Q : β → Prop} {X : PErr → Prop} (h1 : c = true → a Q X) (h2 : c = false → b Q X) : (if c = true then a else b) Q X := by
  cases c with
  | true => exact h1 rfl
  | false => exact h2 rfl
theorem W.lc_ret {wc : α → W Bool} {wf : α → W β} (c : α → Bool) (g : α → β) : ∀ {xs : List α}, (∀ x ∈ xs, wc x = W.ret (c x)) → (∀ x ∈ xs, c x = true → wf x = W.ret (g x)) → W.lc wc wf xs = W.ret ((xs.filter c).map g)
  | [], _, _ => rfl
  | x :: xs, h1, h2 => by
    have ih := W.lc_ret (wc := wc) (wf := wf) c g (xs := xs) (fun y hy => h1 y (List.mem_cons_of_mem _ hy)) (fun y hy => h2 y (List.mem_cons_of_mem _ hy))
    unfold W.lc
    rw [h1 x List.mem_cons_self]
    show (if c x = true then _ else _) = _
    cases hc : c x with
    | true =>
      rw [if_pos rfl, h2 x List.mem_cons_self hc, ih, List.filter_cons_of_pos hc]
      rfl
    | false =>
      rw [if_neg Bool.false_ne_true, ih, List.filter_cons_of_neg (by rw [hc]; exact Bool.false_ne_true)]
theorem W.lc_map {wf : α → W β} (g : α → β) {xs : List α} (h : ∀ x ∈ xs, wf x = W.ret (g x)) : W.lc (fun _ => W.ret true) wf xs = W.ret (xs.map g) := by
  rw [W.lc_ret (fun _ => true) g (fun _ _ => rfl) (fun x hx _ => h x hx)]
  rw [List.filter_eq_self.mpr (fun _ _ => rfl)]
theorem W.lc_filter {wc : α → W Bool} (c : α → Bool) {xs : List α} (h : ∀ x ∈ xs, wc x = W.ret (c x)) : W.lc wc (fun x => W.ret x) xs = W.ret (xs.filter c) := by
  rw [W.lc_ret c (fun x => x) h (fun _ _ _ => rfl), List.map_id']
/-- items made with draws -/
theorem W.lc_all {wf : α → W β} (P : Nat → β → Prop) {xs : List α} {Q : List β → Prop} {X : PErr → Prop} (h : ∀ (i : Nat) (x : α), xs[i]? = some x → ∀ K : β → Prop, (∀ y, P i y → K y) → wf x K fun _ => False) (hQ : ∀ ys : List β, ys.length = xs.length → (∀ (i : Nat) (y : β), ys[i]? = some y → P i y) → Q ys) : W.lc (fun _ => W.ret true) wf xs Q X := by
  induction xs generalizing P Q with
  | nil => exact hQ [] rfl (fun i y h => by simp at h)
  | cons x xs ih =>
    show wf x _ _
    refine h 0 x rfl _ fun y hy => ih (fun i => P (i + 1)) (fun i z hz => h (i + 1) z (by simpa using hz)) fun ys hl hys => hQ (y :: ys) (by simp [hl]) fun i z hz => ?_
    cases i with
    | zero => simp at hz; subst hz; exact hy
    | succ i => exact hys i z (by simpa using hz)
theorem W.lc2_ret {wc : α → W Bool} {wg : α → W (List β)} {wc1 : α → β → W Bool} {wf : α → β → W γ} (c : α → Bool) (g : α → List β) (c1 : α → β → Bool) (f : α → β → γ) : ∀ {xs : List α}, (∀ x ∈ xs, wc x = W.ret (c x)) → (∀ x ∈ xs, c x = true → wg x = W.ret (g x)) → (∀ x ∈ xs, c x = true → ∀ y ∈ g x, wc1 x y = W.ret (c1 x y)) → (∀ x ∈ xs, c x = true → ∀ y ∈ g x, c1 x y = true → wf x y = W.ret (f x y)) →
    W.lc2 wc wg wc1 wf xs = W.ret ((xs.filter c).flatMap fun x => ((g x).filter (c1 x)).map (f x))
  | [], _, _, _, _ => rfl
  | x :: xs, h1, h2, h3, h4 => by
    have ih := W.lc2_ret (wc := wc) (wg := wg) (wc1 := wc1) (wf := wf) c g c1 f (xs := xs) (fun y hy => h1 y (List.mem_cons_of_mem _ hy)) (fun y hy => h2 y (List.mem_cons_of_mem _ hy)) (fun y hy => h3 y (List.mem_cons_of_mem _ hy)) (fun y hy => h4 y (List.mem_cons_of_mem _ hy))
    unfold W.lc2
    rw [h1 x List.mem_cons_self]
    show (if c x = true then _ else _) = _
    cases hc : c x with
    | true =>
      rw [if_pos rfl, h2 x List.mem_cons_self hc, ih, List.filter_cons_of_pos hc, List.flatMap_cons]
      show W.bind (W.lc (wc1 x) (wf x) (g x)) _ = _
      rw [W.lc_ret (c1 x) (f x) (h3 x List.mem_cons_self hc) (h4 x List.mem_cons_self hc)]
      rfl
    | false =>
      rw [if_neg Bool.false_ne_true, ih, List.filter_cons_of_neg (by rw [hc]; exact Bool.false_ne_true)]
theorem W.forS_inv {b : σ → α → W σ} (I : Nat → σ → Prop) {Q : σ → Prop} {X : PErr → Prop} : ∀ {xs : List α} {s0 : σ}, I 0 s0 → (∀ (i : Nat) (x : α) (s : σ), xs[i]? = some x → I i s → ∀ K : σ → Prop, (∀ s', I (i + 1) s' → K s') → b s x K X) → (∀ s, I xs.length s → Q s) → W.forS b xs s0 Q X
  | [], s0, h0, _, hQ => hQ s0 h0
  | x :: xs, s0, h0, hb, hQ => by
    show b s0 x _ X
    refine hb 0 x s0 rfl h0 _ fun s' hs => W.forS_inv (fun i => I (i + 1)) hs (fun i y s hy hi => hb (i + 1) y s (by simpa using hy) hi) fun s hs => hQ s hs
theorem W.forS_ret {b : σ → α → W σ} (I : Nat → σ → Prop) (g : σ → α → σ) : ∀ {xs : List α} {s0 : σ}, I 0 s0 → (∀ (i : Nat) (x : α) (s : σ), xs[i]? = some x → I i s → b s x = W.ret (g s x) ∧ I (i + 1) (g s x)) → W.forS b xs s0 = W.ret (xs.foldl g s0) ∧ I xs.length (xs.foldl g s0)
  | [], s0, h0, _ => ⟨rfl, h0⟩
  | x :: xs, s0, h0, hb => by
    obtain ⟨h1, h2⟩ := hb 0 x s0 rfl h0
    obtain ⟨h3, h4⟩ := W.forS_ret (fun i => I (i + 1)) g (xs := xs) h2 fun i y s hy hi => hb (i + 1) y s (by simpa using hy) hi
    refine ⟨?_, h4⟩
    show W.bind (b s0 x) _ = _
    rw [h1]
    exact h3
/-- a loop that fills by places: the state after i turns is known -/
theorem W.forS_at {b : σ → α → W σ} (S : Nat → σ) : ∀ {xs : List α}, (∀ (i : Nat) (x : α), xs[i]? = some x → b (S i) x = W.ret (S (i + 1))) → W.forS b xs (S 0) = W.ret (S xs.length) := fun {xs} h => by
  have := W.forS_ret (b := b) (fun i s => s = S i) (fun s x => s) (xs := [] ) (s0 := S 0) rfl (fun i x s h => by simp at h)
  clear this
  induction xs generalizing S with
  | nil => rfl
  | cons x xs ih =>
    show W.bind (b (S 0) x) _ = _
    rw [h 0 x rfl]
    exact ih (fun i => S (i + 1)) fun i y hy => h (i + 1) y (by simpa using hy)
/-- the first item that leaves decides -/
theorem W.forB_find {b : Unit → α → W (St Unit β)} (p : α → Option β) : ∀ {xs : List α}, (∀ x ∈ xs, b () x = W.ret (match p x with | some v => .ret v | none => .go ())) → W.forB b xs () = W.ret (match xs.findSome? p with | some v => .ret v | none => .go ())
  | [], _ => rfl
  | x :: xs, h => by
    show W.bind (b () x) _ = _
    rw [h x List.mem_cons_self, List.findSome?_cons]
    cases hp : p x with
    | some v => rfl
    | none => exact W.forB_find p fun y hy => h y (List.mem_cons_of_mem _ hy)
theorem rng_zero (n : Nat) : rng 0 (n : Int) = (List.range n).map fun (i : Nat) => (i : Int) := by
  unfold rng
  rw [Int.sub_zero, Int.toNat_natCast]
  exact List.map_congr_left fun i _ => Int.zero_add _
theorem rng_len (lo hi : Int) : (rng lo hi).length = (hi - lo).toNat := by unfold rng; rw [List.length_map, List.length_range]
theorem rng_get {lo hi : Int} {i : Nat} {x : Int} (h : (rng lo hi)[i]? = some x) : x = lo + i ∧ lo + (i : Int) < hi := by
  unfold rng at h
  rw [List.getElem?_map] at h
  obtain ⟨j, h1, rfl⟩ := Option.map_eq_some_iff.mp h
  obtain ⟨a, b⟩ := List.getElem?_eq_some_iff.mp h1
  rw [List.getElem_range] at b
  rw [List.length_range] at a
  subst b
  exact ⟨rfl, by omega⟩
theorem rng_mem {lo hi x : Int} : x ∈ rng lo hi ↔ lo ≤ x ∧ x < hi := by
  unfold rng
  rw [List.mem_map]
  refine ⟨fun ⟨i, h, e⟩ => ?_, fun h => ⟨(x - lo).toNat, ?_, ?_⟩⟩
  · rw [List.mem_range] at h; omega
  · rw [List.mem_range]; omega
  · omega
theorem W.rng1_nat {n : Nat} (h : n ≤ 1000000) : W.rng1 (n : Int) = W.ret (rng 0 (n : Int)) := W.req_true (by omega) _
theorem W.rng2_ok {a b : Int} (h : -1000000 ≤ a ∧ a ≤ 1000000 ∧ -1000000 ≤ b ∧ b ≤ 1000000) : W.rng2 a b = W.ret (rng a b) := W.req_true h _
theorem atI_some {xs : List α} {i : Int} {x : α} (h0 : 0 ≤ i) (h : xs[i.toNat]? = some x) : atI xs i = some x := by
  have := atI_nat h
  rwa [Int.toNat_of_nonneg h0] at this
theorem W.idxN {xs : List α} {i : Nat} {x : α} (h : xs[i]? = some x) : W.opt (atI xs (i : Int)) = W.ret x := by rw [atI_nat h, W.opt_some]
theorem ixN_nat {n i : Nat} (h : i < n) : ixN n (i : Int) = some i := by
  unfold ixN
  rw [if_pos (by omega), if_pos (by omega)]
  rfl
theorem W.setN {xs : List α} {i : Nat} {v : α} (h : i < xs.length) : W.setI xs (i : Int) v = W.ret (xs.set i v) := W.ext fun Q X => ⟨fun ⟨j, e, q⟩ => by rw [ixN_nat h] at e; cases e; exact q, fun q => ⟨i, ixN_nat h, q⟩⟩
theorem W.app_ok {xs : List α} {v : α} (h : xs.length < 1000000) : W.app xs v = W.ret (xs ++ [v]) := W.req_true h _
theorem enum_get : ∀ {xs : List α} {n : Int} {i : Nat} {p : Int × α}, (enumFrom n xs)[i]? = some p → p.1 = n + i ∧ xs[i]? = some p.2
  | [], _, _, _, h => by simp [enumFrom] at h
  | x :: xs, n, 0, p, h => by simp [enumFrom] at h; subst h; simp
  | x :: xs, n, i + 1, p, h => by
    have := enum_get (xs := xs) (n := n + 1) (i := i) (p := p) (by simpa [enumFrom] using h)
    refine ⟨by rw [this.1]; omega, by simpa using this.2⟩
theorem enum_len : ∀ (xs : List α) (n : Int), (enumFrom n xs).length = xs.length
  | [], _ => rfl
  | _ :: xs, n => congrArg Nat.succ (enum_len xs (n + 1))
end
/-- a law's function gives True -/
theorem pure_of {F : Fn} {O : Ctx} {o : Bool} {f : List Int × Unit → W Bool} (hF : FnW F (fun t : List Int × Unit => [.v (eC eI t.1)]) O o eB f) (h : ∀ ns : List Int, ns.length ≤ 63 → f (ns, ()) (fun b => b = true) fun _ => False) (ns : List Int) (hn : ns.length ≤ 63) : callP F [.scr (ns.map .int)] = some (.bl true) := by
  obtain ⟨b, e, q⟩ := callP_go hF (t := (ns, ())) (ps := [.scr (ns.map .int)]) ⟨_, _, rfl, rfl, rfl⟩ (fun b => b = true) (h ns hn)
  subst q
  exact e
theorem cMul_small (i j : Int) (h : -(2 ^ 64) < j ∧ j < 2 ^ 64) : cMulW i j = true := by
  unfold cMulW
  rw [decide_eq_true h, Bool.true_or, Bool.or_true]
theorem cDiv_small (i j : Int) (h : 0 < j ∧ j < 2 ^ 64) : cDivW i j = true := by
  unfold cDivW
  have h2 : j.natAbs.log2 < 9000 := Nat.lt_of_lt_of_le (PySem.Flt.log2_lt_of (show 0 < 64 by decide) (show j.natAbs < 2 ^ 64 by omega)) (by decide)
  rw [decide_eq_true h.1, decide_eq_true h2, Bool.true_and]
theorem cPow_small {i j : Int} (h1 : 0 ≤ j) (h2 : j ≤ 1000000) (h3 : i.natAbs < 2 ^ 64) : cPow i j = true := by
  unfold cPow
  rw [decide_eq_true h1, decide_eq_true h2, decide_eq_true h3]
  rfl
theorem W.shl1 {j : Nat} (h : j ≤ 1000000) : W.req (cPow 1 (j : Int) = true) ((1 : Int) * 2 ^ (j : Int).toNat) = W.ret ((2 ^ j : Nat) : Int) := by
  rw [W.req_true (cPow_small (by omega) (by omega) (by decide)), Int.toNat_natCast, Int.one_mul]
  congr 1
end Ev
namespace Ev
open PySem PySem.Spec PyProof.Rows L2
def eD {β : Type} (eb : Enc β) : Enc (List (Int × β)) := fun kvs => .dic (kvs.map fun kv => (.inl kv.1, eb kv.2))
def lookI {β : Type} : List (Int × β) → Int → Option β
  | [], _ => none
  | (j, p) :: r, k => if j = k then some p else lookI r k
def setK {β : Type} (kvs : List (Int × β)) (k : Int) (v : β) : List (Int × β) := if (lookI kvs k).isSome = true then kvs.map fun kv => if kv.1 = k then (kv.1, v) else kv else kvs ++ [(k, v)]
def W.putD {β : Type} (kvs : List (Int × β)) (k : Int) (v : β) : W (List (Int × β)) := W.req (kvs.length < 1000000) (setK kvs k v)
def W.setdD {β : Type} (kvs : List (Int × β)) (k : Int) (v : β) : W (List (Int × β)) := W.req (kvs.length < 1000000) (if (lookI kvs k).isSome = true then kvs else setK kvs k v)
theorem lookD_map {β : Type} {eb : Enc β} {k : Int} : ∀ kvs : List (Int × β), lookD (kvs.map fun kv => ((.inl kv.1 : Key), eb kv.2)) (.inl k) = (lookI kvs k).map eb
  | [] => rfl
  | (j, p) :: r => by
    rw [List.map_cons]
    unfold lookD lookI
    by_cases e : j = k
    · subst e
      rw [if_pos rfl, if_pos rfl]
      rfl
    · rw [if_neg (fun z => e (Sum.inl.inj z)), if_neg e]
      exact lookD_map r
theorem setD_map {β : Type} {eb : Enc β} {k : Int} {v : β} (kvs : List (Int × β)) : setD (kvs.map fun kv => ((.inl kv.1 : Key), eb kv.2)) (.inl k) (eb v) = (setK kvs k v).map fun kv => ((.inl kv.1 : Key), eb kv.2) := by
  unfold setD setK
  rw [lookD_map, Option.isSome_map]
  by_cases h : (lookI kvs k).isSome = true
  · rw [if_pos h, if_pos h, List.map_map, List.map_map]
    refine List.map_congr_left fun x _ => ?_
    show (if (.inl x.1 : Key) = .inl k then _ else _) = _
    dsimp only [Function.comp]
    by_cases e : x.1 = k
    · rw [if_pos (by rw [e]), if_pos e]
    · rw [if_neg (fun z => e (Sum.inl.inj z)), if_neg e]
  · rw [if_neg h, if_neg h, List.map_append]
    rfl
section
variable {α β τ υ : Type} {ea : Enc α} {eb : Enc β} {Γ Γo : Ctx} {f fb : FE} {kvs : List (Int × β)}
theorem se_dic0 : Sim fDic0 Γ (eD eb) (W.ret []) := fun ρ m Q X q => .inl ⟨[], ρ, rfl, m, q⟩
theorem ownD_of {ρ : Env} {i : Nat} (h : ownP i ρ = some (eD eb kvs)) : ownD i ρ = some (kvs.map fun kv => ((.inl kv.1 : Key), eb kv.2)) := by
  unfold ownD
  rw [h]
  rfl
theorem se_getD (i : Nat) {w : W Int} (h : gt Γ i = some (.o (eD eb kvs)) ∨ gt Γ i = some (.i (eD eb kvs))) (hk : Sim f Γ eI w) : Sim (fGetD i f) Γ eb (W.bind w fun k => W.opt (lookI kvs k)) := fun ρ m => by
  unfold fGetD
  rw [if_pos (by rw [ownD_of (ownP_o m h)]; rfl)]
  exact (hk ρ m).bnd fun k ρ1 m1 => Ok1.ofO m1 fun Q X ⟨z, ez, q⟩ => ⟨z, by
    dsimp only
    rw [ownD_of (ownP_o m1 h)]
    show lookD _ (.inl k) = _
    rw [lookD_map, ez]
    rfl, q⟩
theorem se_lenD (i : Nat) (h : gt Γ i = some (.o (eD eb kvs)) ∨ gt Γ i = some (.i (eD eb kvs))) : Sim (fLenD i) Γ eI (W.ret (kvs.length : Int)) := fun ρ m Q X q => by
  refine .inl ⟨_, ρ, ?_, m, q⟩
  unfold fLenD
  rw [ownD_of (ownP_o m h)]
  show Res.ok (PV.int ((kvs.map _).length : Int), ρ) = _
  rw [List.length_map]
  rfl
end
section
variable {α β τ υ : Type} {ea : Enc α} {eb : Enc β} {Γ Γo : Ctx} {f fb : FE} {kvs : List (Int × β)} {Er : Env → Prop} {O : τ → Fl → Prop} {wa : W β} {wk : W Int}
theorem pt_self : ∀ {Γ : Ctx} {i : Nat} {c : SC}, gt Γ i = some c → pt i c Γ = Γ
  | [], _, _, h => by cases h
  | c :: Γ, 0, d, h => by cases h; rfl
  | c :: Γ, i + 1, d, h => congrArg (c :: ·) (pt_self (Γ := Γ) h)
theorem sc_setdD (i : Nat) {o : Bool} {ka : List (Int × β) → W τ} (hi : gt Γ i = some (ownS o (eD eb kvs))) (hk : Sim fb Γ eI wk) (h : Sim f Γ eb wa) (hE : ImE Γ Er) : SimC (gDrop (fSetdD i fb f)) Γ Er O (fun ys => pt i (ownS o (eD eb ys)) Γ) ka (W.bind wk fun k => W.bind wa fun y => W.bind (W.setdD kvs k y) ka) := fun ρ m => by
  have e0 : (ownD i ρ).isSome = true := by
    rw [ownD_of (own_put (q := .non) m hi).1]
    rfl
  unfold gDrop fSetdD
  rw [if_pos e0]
  intro Q X q
  rcases hk ρ m _ X q with ⟨b, ρ1, e1, m1, q1⟩ | ⟨x, ρ1, e1, m1, q1⟩
  · rw [e1]
    rcases h ρ1 m1 _ X q1 with ⟨a, ρ2, e2, m2, q2⟩ | ⟨x, ρ2, e2, m2, q2⟩
    · obtain ⟨hl, q⟩ := q2
      have hlt : (kvs.map fun kv => ((.inl kv.1 : Key), eb kv.2)).length < sizeLine := by
        rw [List.length_map]
        exact Nat.lt_trans hl (by decide)
      obtain ⟨h1, ρ3, h2, m3⟩ := own_put (q := eD eb (setK kvs b a)) m2 hi
      dsimp only [Res.bind]
      rw [e2]
      dsimp only
      rw [ownD_of h1]
      have el : lookD (kvs.map fun kv => ((.inl kv.1 : Key), eb kv.2)) (.inl b) = (lookI kvs b).map eb := lookD_map kvs
      dsimp only [eI, keyOf]
      rw [if_pos hlt, el]
      cases e5 : lookI kvs b with
      | some p =>
        rw [e5, if_pos (show (some p).isSome = true from rfl)] at q
        exact .inr (.inl ⟨kvs, ρ2, rfl, by rw [pt_self hi]; exact m2, q⟩)
      | none =>
        rw [e5, if_neg (show ¬ (none : Option β).isSome = true from Bool.false_ne_true)] at q
        refine .inr (.inl ⟨_, ρ3, ?_, m3, q⟩)
        dsimp only [Option.map]
        rw [setD_map, show (PV.dic ((setK kvs b a).map fun kv => ((.inl kv.1 : Key), eb kv.2))) = eD eb (setK kvs b a) from rfl, h2]
    · refine .inr (.inr ⟨x, ρ2, ?_, hE _ m2, q2⟩)
      dsimp only [Res.bind]
      rw [e2]
  · refine .inr (.inr ⟨x, ρ1, ?_, hE _ m1, q1⟩)
    rw [e1]
    rfl
end
end Ev
namespace Slp
open PySem
open Sem (wp)
def retF : Frame → Bool
  | .ret .. => true
  | .gen .. => false
def noG (fs : List Frame) : Prop := fs.all retF = true
def dead (k : Resume → Sem Fin) : Prop := ∀ r, ∃ w, k r = .unsupported w
/-- it can't be woken -/
def bomb : GenState → Prop
  | .suspended k _ _ _ _ _ => dead k
  | _ => False
def cl : GenState → Prop
  | .suspended k _ _ _ fs _ => dead k ∨ noG fs
  | _ => True
def Cl (G : Array GenState) : Prop := ∀ (i : Nat) (x : GenState), G[i]? = some x → cl x
/-- the same but for what sleeps -/
def al (x y : GenState) : Prop := x = y ∨ ∃ k k' l c p fs b, x = .suspended k' l c p fs b ∧ y = .suspended k l c p fs b ∧ dead k'
structure Sm (s r : Shared) : Prop where
  eq : { r with gens := s.gens } = s
  sz : r.gens.size = s.gens.size
  at' : ∀ (i : Nat) (x y : GenState), s.gens[i]? = some x → r.gens[i]? = some y → al x y
def clE : End → Prop
  | .ret _ => True
  | .susp _ _ _ _ _ _ fs => noG fs
/-- the bombs are still there, and in the other run what they stand for -/
def Kp (s s' : Shared) : Prop := ∀ (i : Nat) (x : GenState), s.gens[i]? = some x → bomb x → s'.gens[i]? = some x
def Kr (s r r' : Shared) : Prop := ∀ (i : Nat) (x : GenState), s.gens[i]? = some x → bomb x → r'.gens[i]? = r.gens[i]?
theorem Sm.heap {s r : Shared} (h : Sm s r) : r.heap = s.heap := by have := h.eq; rw [← this]
theorem Sm.toks {s r : Shared} (h : Sm s r) : r.toks = s.toks := by have := h.eq; rw [← this]
theorem Sm.os {s r : Shared} (h : Sm s r) : r.os = s.os := by have := h.eq; rw [← this]
theorem Sm.get {s r : Shared} (h : Sm s r) {i : Nat} {x : GenState} (e : s.gens[i]? = some x) : ∃ y, r.gens[i]? = some y ∧ al x y := by
  have hi : i < r.gens.size := by
    rw [h.sz]
    exact (Array.getElem?_eq_some_iff.mp e).1
  exact ⟨r.gens[i], Array.getElem?_eq_getElem hi, h.at' i x _ e (Array.getElem?_eq_getElem hi)⟩
theorem Sm.set {s r : Shared} (h : Sm s r) (g : Nat) {x y : GenState} (a : al x y) : Sm (s.setGen g x) (r.setGen g y) := by
  refine ⟨?_, ?_, fun i u v e1 e2 => ?_⟩
  · have := h.eq
    unfold Shared.setGen
    rw [← this]
  · simp [Shared.setGen, h.sz]
  · unfold Shared.setGen at e1 e2
    dsimp only at e1 e2
    rw [Array.getElem?_setIfInBounds] at e1 e2
    by_cases hg : g = i
    · subst hg
      rw [if_pos rfl] at e1 e2
      rw [h.sz] at e2
      split at e1
      · rename_i hi
        rw [if_pos hi] at e2
        cases e1; cases e2; exact a
      · cases e1
    · rw [if_neg hg] at e1 e2
      exact h.at' i u v e1 e2
theorem Sm.push {s r : Shared} (h : Sm s r) (x : GenState) : Sm { s with gens := s.gens.push x } { r with gens := r.gens.push x } := by
  refine ⟨?_, ?_, fun i u v e1 e2 => ?_⟩
  · have := h.eq
    rw [← this]
  · simp [h.sz]
  · dsimp only at e1 e2
    rw [Array.getElem?_push] at e1 e2
    rw [h.sz] at e2
    split at e1
    · rename_i hi
      rw [if_pos hi] at e2
      cases e1; cases e2; exact .inl rfl
    · rename_i hi
      rw [if_neg hi] at e2
      exact h.at' i u v e1 e2
/-- what a run keeps -/
structure Ps (s s' : Shared) (e : End) (R : Shared → Shared → Prop) : Prop where
  cl : Cl s'.gens
  clE : clE e
  kp : Kp s s'
  go : ∀ r, Sm s r → ∃ r', Sm s' r' ∧ R r r' ∧ Kr s r r'
theorem Ps.one {s s1 s' : Shared} {e : End} {R1 R : Shared → Shared → Prop} (h : Ps s1 s' e R1) (hk : Kp s s1) (up : ∀ r, Sm s r → ∃ r1, Sm s1 r1 ∧ Kr s r r1 ∧ ∀ r', R1 r1 r' → R r r') : Ps s s' e R := by
  refine ⟨h.cl, h.clE, fun i x e1 b => h.kp i x (hk i x e1 b) b, fun r m => ?_⟩
  obtain ⟨r1, m1, k1, c⟩ := up r m
  obtain ⟨r', m', q, k⟩ := h.go r1 m1
  exact ⟨r', m', c r' q, fun i x e1 b => (k i x (hk i x e1 b) b).trans (k1 i x e1 b)⟩
theorem Ps.here {s : Shared} {e : End} {R : Shared → Shared → Prop} (h : Cl s.gens) (he : Slp.clE e) (c : ∀ r, Sm s r → R r r) : Ps s s e R := ⟨h, he, fun _ _ a _ => a, fun r m => ⟨r, m, c r m, fun _ _ _ _ => rfl⟩⟩
end Slp
namespace Slp
open PySem
open Sem (wp)
def Pp {β : Type} (s r : Shared) (X : β → Pos → Shared → Prop) : β → Pos → Shared → Prop := fun a p r' => ∃ s', Sm s' r' ∧ Kp s s' ∧ Kr s r r' ∧ X a p s'
theorem Pp.up {β : Type} {s s1 r r1 : Shared} {X : β → Pos → Shared → Prop} (hk : Kp s s1) (hr : Kr s r r1) {a : β} {p : Pos} {r' : Shared} (h : Pp s1 r1 X a p r') : Pp s r X a p r' := by
  obtain ⟨s', m, k, kr, x⟩ := h
  exact ⟨s', m, fun i y e b => k i y (hk i y e b) b, fun i y e b => (kr i y (hk i y e b) b).trans (hr i y e b), x⟩
def isSus : GenState → Prop
  | .suspended .. => True
  | _ => False
/-- what sleeps in s is asleep in s' -/
def Ks (s s' : Shared) : Prop := ∀ (i : Nat) (x : GenState), s.gens[i]? = some x → isSus x → s'.gens[i]? = some x
theorem Ks.tr {s s1 s2 : Shared} (a : Ks s s1) (b : Ks s1 s2) : Ks s s2 := fun i x e h => b i x (a i x e h) h
end Slp
namespace Ev
open PySem PySem.Spec PyProof.Rows L2 Slp
end Ev
namespace Slp
open PySem PySem.Spec PyProof.Rows
open Sem (wp)
abbrev WE := End → Shared → Prop
def SW (M : Model) (A : Around) (W : WE) (c : Code) (t : Sem PySem.Fin) (fs : List Frame) (s : Shared) : Prop :=
  ∀ Γ p, Γ.code = c → Γ.Woken A → ∃ e s', Runs M Γ p t fs s e s' ∧ W e s'
def GoS (M : Model) (A : Around) (W : WE) (gs : GenState) (s : Shared) : Prop :=
  match gs with
  | .fresh c => SW M A W c (M.den c) [] s
  | .suspended k _ c _ fs _ => SW M A W c (k (.send .none)) fs s
  | _ => False
end Slp
namespace Slp
open PySem PySem.Spec PyProof.Rows L2
end Slp
namespace Ev
open PySem PySem.Spec PyProof.Rows L2 Slp
abbrev Tps := List (Addr × List Int)
def tp (sub : List Int) : PV := .tup (sub.map .int)
def TpAt (h : Heap) (t : Addr) (sub : List Int) : Prop := sub.length ≤ sizeLine ∧ ∃ its : List Value, Vals (sub.map V.int) its ∧ IsTup h t its.toArray
theorem TpAt.at' {h h1 : Heap} {t : Addr} {sub : List Int} (x : TpAt h t sub) (k : ∀ o, h.get? t = some o → h1.get? t = some o) : TpAt h1 t sub := by
  obtain ⟨z, its, r, o, e, q⟩ := x
  exact ⟨z, its, r, o, k o e, q⟩
theorem TpAt.fn {h : Heap} {t : Addr} {a b : List Int} (x : TpAt h t a) (y : TpAt h t b) : a = b := by
  obtain ⟨_, i1, r1, o1, e1, _, n1, d1⟩ := x
  obtain ⟨_, i2, r2, o2, e2, _, n2, d2⟩ := y
  rw [e1] at e2; cases e2
  rw [d1] at d2
  have : i1.toArray = i2.toArray := by cases d2; rfl
  have : i1 = i2 := by simpa using this
  subst this
  have h := Vals.inj r1 r2
  have inj : ∀ xs ys : List Int, xs.map V.int = ys.map V.int → xs = ys := fun xs => by
    induction xs with
    | nil => intro ys h; cases ys with
      | nil => rfl
      | cons y ys => cases h
    | cons x xs ih => intro ys h; cases ys with
      | nil => cases h
      | cons y ys =>
        rw [List.map_cons, List.map_cons] at h
        injection h with h1 h2
        injection h1 with h1
        rw [h1, ih ys h2]
  exact inj _ _ h
abbrev KsT (K : PySem.W.Frag) (a : Addr) (xs : List V) : Prop := ∃ (o : Obj) (its : Array Value) (n : Nat), K.lookup a = some o ∧ o.cls = .type "tuple" ∧ o.data = .seq its n ∧ its.size ≤ sizeLine ∧ Vals xs its.toList
section
variable (X : Cx)
structure OKX (s : Shared) : Prop where
  os : s.os = X.s_0.os
  bare : AllBare s.gens
  keep : ∀ b o, X.s_0.heap.get? b = some o → b ∉ X.fs → b ∉ X.ex → s.heap.get? b = some o
  slot : ∀ b o, X.s_0.heap.get? b = some o → b ∈ X.fs → b ∉ X.ex → ∃ sl, s.heap.get? b = some { o with slots := sl }
/-- what its consumer leaves -/
structure Gu (raw : List Addr) (ts : Tps) (s s' : Shared) : Prop where
  ok : OKX X s'
  raw : ∀ b ∈ raw, ∀ o, s.heap.get? b = some o → s'.heap.get? b = some o
  tup : ∀ p ∈ ts, TpAt s'.heap p.1 p.2
/-- what it leaves -/
structure Aft (raw : List Addr) (ts : Tps) (raw' : List Addr) (ts' : Tps) (s s1 : Shared) : Prop where
  ok : OKX X s1
  keep : ∀ b o, s.heap.get? b = some o → b ∉ X.fs → b ∉ raw → (∀ sub, (b, sub) ∉ ts) → s1.heap.get? b = some o
  slot : ∀ b o, s.heap.get? b = some o → b ∈ X.fs → b ∉ raw → (∀ sub, (b, sub) ∉ ts) → ∃ sl, s1.heap.get? b = some { o with slots := sl }
  tup : ∀ p ∈ ts, TpAt s1.heap p.1 p.2
  tup' : ∀ p ∈ ts', TpAt s1.heap p.1 p.2
  new : ∀ b ∈ raw', b ∈ raw ∨ (∃ sub, (b, sub) ∈ ts) ∨ s.heap.get? b = none
  newT : ∀ p ∈ ts', p.1 ∈ raw ∨ (∃ sub, (p.1, sub) ∈ ts) ∨ s.heap.get? p.1 = none ∨ KsT X.K p.1 (p.2.map .int)
  alive : ∀ b ∈ raw', ∃ o, s1.heap.get? b = some o ∧ (∀ v, o.data ≠ .cell v) ∧ (o.cls = .type "tuple" → ∀ xs n, o.data ≠ .seq xs n)
def Wsh (A : Around) (R : List (List Int) → List Addr → Tps → GenState → Shared → Prop) (raw : List Addr) (ts : Tps) (s : Shared) : List (List Int) → WE
  | [] => fun e s1 => e = .ret (.ok (.ret .none)) ∧ Aft X raw ts [] [] s s1
  | sub :: rest => fun e s1 => e.quiet = true ∧ ∃ v g0 l k c p fs t raw' ts', e = .susp v g0 l k c p fs ∧ v = .ref t ∧ (t, sub) ∈ ts' ∧ Aft X raw ts raw' ts' s s1 ∧ R rest raw' ts' e.genState s1
def Rsm (A : Around) : List (List Int) → List Addr → Tps → GenState → Shared → Prop
  | [], raw, ts, gs, s => ∀ s', Gu X raw ts s s' → GoS (model X.prog X.w) A (Wsh X A (fun _ _ _ _ _ => False) raw ts s' []) gs s'
  | sub :: rest, raw, ts, gs, s => ∀ s', Gu X raw ts s s' → GoS (model X.prog X.w) A (Wsh X A (fun _ => Rsm A rest) raw ts s' (sub :: rest)) gs s'
theorem Wsh.cons {A : Around} {raw : List Addr} {ts : Tps} {s : Shared} {sub : List Int} {rest : List (List Int)} {e : End} {s1 : Shared} : Wsh X A (fun _ => Rsm X A rest) raw ts s (sub :: rest) e s1 ↔ Wsh X A (Rsm X A) raw ts s (sub :: rest) e s1 := Iff.rfl
theorem Gu.tr {raw : List Addr} {ts : Tps} {s s' s2 : Shared} (a : Gu X raw ts s s') (b : Gu X raw ts s' s2) : Gu X raw ts s s2 := ⟨b.ok, fun c h o e => b.raw c h o (a.raw c h o e), b.tup⟩
theorem Rsm.iff {A : Around} {rest : List (List Int)} {raw : List Addr} {ts : Tps} {gs : GenState} {s : Shared} : Rsm X A rest raw ts gs s ↔ ∀ s', Gu X raw ts s s' → GoS (model X.prog X.w) A (Wsh X A (Rsm X A) raw ts s' rest) gs s' := by
  cases rest <;> exact Iff.rfl
end
section
variable {X : Cx}
theorem OKX.base {s : Shared} (ok : X.Ok) (h : OKX X s) : ∀ b o, X.base.get? b = some o → s.heap.get? b = some o := fun b o e => h.keep b o (ok.bs b o e).1 (ok.nofr e) (ok.noex b o e)
theorem Rsm.kept {A : Around} {rest : List (List Int)} {raw : List Addr} {ts : Tps} {gs : GenState} {s s' : Shared} (r : Rsm X A rest raw ts gs s) (g : Gu X raw ts s s') : Rsm X A rest raw ts gs s' := (Rsm.iff X).mpr fun s2 g2 => (Rsm.iff X).mp r s2 (Gu.tr X g g2)
end
end Ev
namespace Ev
open PySem PySem.Spec PyProof.Rows L2 Slp
end Ev
namespace Ev
open PySem PySem.Spec PyProof.Rows L2 Slp
end Ev
namespace Ev
open PySem PySem.Spec PyProof.Rows L2 Slp
end Ev
namespace Ev
open PySem PySem.Spec PyProof.Rows L2 Slp
abbrev env0 (n : Int) : Env := [.fr (.int n), .no]
end Ev
namespace Ev
open PySem PySem.Spec PyProof.Rows L2 Slp
end Ev
namespace Ev
open PySem PySem.Spec PyProof.Rows L2 Slp
end Ev
namespace Ev
open PySem PySem.Spec PyProof.Rows L2 Slp
/-- the generator's object stands -/
structure GAt (X : Cx) (a g : Nat) : Prop where
  gen : X.s_0.heap.IsGen a g
  no : X.H_0 a = none
  nf : a ∉ X.fs
  nx : a ∉ X.ex
theorem GAt.at' {X : Cx} {a g : Nat} (x : GAt X a g) {pins : List (Addr × Obj)} {σ : L2.St} {H : Hp} {s : Shared} (I : Inv X pins σ H s) : s.heap.IsGen a g := by
  obtain ⟨o, nm, qn, e, r⟩ := x.gen
  exact ⟨o, nm, qn, I.base.keep a o e x.no x.nf x.nx, r⟩
end Ev
namespace Ev
open PySem PySem.Spec PyProof.Rows L2 Slp
end Ev
namespace Ev
open PySem PySem.Spec PyProof.Rows L2 Slp
end Ev
namespace Ev
open PySem PySem.Spec PyProof.Rows L2 Slp
end Ev
namespace Ev
open PySem PySem.Spec PyProof.Rows L2 Slp
end Ev
namespace Ev
open PySem PySem.Spec PyProof.Rows L2
end Ev
namespace Ev
open PySem PySem.Spec PyProof.Rows L2
section
variable {prog : Program} {w : World} {A : Around} {s : Shared}
/-- at a value: a row of these numbers -/
def RowAt (h : Heap) (v : Value) (ns : List Int) : Prop := ∃ a o its n, v = .ref a ∧ h.get? a = some o ∧ o.cls = .type "tuple" ∧ o.data = .seq its n ∧ Vals (ns.map V.int) its.toList
theorem RowAt.keeps {h h' : Heap} {v : Value} {ns : List Int} (p : RowAt h v ns) (k : ∀ b o, h.get? b = some o → o.cls = .type "tuple" → h'.get? b = some o) : RowAt h' v ns := by
  obtain ⟨a, o, its, n, e, ho, hc, hd, r⟩ := p
  exact ⟨a, o, its, n, e, k _ _ ho hc, hc, hd, r⟩
end
def TupN (K : PySem.W.Frag) (H : Hp) (x : V) (ns : List Int) : Prop := ∃ t, x = .ref t ∧ SqT K H t (ns.map V.int)
theorem TupN.inj {X : Cx} {pins : List (Addr × Obj)} {σ : L2.St} {H : Hp} {s : Shared} (I : Inv X pins σ H s) {x : V} {a b : List Int} (h : TupN X.K H x a) (h' : TupN X.K H x b) : a = b := by
  obtain ⟨t, rfl, h⟩ := h
  obtain ⟨t', e, h'⟩ := h'
  cases e
  have := I.tuple_inj h h'
  have inj : ∀ a b : List Int, a.map V.int = b.map V.int → a = b := fun a => by
    induction a with
    | nil => intro b e; cases b with | nil => rfl | cons y ys => cases e
    | cons x xs ih => intro b e; cases b with | nil => cases e | cons y ys => injection e with e1 e2; injection e1 with e1; rw [e1, ih ys e2]
  exact inj _ _ this
end Ev
namespace Ev
open PySem PySem.Spec PyProof.Rows L2
end Ev
namespace Ev
open PySem PySem.Spec PyProof.Rows L2 Slp
end Ev
namespace Ev
open PySem PySem.Spec PyProof.Rows L2
end Ev
namespace Ev
open PySem PySem.Spec PyProof.Rows L2
end Ev
namespace Ev
open PySem PySem.Spec PyProof.Rows L2
theorem sqT_upd {K : PySem.W.Frag} {H : Hp} {q t : Addr} {xs ys zs : List V} (hq : H q = some (.lst xs)) (h : SqT K H t zs) : SqT K (upd H q (.lst ys)) t zs := by
  have hne : ∀ o : HO, H t = some o → (∀ l, o ≠ .lst l) → t ≠ q := fun o e n z => by
    rw [z, hq] at e
    exact n xs (Option.some.inj e).symm
  rcases h with h | h
  · rcases h with h | ⟨u, h⟩
    · exact .inl (.inl (by rw [upd_ne (hne _ h fun _ z => nomatch z)]; exact h))
    · exact .inl (.inr ⟨u, by rw [upd_ne (hne _ h fun _ z => nomatch z)]; exact h⟩)
  · exact .inr h
section
variable {X : Cx} {pins : List (Addr × Obj)} {σ : L2.St} {q it t : Addr} {zs : List V} {A1 : Around} {Rs : Result → Shared → Prop} {res : Value}
theorem own_fill (hh : A1.in1.handled = none) (hqi : q ≠ it) (hz : zs.length ≤ sizeLine) :
    ∀ (m i : Nat) (H : Hp) (s : Shared), zs.length - i = m → i ≤ zs.length → Inv X pins σ H s → H q = some (.lst (zs.take i)) → SqT X.K H t zs → FpOk X pins H it → s.heap.IsTupleIter it t i →
      (∀ s', Inv X pins σ (upd H q (.lst zs)) s' → Rs (.ok (.ret res)) s') → codeAny (model X.prog X.w) A1 (.builtin "list.extend.loop" ⟨[.ref q, .ref it, res], []⟩) Rs s := by
  intro m
  induction m with
  | zero =>
    intro i H s hm hi I hq ht hf st hR
    obtain ⟨its, rv, p, hzz⟩ := I.tuple ht
    have hl := rv.length
    obtain ⟨f0, f1, f2, f3, f4, f5⟩ := hf
    refine codeAny_builtin PySem.F.entry_extend_loop ?_
    rw [Around.under_plainId PySem.F.plain_extend_loop _]
    show wpAny _ A1.in1 (pyNext (.ref it) >>= _) _ _ s
    refine wpAny_bind (wpAny_pyNext_tuple_end hh st (show s.heap.IsTuple t its.toArray from p) (by simp; omega) fun h' eb => ?_)
    have I1 : Inv X pins σ H { s with heap := h' } := I.turned (t' := s.toks) (fun b o hb e => eb b o hb e) f0 f1 f3 f4 f5
    refine wpAny_pure (hR _ ?_)
    have e : upd H q (.lst zs) = H := by
      funext b
      by_cases hb : b = q
      · rw [hb, upd_same, hq, List.take_of_length_le (by omega)]
      · rw [upd_ne hb]
    rw [e]
    exact I1
  | succ m ih =>
    intro i H s hm hi I hq ht hf st hR
    obtain ⟨its, rv, p, hzz⟩ := I.tuple ht
    have hlt : i < zs.length := by omega
    obtain ⟨u, hu, ru⟩ := rv.get (List.getElem?_eq_getElem hlt)
    obtain ⟨f0, f1, f2, f3, f4, f5⟩ := id hf
    refine codeAny_builtin PySem.F.entry_extend_loop ?_
    rw [Around.under_plainId PySem.F.plain_extend_loop _]
    show wpAny _ A1.in1 (pyNext (.ref it) >>= _) _ _ s
    refine wpAny_bind (wpAny_pyNext_tuple_item st (show s.heap.IsTuple t its.toArray from p) (x := u) (by simpa using hu) fun h' st' sb => ?_)
    have I1 : Inv X pins σ H { s with heap := h' } := I.turned (t' := s.toks) (fun b o hb e => (sb.2 b hb).trans e) f0 f1 f3 f4 f5
    obtain ⟨z, its2, k, r2, hl, e⟩ := I1.lstM hq
    show wpAny _ A1.in1 (updateSeq q (·.push u) >>= _) _ _ _
    have hlen : (zs.take i).length = i := by rw [List.length_take]; omega
    refine wpAny_bind (wpAny_updateSeq e rfl (wpAny_pure ⟨plainId_quiet PySem.F.plain_extend_loop _, ?_⟩) (by rw [List.size_toArray]; omega) (by show (its2.toArray.push u).size ≤ sizeLine + 1; rw [Array.size_push, List.size_toArray]; omega))
    have et : zs.take i ++ [zs[i]] = zs.take (i + 1) := by rw [List.take_add_one, List.getElem?_eq_getElem hlt]; rfl
    have I2 := I1.lset (f := (·.push u)) (its' := its2 ++ [u]) (ys := zs.take (i + 1)) (t' := s.toks) hq e (by simp) (by rw [← et]; exact r2.append (.cons ru .nil)) (by rw [List.length_take]; omega)
    refine ih (i + 1) (upd H q (.lst (zs.take (i + 1)))) _ (by omega) (by omega) I2 upd_same (sqT_upd hq ht) ⟨by rw [upd_ne (Ne.symm hqi)]; exact f0, f1, f2, f3, f4, f5⟩ (st'.at fun o e0 => ?_) fun s' h => ?_
    · exact (Heap.get?_update_other _ _ hqi).trans e0
    · refine hR s' ?_
      rw [upd_upd] at h
      exact h
end
end Ev
namespace Ev
open PySem PySem.Spec PyProof.Rows L2
section
variable {X : Cx} {pins : List (Addr × Obj)} {σ : L2.St} {q a t dx : Addr} {zs : List V} {A1 : Around} {Rs : Result → Shared → Prop} {res : Value} {k ki : Nat} {c : Str} {F : Fn} {H : Hp} {s : Shared} {S : Addr → Prop} {p : PV} {fs : List (Str × V)} {n : Int}
theorem env_at {A : Around} (sb : L2.Sub X k A) (I : Inv X pins σ H s) : Env0 X.prog X.w X.K X.mg X.base A X.stack s H := by
  have e := I.env0
  exact ⟨by rw [sb.fr]; exact e.frames, e.mod, e.bs, e.bsz, e.funs, e.frf, e.hok, e.bare⟩
theorem hint_own {A : Around} {Q : Bool → Shared → Prop} {E : Value → Shared → Prop} (sb : L2.Sub X k A.in1) (o : OpP X.prog X.w X.K X.mg X.base k c "__len__" (spG X.K 1 F)) (I : Inv X pins σ H s) (ha : H a = some (.ins (He.ga X.K c) dx fs))
    (al : ∀ s, S s → ∃ o, H s = some o) (rv : Rep X.K S H p (.ref a)) (e : callP F [p] = some (.int n)) (hn : 0 ≤ n ∧ n ≤ 1000000) (hQ : ∀ b s' H', Inv X pins σ H' s' → Same H H' → Q b s') :
    wpAny (model X.prog X.w) A (Builtin.List.listLengthHint (.ref a)) Q E s := by
  obtain ⟨f, fd, ps, hF, h1, h2, hb⟩ := o.ex
  obtain ⟨mA, J, _⟩ := ins_get I.hok ha
  obtain ⟨od, J, _⟩ := J.look
  obtain ⟨m', hFr⟩ := I.fr
  unfold Builtin.List.listLengthHint
  refine wpAny_bind (wpAny_bind (J.type.here ((PySem.W.looks_findIn I.kIn h1).here ?_)))
  refine PySem.W.KFB.if_not rfl ?_
  refine PySem.W.KFB.if_so rfl ?_
  refine wpAny_bind (wpAny_rule ?_)
  refine wpAny_bind (wpAny_attempt (PySem.W.len_K hFr I.ok.mod.kin J h1 h2 ?_))
  have r2 : Vals [V.ref a] [Value.ref a] := .cons rfl .nil
  have hsp : spG X.K 1 F [.ref a] H (fun v H' => v = .int n ∧ Same H H') L2.E0 := spG_frz al (reps1 rv) rfl e fun v H' s r => ⟨r, s⟩
  refine wpAny_call (codeAny_mono (hF.run A.in1 X.stack s H ⟨[.ref a], []⟩ [.ref a] [.ref a] _ L2.E0 sb.room (env_at sb I) (by
    have hl := hF.len _ _ _ _ hsp
    have := hb s [.ref a] I.kIn (by rw [List.append_nil]; exact hl)
    rw [List.append_nil] at this
    exact this) r2 hsp) fun r s' hq => ?_)
  cases r with
  | error e =>
    obtain ⟨_, _, _, _, _, _, _, _, _, _, _, _, hE⟩ := hq
    exact hE.elim
  | ok fl =>
    cases fl with
    | next => exact False.elim hq
    | brk => exact False.elim hq
    | cont => exact False.elim hq
    | ret u =>
      obtain ⟨v, H', I', rv', ev, sm⟩ := I.after hq
      subst ev
      obtain ⟨tk, rfl⟩ := rv'
      refine ⟨⟨hn.1, by omega⟩, ?_⟩
      show wpAny _ _ (asInt? (.int n _) >>= _) _ _ _
      refine wpAny_bind (wpAny_pure ?_)
      refine PySem.W.KFB.if_not ?_ (wpAny_pure (hQ _ _ H' (I'.tok _) sm))
      show decide (n.toNat > sizeLine) = false
      have : 1000000 ≤ sizeLine := by decide
      exact decide_eq_false (by omega)
theorem ext_own (hh : A1.in1.handled = none) (sb : L2.Sub X (max k ki + 1) A1.in1) (I0 : ItP X.prog X.w X.K X.mg X.base ki c) (o : OpP X.prog X.w X.K X.mg X.base k c "__len__" (spG X.K 1 F)) (I : Inv X pins σ H s) (hq : H q = some (.lst [])) (ha : H a = some (.ins (He.ga X.K c) dx fs))
    (hl : fs.lookup ("_vertices" : Str) = some (V.ref t)) (ht : SqT X.K H t zs) (hz : zs.length ≤ sizeLine) (al : ∀ s, S s → ∃ o, H s = some o) (rv : Rep X.K S H p (.ref a)) (e : callP F [p] = some (.int n)) (hn : 0 ≤ n ∧ n ≤ 1000000)
    (hR : ∀ H' s', Inv X pins σ H' s' → H' q = some (.lst zs) → (∀ b o, b ≠ q → H b = some o → H' b = some o) → Rs (.ok (.ret res)) s') :
    wpAny (model X.prog X.w) A1.in1 (Builtin.List.listExtendWith (.ref q) (.ref a) res)
      (fun fin s' => match fin with | .done f => Rs (.ok f) s' | .again c' => c'.quiet = true ∧ codeAny (model X.prog X.w) A1 c' Rs s') (fun e s' => Rs (.error e) s') s := by
  obtain ⟨f, fd, ps, hF, h1, h2, hb⟩ := I0.ex
  have hne : q ≠ a := ne_of hq ha (fun z => nomatch z)
  obtain ⟨mA, J, _⟩ := ins_get I.hok ha
  obtain ⟨od, J, _⟩ := J.look
  obtain ⟨m0, hFr⟩ := I.fr
  unfold Builtin.List.listExtendWith
  refine wpAny_bind (J.type.here ?_)
  have x1 : Builtin.List.listSameRef (.ref q) (.ref a) = false := by simp [Builtin.List.listSameRef, hne]
  have x2 : (Value.ref (He.ga X.K c) == Value.type "list") = false := rfl
  have x3 : (Value.ref (He.ga X.K c) == Value.type "tuple") = false := rfl
  simp only [x1, x2, x3, Bool.or_false, Bool.false_eq_true, if_false]
  refine wpAny_bind (PySem.W.owit_iter hFr I.ok.mod.kin J h1 h2 ?_)
  have hsp : spIt X.K c s.heap.objs.size [.ref a] H (fun v H' => ∃ it, v = .ref it ∧ H it = none ∧ s.heap.objs.size ≤ it ∧ H' = upd H it (ItOT t it)) L2.E0 := ⟨a, dx, fs, t, zs, rfl, ha, hl, ht, fun it h1 h2 => ⟨it, rfl, h1, h2, rfl⟩⟩
  have r2 : Vals [V.ref a] [Value.ref a] := .cons rfl .nil
  refine wpAny_call (codeAny_mono (hF.run A1.in1 X.stack s H ⟨[.ref a], []⟩ [.ref a] [.ref a] _ L2.E0 (sb.mono (by omega)).room (env_at sb I) (by
    have hlen := hF.len _ _ _ _ _ hsp
    have := hb s [.ref a] I.kIn (by rw [List.append_nil]; exact hlen)
    rw [List.append_nil] at this
    exact this) r2 hsp) fun r s' hq' => ?_)
  cases r with
  | error e =>
    obtain ⟨_, _, _, _, _, _, _, _, _, _, _, _, hE⟩ := hq'
    exact hE.elim
  | ok fl =>
    cases fl with
    | next => exact False.elim hq'
    | brk => exact False.elim hq'
    | cont => exact False.elim hq'
    | ret u =>
      obtain ⟨v, H1, I2, rv2, it, rfl, hn0, hge, rfl⟩ := I.after hq'
      cases rv2
      have sm1 : Same H (upd H it (ItOT t it)) := fun b ob eb => by rw [upd_ne (fun z => by rw [z, hn0] at eb; cases eb)]; exact eb
      have eo : s'.heap.get? it = some (itoT t) := (I2.hok it _ upd_same).1
      have hT : s'.TypeIs (.ref it) "tuple_iterator" := ⟨_, eo, rfl⟩
      unfold PySem.W.OwitIt
      refine wpAny_specialOf (name := Str.ofString "__next__") hT PySem.F.slot_tuple_iterator_next.lookup ?_
      refine wpAny_bind (wpAny_holding (hint_own (S := S) (p := p) (n := n) ((L2.Sub.in1 sb).mono (by omega)) o I2 (sm1 _ _ ha) (fun b hb => (al b hb).elim fun ob eb => ⟨ob, sm1 _ _ eb⟩) (rv.keep (Keep.of sm1)) e hn fun b s2 H2 I3 sm2 => ?_))
      have hit : H2 it = some (ItOT t it) := sm2 _ _ upd_same
      have eo2 : s2.heap.get? it = some (itoT t) := (I3.hok it _ hit).1
      have hqi : q ≠ it := fun z => by rw [z, hn0] at hq; cases hq
      have I4 := ItX.inv_drop I3 (a := it) (φ := fun h => h.get? it = some (itoT t)) hit
      have fp := ItX.inv_fp I3 (a := it) hit (Nat.le_trans I.sz hge)
      have up : ∀ b ob, H b = some ob → ItX.dropH H2 it b = some ob := fun b ob eb => by
        have hbi : b ≠ it := fun z => by rw [z, hn0] at eb; cases eb
        rw [ItX.dropH_ne hbi]
        exact sm2 _ _ (sm1 _ _ eb)
      have sqt : SqT X.K (ItX.dropH H2 it) t zs := ht.imp (fun h => h.imp (fun h => up _ _ h) fun ⟨u, h⟩ => ⟨u, up _ _ h⟩) id
      have hq4 := up _ _ hq
      have fin : ∀ s', Inv X pins σ (upd (ItX.dropH H2 it) q (.lst zs)) s' → Rs (.ok (.ret res)) s' := fun s' I' => hR _ s' I' upd_same fun b ob hb eb => by rw [upd_ne hb]; exact up _ _ eb
      refine wpAny_ite_split (fun _ => ?_) (fun _ => wpAny_pure ⟨plainId_quiet PySem.F.plain_extend_loop _, own_fill hh hqi hz _ 0 _ s2 rfl (Nat.zero_le _) I4 (by rw [List.take_zero]; exact hq4) sqt fp ⟨_, eo2, rfl, rfl⟩ fin⟩)
      refine wpAny_bind (wpAny_rule ?_)
      obtain ⟨z, its, kk, r3, hl3, e3⟩ := I4.lstM hq4
      cases r3
      refine wpAny_bind ?_
      show wpAny _ _ (updateSeq q (·.push .none) >>= fun _ => updateSeq q (·.pop)) _ _ _
      refine wpAny_bind (wpAny_updateSeq e3 rfl ?_)
      have I5 := I4.lset (f := (·.push Value.none)) (its' := [Value.none]) (ys := [.non]) (t' := s2.toks) hq4 e3 (by simp) (.cons rfl .nil) (by rw [List.length_singleton, sizeLine_eq]; decide)
      obtain ⟨z4, its4, k4, r4, hl4, e4⟩ := I5.lstM upd_same
      obtain ⟨u4, rfl, ru4⟩ := r4.one
      refine wpAny_updateSeq e4 rfl ?_ (by show 1 ≤ sizeLine; rw [sizeLine_eq]; decide) (by show 0 ≤ sizeLine + 1; exact Nat.zero_le _)
      have I6 := I5.lset (f := (·.pop)) (its := [u4]) (its' := []) (ys := []) (t' := s2.toks) upd_same e4 (by rfl) .nil (Nat.zero_le _)
      rw [upd_upd] at I6
      have hH : upd (ItX.dropH H2 it) q (.lst []) = ItX.dropH H2 it := by
        funext b
        by_cases hb : b = q
        · rw [hb, upd_same, hq4]
        · rw [upd_ne hb]
      rw [hH] at I6
      refine wpAny_pure ⟨plainId_quiet PySem.F.plain_extend_loop _, own_fill hh hqi hz _ 0 _ _ rfl (Nat.zero_le _) I6 (by rw [List.take_zero]; exact hq4) sqt fp ⟨itoT t, ?_, rfl, rfl⟩ fin⟩
      exact (Heap.get?_update_other _ _ hqi).trans ((Heap.get?_update_other _ _ hqi).trans eo2)
end
end Ev
namespace Ev
open PySem PySem.Spec PyProof.Rows L2
/-- tuple(o): what o walks -/
def bTupOwn (c : Str) (G : Fn) : List PV → Option PV
  | [p] => match pItems c p, callP G [p] with
    | some xs, some (.int n) => if decide (0 ≤ n ∧ n ≤ 1000000 ∧ xs.length ≤ 1000000) = true then some (.tup xs) else none
    | _, _ => none
  | _ => none
section
variable {X : Cx} {pins : List (Addr × Obj)} {σ : L2.St} {a t dx : Addr} {zs : List V} {k ki : Nat} {c : Str} {G : Fn} {H : Hp} {s : Shared} {S : Addr → Prop} {p : PV} {fs : List (Str × V)} {n : Int}
theorem collect_own {A : Around} {Q : List Value → Shared → Prop} {E : Value → Shared → Prop} (hh : A.in1.handled = none) (sb : L2.Sub X (max k ki + 1) A.in1) (I0 : ItP X.prog X.w X.K X.mg X.base ki c) (o : OpP X.prog X.w X.K X.mg X.base k c "__len__" (spG X.K 1 G)) (I : Inv X pins σ H s) (ha : H a = some (.ins (He.ga X.K c) dx fs))
    (hl : fs.lookup ("_vertices" : Str) = some (V.ref t)) (ht : SqT X.K H t zs) (hz : zs.length ≤ sizeLine) (al : ∀ s, S s → ∃ o, H s = some o) (rv : Rep X.K S H p (.ref a)) (e : callP G [p] = some (.int n)) (hn : 0 ≤ n ∧ n ≤ 1000000)
    (hQ : ∀ H' s' its, Inv X pins σ H' s' → Same H H' → Vals zs its → Q its s') : wpAny (model X.prog X.w) A (collect (.ref a)) Q E s := by
  unfold collect
  refine wpAny_bind (wpAny_runValue (codeAny_builtin PySem.F.entry_proto_collect ?_))
  rw [Around.under_plainId PySem.F.plain_proto_collect _]
  show wpAny _ A.in1 (newList [] >>= fun l => again (.builtin "list.__iadd__" ⟨[l, .ref a], []⟩)) _ _ s
  refine wpAny_bind (wpAny_newObj_type ?_)
  refine wpAny_pure ⟨plainId_quiet PySem.F.plain_list_iadd _, codeAny_builtin PySem.F.entry_list_iadd ?_⟩
  rw [Around.under_plainId PySem.F.plain_list_iadd _]
  show wpAny _ A.in1 (Builtin.List.listExtendWith (.ref s.heap.objs.size) (.ref a) (.ref s.heap.objs.size)) _ _ _
  have fr : H s.heap.objs.size = none := I.hok.fresh (Nat.le_refl _)
  have sm : Same H (upd H s.heap.objs.size (.lst [])) := fun b ob eb => by rw [upd_ne (fun z => by rw [z, fr] at eb; cases eb)]; exact eb
  have I1 : Inv X pins σ (upd H s.heap.objs.size (.lst [])) { s with heap := s.heap.push { cls := .type "list", data := .seq ([] : List Value).toArray } } := I.lnew (its := []) (t' := s.toks) .nil (Nat.zero_le _)
  refine wpAny_mono (ext_own (Rs := fun rr s' => rr = .ok (.ret (.ref s.heap.objs.size)) ∧ ∃ H', Inv X pins σ H' s' ∧ H' s.heap.objs.size = some (.lst zs) ∧ Same H H') hh sb I0 o I1 upd_same (sm _ _ ha) hl (ht.imp (fun h => h.imp (fun h => sm _ _ h) fun ⟨u, h⟩ => ⟨u, sm _ _ h⟩) id) hz (fun b hb => (al b hb).elim fun ob eb => ⟨ob, sm _ _ eb⟩) (rv.keep (Keep.of sm)) e hn
    fun H' s' I' hq' kp => ⟨rfl, H', I', hq', fun b ob eb => kp b ob (fun z => by rw [z, fr] at eb; cases eb) (sm _ _ eb)⟩) (fun fin s' h => ?_) (fun e s' h => ?_)
  · cases fin with
    | done f =>
      obtain ⟨e, H', I', hq', sm'⟩ := h
      cases e
      obtain ⟨z, its, kk, r3, hl3, e3⟩ := I'.lstM hq'
      show wpAny _ A (load s.heap.objs.size >>= _) _ _ _
      exact wpAny_bind (wpAny_load e3 (wpAny_pure (hQ H' s' its I' sm' r3)))
    | again c' =>
      refine ⟨h.1, codeAny_mono h.2 fun rr s'' hr' => ?_⟩
      obtain ⟨rfl, H', I', hq', sm'⟩ := hr'
      obtain ⟨z, its, kk, r3, hl3, e3⟩ := I'.lstM hq'
      show wpAny _ A (load s.heap.objs.size >>= _) _ _ _
      exact wpAny_bind (wpAny_load e3 (wpAny_pure (hQ H' s'' its I' sm' r3)))
  · exact absurd h.1 (by simp)
theorem code_tuple_own {A : Around} {Q₁ : Value → Shared → Prop} {E : Value → Shared → Prop} (hh : A.in1.in1.handled = none) (sb : L2.Sub X (max k ki + 1) A.in1.in1) (I0 : ItP X.prog X.w X.K X.mg X.base ki c) (o : OpP X.prog X.w X.K X.mg X.base k c "__len__" (spG X.K 1 G)) (I : Inv X pins σ H s) (ha : H a = some (.ins (He.ga X.K c) dx fs))
    (hl : fs.lookup ("_vertices" : Str) = some (V.ref t)) (ht : SqT X.K H t zs) (hz : zs.length ≤ 1000000) (al : ∀ s, S s → ∃ o, H s = some o) (rv : Rep X.K S H p (.ref a)) (e : callP G [p] = some (.int n)) (hn : 0 ≤ n ∧ n ≤ 1000000)
    (hQ : ∀ H' s' l, Inv X pins σ (upd H' l (.tup zs)) s' → H' l = none → Same H H' → s'.TypeIs (.ref l) "tuple" → Q₁ (.ref l) s') :
    codeAny (model X.prog X.w) A (.call (.builtin "tuple.__new__") ⟨[.type "tuple", .ref a], []⟩) (wants Q₁ E) s := by
  have hsz : 1000000 ≤ sizeLine := by decide
  obtain ⟨mA, J, _⟩ := ins_get I.hok ha
  obtain ⟨od, J, _⟩ := J.look
  refine codeAny_of_tree ?_
  show wpAny _ A.in1 (do checkBuiltinCall "tuple.__new__" ⟨[.type "tuple", .ref a], []⟩; again (.builtin "tuple.__new__" ⟨[.type "tuple", .ref a], []⟩)) _ _ s
  refine wpAny_bind (wpAny_of_eq (PySem.F.newCall_tuple_1 _) (wpAny_pure ⟨plainId_quiet PySem.F.plain_tuple_new _, codeAny_builtin PySem.F.entry_tuple_new ?_⟩))
  rw [Around.under_plainId PySem.F.plain_tuple_new _]
  have hsub := sub_tuple_self
  have hinit := init_tuple_lookup
  have hmh := madeHere_tuple
  wp_walk using J.type.here, collect_own (A := A.in1) hh sb I0 o I ha hl ht (Nat.le_trans hz hsz) al rv e hn
  intro H' s' its I' sm r
  refine wpAny_bind (wpAny_pure ?_)
  show wpAny _ _ (Builtin.Tuple.tupleExact its.toArray >>= fun v => ret v) _ _ _
  unfold Builtin.Tuple.tupleExact
  refine wpAny_bind (wpAny_newObj_type ?_ (by show its.toArray.size ≤ sizeLine; rw [List.size_toArray, ← r.length]; omega))
  refine wpAny_pure ?_
  have I1 : Inv X pins σ (upd H' s'.heap.objs.size (.tup zs)) { s' with heap := s'.heap.push { cls := .type "tuple", data := .seq its.toArray } } :=
    I'.laid (t' := s'.toks) (fun b o e => Heap.get?_push_of_some _ e) (Nat.le_refl _) (show ObjOk X.prog X.w _ _ _ (.tup zs) from ⟨by omega, its, r, IsTup.new _ _⟩)
  exact hQ H' _ s'.heap.objs.size I1 (I'.hok.fresh (Nat.le_refl _)) sm ⟨_, Heap.get?_push_size _ rfl, rfl⟩
end
/-- what tuple(o) and list(o) want -/
theorem own_parts {K : PySem.W.Frag} {S : Addr → Prop} {H : Hp} {c : Str} {p : PV} {v : V} {xs : List PV} (e : pItems c p = some xs) (r : Rep K S H p v) :
    ∃ a dx fs t zs, v = .ref a ∧ H a = some (.ins (He.ga K c) dx fs) ∧ fs.lookup ("_vertices" : Str) = some (V.ref t) ∧ SqT K H t zs ∧ Reps K S H xs zs := by
  cases p <;> try (cases e; done)
  rename_i c' fs
  unfold pItems at e
  dsimp only at e
  split at e
  · rename_i hc
    subst hc
    split at e
    · rename_i ys hl
      cases e
      obtain ⟨a, dx, vfs, rfl, na, ha, rf⟩ := r
      obtain ⟨w, l1, l2⟩ := rf.look hl
      obtain ⟨t, vs, rfl, ht, rt⟩ := l2
      exact ⟨a, dx, vfs, t, vs, rfl, ha, l1, sqT_of ht, rt⟩
    · cases e
  · cases e
section
variable {X : Cx} {k ki j : Nat} {c : Str} {G : Fn}
theorem pc_tupOwn (hc : X.calm = true) (I0 : ItP X.prog X.w X.K X.mg X.base ki c) (o : OpP X.prog X.w X.K X.mg X.base k c "__len__" (spG X.K 1 G)) (hr : Room j X.A) (hk : max k ki + 4 ≤ j) : PCall X (.type "tuple") (bTupOwn c G) := by
  rintro pins s σ H vs us Q I r ⟨S, ps', z, al, sm, r1, e, kk⟩
  unfold bTupOwn at e
  split at e
  · rename_i p
    split at e
    · rename_i xs n e1 e2
      split at e
      · rename_i hm
        cases e
        have hm := of_decide_eq_true hm
        obtain ⟨v, rfl, rv⟩ := one_rep r1
        obtain ⟨a, dx, fs, t, zs, rfl, ha, hl, ht, rz⟩ := own_parts e1 rv
        obtain ⟨u, rfl, ru⟩ := vals1 r
        cases ru
        have sb : L2.Sub X (max k ki + 1) X.A.in1.in1.in1 := L2.Sub.in1 (L2.Sub.in1 (L2.Sub.in1 (⟨hr.mono hk, rfl⟩ : L2.Sub X (max k ki + 4) X.A)))
        have hh : X.A.in1.in1.in1.handled = none := I.ok.hd hc
        refine callType_codes (Q₁ := fun obj s₁ => s₁.TypeIs obj "tuple" ∧ EP X pins σ Q obj s₁) PySem.F.called_tuple (PySem.F.typeCall_tuple_1 _) PySem.F.entry_object_init
          (code_tuple_own (A := X.A.in1) hh sb I0 o I ha hl ht (by rw [← rz.len]; exact hm.2.2) al rv e2 ⟨hm.1, hm.2.1⟩ fun H' s' l I' hn sm' hT => ⟨hT, .ref l, _, I', rfl, kk _ _ (fun b ob eb => by rw [upd_ne (fun z => by rw [← z, sm' _ _ eb] at hn; cases hn)]; exact sm' _ _ eb) (rep_new_tup (fun b hb => (al b hb).elim fun ob eb => ⟨ob, sm' _ _ eb⟩) hn (rz.keep (Keep.of sm')))⟩) fun obj s₁ h₁ => ?_
        exact ⟨h₁.1, PySem.F.args_object_init_2 obj _, object_init_meets PySem.F.called_tuple.init.lookup PySem.F.called_tuple.made (by decide) X.prog X.w X.A.in1 _ s₁ ⟨h₁.1, rfl, h₁.2⟩⟩
      · cases e
    · cases e
  · cases e
end
end Ev
namespace Ev
open PySem PySem.Spec PyProof.Rows L2
end Ev
namespace Ev
open PySem PySem.Spec PyProof.Rows L2
end Ev
namespace Ev
open PySem PySem.Spec PyProof.Rows L2
theorem sqT_same {K : PySem.W.Frag} {H H' : Hp} {a : Addr} {vs : List V} (s : Same H H') (h : SqT K H a vs) : SqT K H' a vs := h.imp (fun h => h.imp (fun h => s _ _ h) fun ⟨o, h⟩ => ⟨o, s _ _ h⟩) id
def spRowsG (K : PySem.W.Frag) : Sp := fun vs H Q _ => ∃ (n : Nat) (e : Addr) (xs : List V) (ps : List (Int × Int)), vs = [.int (n : Int), .ref e] ∧ n ≤ 24 ∧ SqT K H e xs ∧ xs.length = ps.length ∧ (∀ (i : Nat) (x : V), xs[i]? = some x → ∃ p, ps[i]? = some p ∧ Tup2 K H x p) ∧ ps.length ≤ 300 ∧ (∀ q ∈ ps, 0 ≤ q.1 ∧ q.1 < q.2 ∧ q.2 < n) ∧
  ∀ H' r rs, Same H H' → H r = none → H' r = some (.tup rs) → rs.length = n → (∀ (i : Nat) (x : V), rs[i]? = some x → ∃ t, x = .ref t ∧ H t = none ∧ H' t = some (.tup ((nbr ps (i : Int)).map V.int))) → Q (.ref r) H'
theorem reps_get {K : PySem.W.Frag} {S : Addr → Prop} {H : Hp} : ∀ {ps : List PV} {vs : List V}, ps.length = vs.length → (∀ (i : Nat) (p : PV) (v : V), ps[i]? = some p → vs[i]? = some v → Rep K S H p v) → Reps K S H ps vs
  | [], [], _, _ => rfl
  | [], _ :: _, h, _ => by simp at h
  | _ :: _, [], h, _ => by simp at h
  | p :: ps, v :: vs, h, f => ⟨v, vs, rfl, f 0 p v rfl rfl, reps_get (by simpa using h) fun i q u h1 h2 => f (i + 1) q u (by simpa using h1) (by simpa using h2)⟩
def rowsP (n : Nat) (qs : List (Int × Int)) : PV := .tup ((List.range n).map fun (i : Nat) => .tup ((nbr qs (i : Int)).map .int))
def F_neighbor_rows : Fn := fun ρ => match ρ with
  | [.fr (.int n), .fr (.tup ps)] => (match prsOf ps with
    | some qs => if decide (0 ≤ n) && decide (n ≤ 24) && decide (qs.length ≤ 300) && qs.all (fun q => decide (0 ≤ q.1) && decide (q.1 < q.2) && decide (q.2 < n)) then .ok (.fr (rowsP n.toNat qs), [.no, .no]) else .bad
    | none => .bad)
  | _ => .bad
def L_neighbor_rows : Nat := 1
theorem rowsF_inv {ρ : Env} : F_neighbor_rows ρ = .bad ∨ ∃ (n : Int) (qs : List (Int × Int)), ρ = [.fr (.int n), .fr (.tup (qs.map prP))] ∧ 0 ≤ n ∧ n ≤ 24 ∧ qs.length ≤ 300 ∧ (∀ q ∈ qs, 0 ≤ q.1 ∧ q.1 < q.2 ∧ q.2 < n) ∧ F_neighbor_rows ρ = .ok (.fr (rowsP n.toNat qs), [.no, .no]) := by
  unfold F_neighbor_rows
  split
  · rename_i n ps
    split
    · rename_i qs hq
      split
      · rename_i hc
        rw [Bool.and_eq_true, Bool.and_eq_true, Bool.and_eq_true, decide_eq_true_eq, decide_eq_true_eq, decide_eq_true_eq, List.all_eq_true] at hc
        refine .inr ⟨n, qs, by rw [prsOf_eq hq], hc.1.1.1, hc.1.1.2, hc.1.2, fun q hm => ?_, rfl⟩
        have := hc.2 q hm
        rw [Bool.and_eq_true, Bool.and_eq_true, decide_eq_true_eq, decide_eq_true_eq, decide_eq_true_eq] at this
        exact ⟨this.1.1, this.1.2, this.2⟩
      · exact .inl rfl
    · exact .inl rfl
  · exact .inl rfl
section
variable {P : Program} {w : World} {K : PySem.W.Frag} {mg : Str → Option Value} {base : Heap} {C : Addr}
theorem ok_rowsG {f : Addr} {fd : FuncData} (F : Fun K "neighbor_rows" "neighbor_rows" s_neighbor_rows f fd) (B : B0 mg) : FnOk P w K mg base (L2.CX P w) 1 f fd ["size", "edges"] (spRowsG K) := by
  refine F.okX scs_neighbor_rows (fun vs H Q E h => ?_) (fun cdv A outer s H vs Q E hr h => ?_)
  · obtain ⟨n, e, xs, ps, rfl, _⟩ := h
    rfl
  · obtain ⟨n, e, xs, ps, rfl, hn, he, hxl, hP, hpl, hbd, q⟩ := h
    refine ⟨_, pss_cons (ps_setLc (i := 2) (own := [("_", 5)]) (g := gName 5) (tt := tYes) rfl scs_neighbor_rows.nd rfl rfl (sw_true rfl rfl rfl (by decide +kernel)) (pi_range1 rfl B.range (pa_cons (pv 0) pa_nil))
        (blkOk_by (N := Ns_neighbor_rows) (sc := defScope s_neighbor_rows) (by decide +kernel)) (fun _ _ _ _ _ => pg_name (i := 5) scs_neighbor_rows.nd rfl (Or.inl rfl)) (fun _ _ _ _ _ => pts_nil) (fun _ _ _ _ _ => pe_lst pa_nil))
      (pss_cons (ps_for (passes_of rfl) rfl (pi_tup (pv 1)) (pg_tup rfl (pgs_cons (pg_name (i := 3) scs_neighbor_rows.nd rfl (Or.inl rfl)) (pgs_cons (pg_name (i := 4) scs_neighbor_rows.nd rfl (Or.inl rfl)) pgs_nil)))
        (pss_cons (ps_expr (pe_bm PySem.F.plainAttrs_list PySem.F.slot_list_append PySem.F.type_list_append mt_append (pe_ix ix_list (pv 2) (pv 3) (fun _ _ => rfl)) (pa_cons (pv 4) pa_nil)))
        (pss_one (ps_expr (pe_bm PySem.F.plainAttrs_list PySem.F.slot_list_append PySem.F.type_list_append mt_append (pe_ix ix_list (pv 2) (pv 4) (fun _ _ => rfl)) (pa_cons (pv 3) pa_nil))))))
      (pss_one (ps_ret (pe_callTy call_tuple_of (by rfl) B.tuple (by decide +kernel) (pa_cons (pe_lc (own := [("row", 6)]) (g := gName 6) (tt := tYes) (te := tCB (rTupOf K) (tCons (tVar 6) tNil)) rfl scs_neighbor_rows.nd (pi_list (pv 2))
        (blkOk_by (N := Ns_neighbor_rows) (sc := defScope s_neighbor_rows) (by decide +kernel)) (fun _ _ _ _ _ => pg_name (i := 6) scs_neighbor_rows.nd rfl (Or.inl rfl)) (fun _ _ _ _ _ => pts_nil)
        (fun _ _ _ _ _ => by exact pe_callTy call_tuple_of (by rfl) B.tuple (by decide +kernel) (pa_cons (pv 6) pa_nil))) pa_nil))))), ?_⟩
    refine ⟨_, rfl, (n : Int), rfl, by omega, by omega, fun D hD => lc_range (lo := 0) (n := ((n : Nat) : Int).toNat) (fun i H' => Same H H' ∧ ∃ ls, ls.length = i ∧ RowsF H H' D ls (fun _ => [])) ⟨same_new hD, [], rfl, upd_same, .nil, by simp, by simp, by simp⟩ ?_ ?_⟩
    · rintro i H2 hi ⟨s2, ls, hl, r⟩
      refine ⟨rfl, tYes_i ?_⟩
      refine ⟨Nat.zero_le _, fun l hl0 => ?_⟩
      have sl := same_new (o := .lst []) hl0
      refine ⟨ls.map V.ref, sl _ _ r.top, ?_, ?_, ls ++ [l], ?_, ?_⟩
      · rw [List.length_map, hl]; exact small1000 (by omega)
      · exact fun c o e => by rw [upd_ne (ne_of_none e hD)]; exact sl _ _ (s2 _ _ e)
      · rw [List.length_append, hl]; rfl
      · have hDl : D ≠ l := ne_of_none r.top hl0
        have hln : l ∉ ls := fun hm => by
          obtain ⟨j, hj⟩ := List.getElem?_of_mem hm
          have := r.row j l hj
          rw [hl0] at this
          cases this
        refine ⟨by rw [upd_same, List.map_append]; rfl, ?_, ?_, ?_, ?_⟩
        · rw [List.nodup_append]
          exact ⟨r.nd, by simp, fun a ha b hb => by
            rw [List.mem_singleton.mp hb]
            exact fun z => hln (z ▸ ha)⟩
        · intro hm
          rcases List.mem_append.mp hm with hm | hm
          · exact r.nD hm
          · exact hDl (List.mem_singleton.mp hm)
        · intro m hm
          rcases List.mem_append.mp hm with hm | hm
          · exact r.new m hm
          · rw [List.mem_singleton.mp hm]; exact s2.free hl0
        · intro j m hj
          have hm : m ∈ ls ++ [l] := List.mem_of_getElem? hj
          have hmD : m ≠ D := fun z => by
            rcases List.mem_append.mp hm with hm | hm
            · exact r.nD (z ▸ hm)
            · exact hDl (z.symm.trans (List.mem_singleton.mp hm))
          rw [upd_ne hmD]
          rcases List.mem_append.mp hm with hm | hm
          · obtain ⟨j2, hj2⟩ := List.getElem?_of_mem hm
            exact sl _ _ (r.row j2 m hj2)
          · rw [List.mem_singleton.mp hm]; exact upd_same
    · rintro H1 ⟨s1, ls, hl, r⟩
      rw [Int.toNat_natCast] at hl
      have he1 := sqT_same s1 he
      refine ⟨.ref e, rfl, e, rfl, ⟨_, he1⟩, for_tup (K := K) (a := e) (xs := xs) (fun i σ H' => Same H H' ∧ RowsF H H' D ls (fun j => nbr (ps.take i) (j : Int)) ∧ ∃ y3 y4, σ = [some (.int (n : Int)), some (.ref e), some (.ref D), y3, y4, none, none]) ⟨s1, r, none, none, rfl⟩
        (fun i σ H' _ h => sqT_same h.1 he) ?_ ?_⟩
      · rintro i x σ H2 hx ⟨s2, r2, y3, y4, rfl⟩
        obtain ⟨p, hp, t, rfl, ht0⟩ := hP _ _ hx
        have ht := sqT_same s2 ht0
        have hb := hbd p (List.mem_of_getElem? hp)
        obtain ⟨a, ea⟩ : ∃ a : Nat, p.1 = a := ⟨p.1.toNat, by omega⟩
        obtain ⟨b, eb⟩ : ∃ b : Nat, p.2 = b := ⟨p.2.toNat, by omega⟩
        have ha : a < ls.length := by omega
        have hb2 : b < ls.length := by omega
        have ga : (ls.map V.ref)[a]? = some (.ref ls[a]) := by rw [List.getElem?_map, List.getElem?_eq_getElem ha]; rfl
        have gb : (ls.map V.ref)[b]? = some (.ref ls[b]) := by rw [List.getElem?_map, List.getElem?_eq_getElem hb2]; rfl
        refine ⟨t, _, rfl, ht, rfl, _, _, rfl, _, _, rfl, rfl, ?_⟩
        have h1 := r2.row a _ (List.getElem?_eq_getElem ha)
        have hsz : ∀ j : Nat, ((nbr (ps.take i) (j : Int)).map V.int).length < sizeLine := fun j => by
          rw [List.length_map]
          have := nbr_len (j : Int) (ps.take i)
          rw [List.length_take] at this
          exact small1000 (by omega)
        refine ⟨_, rfl, _, rfl, D, _, p.1, .ref ls[a], rfl, rfl, .inl (.inl r2.top), (by rw [ea]; exact atI_nat ga), .inl ⟨rfl, _, .inl (.inl h1)⟩, _, rfl, _, _, _, rfl, rfl, h1, hsz a, ?_⟩
        have r3 := r2.put (List.getElem?_eq_getElem ha) (nbr (ps.take i) (a : Int) ++ [p.2])
        have s3 := r2.keep0 s2 (List.getElem?_eq_getElem ha) (.lst ((nbr (ps.take i) (a : Int) ++ [p.2]).map V.int))
        have e3 : (nbr (ps.take i) (a : Int)).map V.int ++ [V.int p.2] = (nbr (ps.take i) (a : Int) ++ [p.2]).map V.int := by rw [List.map_append]; rfl
        rw [e3]
        generalize upd H2 ls[a] (.lst ((nbr (ps.take i) (a : Int) ++ [p.2]).map V.int)) = H3 at r3 s3 ⊢
        have hab : b ≠ a := by omega
        have h2 := r3.row b _ (List.getElem?_eq_getElem hb2)
        rw [if_neg hab] at h2
        refine ⟨_, rfl, _, rfl, D, _, p.2, .ref ls[b], rfl, rfl, .inl (.inl r3.top), (by rw [eb]; exact atI_nat gb), .inl ⟨rfl, _, .inl (.inl h2)⟩, _, rfl, _, _, _, rfl, rfl, h2, hsz b, ?_⟩
        have r4 := r3.put (List.getElem?_eq_getElem hb2) (nbr (ps.take i) (b : Int) ++ [p.1])
        have s4 := r3.keep0 s3 (List.getElem?_eq_getElem hb2) (.lst ((nbr (ps.take i) (b : Int) ++ [p.1]).map V.int))
        have e4 : (nbr (ps.take i) (b : Int)).map V.int ++ [V.int p.1] = (nbr (ps.take i) (b : Int) ++ [p.1]).map V.int := by rw [List.map_append]; rfl
        rw [e4]
        refine ⟨s4, ?_, _, _, rfl⟩
        have ef : (fun j : Nat => if j = b then nbr (ps.take i) (b : Int) ++ [p.1] else if j = a then nbr (ps.take i) (a : Int) ++ [p.2] else nbr (ps.take i) (j : Int)) = fun j : Nat => nbr (ps.take (i + 1)) (j : Int) := by
          funext j
          rw [List.take_add_one, hp]
          show _ = nbr (ps.take i ++ [p]) (j : Int)
          rw [nbr_snoc]
          by_cases h1 : j = b
          · subst h1
            rw [if_pos rfl, if_neg (by omega), if_pos (by omega)]
            rfl
          · rw [if_neg h1]
            by_cases h2 : j = a
            · subst h2
              rw [if_pos rfl, if_pos (by omega), if_neg (by omega)]
              rfl
            · rw [if_neg h2, if_neg (by omega), if_neg (by omega)]
              simp
        rw [← ef]
        exact r4
      · rintro σ H2 ⟨s2, r2, y3, y4, rfl⟩
        have ett : ps.take xs.length = ps := List.take_of_length_le (by rw [hxl]; exact Nat.le_refl _)
        rw [ett] at r2
        refine ⟨_, rfl, D, rfl, ⟨_, .inl (.inl r2.top)⟩, fun D2 hD2 => lc_list (K := K) (a := D) (xs := ls.map V.ref) (fun i H' => Same H2 H' ∧ ∃ rs, H' D2 = some (.lst rs) ∧ rs.length = i ∧ ∀ (j : Nat) (x : V), rs[j]? = some x → ∃ t, x = .ref t ∧ H t = none ∧ H' t = some (.tup ((nbr ps (j : Int)).map V.int)))
          ⟨same_new hD2, [], upd_same, rfl, by simp⟩ (fun i H' _ h => .inl (.inl (h.1 _ _ r2.top))) ?_ ?_⟩
        · rintro i x H3 hx ⟨s3, rs, hD3, hl3, hr3⟩
          rw [List.getElem?_map] at hx
          cases el : ls[i]? with
          | none => rw [el] at hx; cases hx
          | some l =>
            rw [el] at hx
            cases hx
            refine ⟨rfl, tYes_i ?_⟩
            refine ⟨_, rfl, l, _, rfl, .inl ⟨.inl (.inl (s3 _ _ (r2.row i l el))), fun t ht => ?_⟩⟩
            have st := same_new (o := .tup ((nbr ps (i : Int)).map V.int)) ht
            have hi3 : i < ls.length := (List.getElem?_eq_some_iff.mp el).1
            refine ⟨rs, st _ _ hD3, small1000 (by omega), fun c o e => by rw [upd_ne (ne_of_none e hD2)]; exact st _ _ (s3 _ _ e), rs ++ [.ref t], upd_same, by rw [List.length_append, hl3]; rfl, fun j y hy => ?_⟩
            have kp : KP D2 H3 (upd (upd H3 t (.tup ((nbr ps (i : Int)).map V.int))) D2 (.lst (rs ++ [.ref t]))) := (KP.of st).trans (KP.put (st _ _ hD3))
            by_cases hj : j < rs.length
            · rw [List.getElem?_append_left hj] at hy
              obtain ⟨t2, e2, h0, h2⟩ := hr3 j y hy
              exact ⟨t2, e2, h0, kp.tup h2⟩
            · rw [List.getElem?_append_right (by omega)] at hy
              have ej : j - rs.length = 0 := by
                have := (List.getElem?_eq_some_iff.mp hy).1
                simp at this
                omega
              rw [ej] at hy
              cases hy
              have ej2 : j = i := by omega
              subst ej2
              exact ⟨t, rfl, (s2.trans s3).free ht, (KP.put (p := D2) (st _ _ hD3)).tup upd_same⟩
        · rintro H3 ⟨s3, rs, hD3, hl3, hr3⟩
          rw [List.length_map] at hl3
          refine ⟨D2, rs, rfl, .inl ⟨.inl (.inl hD3), fun r hr => ?_⟩⟩
          have sr := same_new (o := .tup rs) hr
          exact q _ r rs (s2.trans (s3.trans sr)) ((s2.trans s3).free hr) upd_same (hl3.trans hl) fun j x hx => let ⟨t, e1, e0, e2⟩ := hr3 j x hx; ⟨t, e1, e0, sr _ _ e2⟩
theorem okP_neighbor_rows {f : Addr} {fd : FuncData} (F : Fun K "neighbor_rows" "neighbor_rows" s_neighbor_rows f fd) (B : B0 mg) : FnOk P w K mg base (L2.CX P w) L_neighbor_rows f fd ["size", "edges"] (spG K 2 F_neighbor_rows) := (ok_rowsG F B).imp (by
  rintro vs H Q E ⟨A, T, S, own, ρ, hl, P, now, hA, h⟩
  rcases rowsF_inv (ρ := ρ) with e | ⟨n, qs, rfl, hn0, hn, hq, hb, e⟩
  · rw [e] at h; exact h.elim
  · rw [e] at h
    obtain ⟨v0, e0, r0⟩ := P.var (i := 0) rfl
    obtain ⟨v1, e1, r1⟩ := P.var (i := 1) rfl
    have hvs : vs = [v0, v1] := by
      match vs, hl, e0, e1 with
      | [a, b], _, e0, e1 => cases e0; cases e1; rfl
    subst hvs
    cases r0
    obtain ⟨ea, xs, rfl, ht, rt⟩ := r1
    have hlen := rt.len
    rw [List.length_map] at hlen
    refine ⟨n.toNat, ea, xs, qs, by rw [Int.toNat_of_nonneg hn0], by omega, sqT_of ht, hlen.symm, fun i x hx => ?_, hq, fun q hm => ?_, fun H' r rs s hr hr' hl' hrs => ?_⟩
    · obtain ⟨p, h1, h2⟩ := rt.getV hx
      rw [List.getElem?_map] at h1
      obtain ⟨q, h3, rfl⟩ := Option.map_eq_some_iff.mp h1
      exact ⟨q, h3, tup2_rep h2⟩
    · obtain ⟨a, b, c⟩ := hb q hm
      exact ⟨a, b, by omega⟩
    · have P2 := (P.same s).outs (own := own) (n := 2) (S2 := S) P.ia hA hl P.zs (fun _ z => z) P.ts
      refine h H' (.ref r) P2 ?_
      refine ⟨r, rs, rfl, .inl ⟨P.new hr, .inl hr'⟩, reps_get (by rw [List.length_map, List.length_range, hl']) fun i p v h1 h2 => ?_⟩
      obtain ⟨t, rfl, t0, t1⟩ := hrs i v h2
      rw [List.getElem?_map] at h1
      obtain ⟨j, h3, rfl⟩ := Option.map_eq_some_iff.mp h1
      have : j = i := by
        obtain ⟨a, b⟩ := List.getElem?_eq_some_iff.mp h3
        rw [List.getElem_range] at b
        exact b.symm
      subst this
      exact ⟨t, _, rfl, .inl ⟨P.new t0, .inl t1⟩, reps_ints _⟩)
end
end Ev
namespace Ev
open PySem PySem.Spec PyProof.Rows L2
section
variable {P : Program} {w : World} {K : PySem.W.Frag} {mg : Str → Option Value} {base : Heap} {C : Addr}
def G_is_within : FS := (gRet (fBin pEq (fBin pAndB (fVar 0) (fVar 1)) (fVar 0)))
def F_is_within : Fn := defF 2 2 G_is_within
def L_is_within : Nat := 0 + 1
theorem okP_is_within {f : Addr} {fd : FuncData} (F : Fun K "is_within" "is_within" s_is_within f fd)  : FnOk P w K mg base (L2.CX P w) L_is_within f fd ["part", "mask"] (spG K 2 F_is_within) :=
  ok_pure Ns_is_within ["part", "mask"] 2 2 0 G_is_within F scs_is_within rfl rfl (fun cdv A outer s H E hr =>
      (us_one (us_ret (ue_cmp (po_eq hr.units) (ue_op po_and (ue_var 0) (ue_var 1)) (ue_var 0) (nomark _)))))
def G_chromatic_numbers : FS := (gSeq (gOwn 1 (fLst (fCons (fC (.int 0)) fNil)))
      (gSeq (gFor (fRng2 (fC (.int 1)) (fBin pShl (fC (.int 1)) (fB bLen (fCons (fVar 0) fNil)))) (.nm 2)
        (gSeq (gAsg (.nm 3) (fBin pSub (fUn pBits (fVar 2)) (fC (.int 1))))
        (gApp' 1 (fBin pAdd (fC (.int 1)) (fB bMin (fCons (fLc (fSeq (fBin pIdx (fVar 0) (fVar 3))) [4] (.nm 4) (fT (fCall F_is_within (aCons (fVar 4) (aCons (fVar 2) aNil)))) (fIxO' 1 (fBin pXorB (fVar 2) (fVar 4)))) fNil))))))
      (gRetO 1)))
def F_chromatic_numbers : Fn := defF 5 1 G_chromatic_numbers
def L_chromatic_numbers : Nat := (max L_is_within 0) + 1
theorem okP_chromatic_numbers {f : Addr} {fd : FuncData} (F : Fun K "chromatic_numbers" "chromatic_numbers" s_chromatic_numbers f fd) (c_is_within : CaX P w K mg base L_is_within "is_within" (spG K 2 F_is_within)) (f_len : mg "len" = none) (f_min : mg "min" = none) (f_range : mg "range" = none) : FnOk P w K mg base (L2.CX P w) L_chromatic_numbers f fd ["sets"] (spG K 1 F_chromatic_numbers) :=
  ok_pure Ns_chromatic_numbers ["sets"] 5 1 (max L_is_within 0) G_chromatic_numbers F scs_chromatic_numbers rfl rfl (fun cdv A outer s H E hr =>
      (us_cons (us_ownLst (i := 1) scs_chromatic_numbers.nd rfl (Or.inr rfl) (ua_cons ue_int ua_nil))
      (us_cons (us_for (passes_of rfl) rfl (ui_rng2 (by rfl) f_range ue_int (ue_op po_shl ue_int (ue_callB pc_len (by rfl) f_len (by decide +kernel) (ua_cons (ue_var 0) ua_nil)))) (ug_nm (i := 2) scs_chromatic_numbers.nd rfl (Or.inr rfl))
        (us_cons (us_set (i := 3) scs_chromatic_numbers.nd rfl (Or.inl rfl) (ue_op po_sub (ue_bits (ue_var 2)) ue_int))
        (us_one (us_app 1 (ue_op po_add ue_int (ue_callB (pc_min rfl) (by rfl) f_min (by decide +kernel) (ua_cons (ue_lc (own := [("part", 4)]) (t := (.nm 4)) (c := (fT (fCall F_is_within (aCons (fVar 4) (aCons (fVar 2) aNil))))) (f := (fIxO' 1 (fBin pXorB (fVar 2) (fVar 4)))) rfl scs_chromatic_numbers.nd (ui_seq (ue_ix (ue_var 0) (ue_var 3) (fun _ _ => rfl))) (blkOk_by (N := Ns_chromatic_numbers) (sc := defScope s_chromatic_numbers) (by decide +kernel)) (fun _ _ _ _ _ => by exact (ug_nm (i := 4) scs_chromatic_numbers.nd rfl (Or.inl rfl))) (fun _ _ _ _ _ => by exact (uts_one (ut_val (ue_call c_is_within (by exact hr) (by decide) (by rfl) passS (uas_cons (ue_var 4) (uas_cons (ue_var 2) uas_nil)) (aCons_len (aCons_len (fun _ _ h => aNil_len h))))))) (fun _ _ _ _ _ => by exact (ue_ixO 1 (ue_op po_xor (ue_var 2) (ue_var 4)) (fun _ _ => rfl))) (by decide)) ua_nil)))))))
      (us_one (us_retO 1)))))
def G_mask_of : FS := (gRet (fB bSum (fCons (fLc (fSeq (fVar 0)) [1] (.nm 1) fYes (fBin pShl (fC (.int 1)) (fVar 1))) fNil)))
def F_mask_of : Fn := defF 2 1 G_mask_of
def L_mask_of : Nat := 0 + 1
theorem okP_mask_of {f : Addr} {fd : FuncData} (F : Fun K "mask_of" "mask_of" s_mask_of f fd) (f_sum : mg "sum" = none) : FnOk P w K mg base (L2.CX P w) L_mask_of f fd ["subset"] (spG K 1 F_mask_of) :=
  ok_pure Ns_mask_of ["subset"] 2 1 0 G_mask_of F scs_mask_of rfl rfl (fun cdv A outer s H E hr =>
      (us_one (us_ret (ue_callB (pc_sum rfl) (by rfl) f_sum (by decide +kernel) (ua_cons (ue_lc (own := [("vertex", 1)]) (t := (.nm 1)) (c := fYes) (f := (fBin pShl (fC (.int 1)) (fVar 1))) rfl scs_mask_of.nd (ui_seq (ue_var 0)) (blkOk_by (N := Ns_mask_of) (sc := defScope s_mask_of) (by decide +kernel)) (fun _ _ _ _ _ => by exact (ug_nm (i := 1) scs_mask_of.nd rfl (Or.inl rfl))) (fun _ _ _ _ _ => uts_nil) (fun _ _ _ _ _ => by exact (ue_op po_shl ue_int (ue_var 1))) (by decide)) ua_nil)))))
def G_is_integer : FS := (gRet (fAnd (fUn (pIsi CS (.t .int)) (fVar 0)) (fNot (fUn (pIsi CS (.t .bl)) (fVar 0)))))
def F_is_integer : Fn := defF 1 1 G_is_integer
def L_is_integer : Nat := 0 + 1
theorem okP_is_integer {f : Addr} {fd : FuncData} (F : Fun K "is_integer" "is_integer" s_is_integer f fd) (CC : Clss K CS) (f_bool : mg "bool" = none) (f_int : mg "int" = none) (f_isinstance : mg "isinstance" = none) : FnOk P w K mg base (L2.CX P w) L_is_integer f fd ["value"] (spG K 1 F_is_integer) :=
  ok_pure Ns_is_integer ["value"] 1 1 0 G_is_integer F scs_is_integer rfl rfl (fun cdv A outer s H E hr =>
      (us_one (us_ret (ue_and (ue_isi (.t .int) CC (by decide) (by rfl) f_isinstance (by decide +kernel) (ue_var 0) (pe_bltn (v := .ty "int") (by rfl) f_int (by decide +kernel) rfl)) (pe_one (ue_not (ue_isi (.t .bl) CC (by decide) (by rfl) f_isinstance (by decide +kernel) (ue_var 0) (pe_bltn (v := .ty "bool") (by rfl) f_bool (by decide +kernel) rfl))))))))
def G_is_between : FS := (gRet (fAnd (fCall F_is_integer (aCons (fVar 0) aNil)) (fChain pLe pLe (fVar 1) (fVar 0) (fVar 2))))
def F_is_between : Fn := defF 3 3 G_is_between
def L_is_between : Nat := (max L_is_integer 0) + 1
theorem okP_is_between {f : Addr} {fd : FuncData} (F : Fun K "is_between" "is_between" s_is_between f fd) (c_is_integer : CaX P w K mg base L_is_integer "is_integer" (spG K 1 F_is_integer)) : FnOk P w K mg base (L2.CX P w) L_is_between f fd ["value", "least", "greatest"] (spG K 3 F_is_between) :=
  ok_pure Ns_is_between ["value", "least", "greatest"] 3 3 (max L_is_integer 0) G_is_between F scs_is_between rfl rfl (fun cdv A outer s H E hr =>
      (us_one (us_ret (ue_and (ue_call c_is_integer hr (by decide) (by rfl) (fun σ => passAt (W := fun cls d _ H => E cls d H) (takes_of rfl rfl rfl rfl) σ) (uas_cons (ue_var 0) uas_nil) (aCons_len (fun _ _ h => aNil_len h))) (pe_one (ue_chain (po_le (Nat.lt_of_le_of_lt (Nat.le_add_right _ 64) hr.units)) (po_le (Nat.lt_of_le_of_lt (Nat.le_add_right _ 64) hr.units)) (ue_var 1) (ue_var 0) (ue_var 2)))))))
def G_Graph_neighbors : FS := (gSeq (gIf (tNotF (fT (fCall F_is_between (aCons (fVar 1) (aCons (fC (.int 0)) (aCons (fBin pSub (fUn (pFld "Graph" "size") (fVar 0)) (fC (.int 1))) aNil))))))
        (gRaise "InvalidNumber" ["value"] (fCons (fVar 1) fNil))
        gNx)
      (gRet (fBin pIdx (fUn (pFld "Graph" "_rows") (fVar 0)) (fVar 1))))
def F_Graph_neighbors : Fn := defF 2 2 G_Graph_neighbors
def L_Graph_neighbors : Nat := (max 2 (max L_is_between 0)) + 1
theorem okP_Graph_neighbors {f : Addr} {fd : FuncData} (F : Fun K "neighbors" "Graph.neighbors" s_Graph_neighbors f fd) (K_Graph : ClsP K "Graph" ["size", "edges", "_vertices", "_rows"]) (c_is_between : CaX P w K mg base L_is_between "is_between" (spG K 3 F_is_between)) (r_InvalidNumber : ErrT P w K mg base "InvalidNumber" "value" (He.ga K "InvalidNumber")) : FnOk P w K mg base (L2.CX P w) L_Graph_neighbors f fd ["self", "vertex"] (spG K 2 F_Graph_neighbors) :=
  ok_pure Ns_Graph_neighbors ["self", "vertex"] 2 2 (max 2 (max L_is_between 0)) G_Graph_neighbors F scs_Graph_neighbors rfl rfl (fun cdv A outer s H E hr =>
      (us_cons (us_if (ut_not (ut_val (ue_call c_is_between hr (by decide) (by rfl) (fun σ => passAt (W := fun cls d _ H => E cls d H) (takes_of rfl rfl rfl rfl) σ) (uas_cons (ue_var 1) (uas_cons ue_int (uas_cons (ue_op po_sub (ue_fld "Graph" K_Graph (by decide) (ue_var 0) rfl) ue_int) uas_nil))) (aCons_len (aCons_len (aCons_len (fun _ _ h => aNil_len h)))))))
        (us_one (us_raise1 "InvalidNumber" r_InvalidNumber (takes_of rfl rfl rfl rfl) rfl hr (by decide) (by rfl) (ua_cons (ue_var 1) ua_nil)))
        us_nil)
      (us_one (us_ret (ue_ix (ue_fld "Graph" K_Graph (by decide) (ue_var 0) rfl) (ue_var 1) (fun _ _ => rfl))))))
theorem okI_Graph___iter__ {f : Addr} {fd : FuncData} (F : Fun K "__iter__" "Graph.__iter__" s_Graph___iter__ f fd) (C : ClsP K "Graph" ["size", "edges", "_vertices", "_rows"]) (f_iter : mg "iter" = none) : FnS P w K mg base (L2.CX P w) 1 f fd ["self"] (spIt K "Graph") := ok_iter F scs_Graph___iter__ C f_iter rfl rfl rfl
def G_independent_masks : FS := (gSeq (gOwn 1 (fLst fNil))
      (gSeq (gFor (fIterG "Graph" (fVar 0)) (.nm 2)
        (gSeq (gAsg (.nm 3) (fBin pShl (fC (.int 1)) (fVar 2)))
        (gSeq (gAsg (.nm 4) (fCall F_mask_of (aCons (fMeth "Graph" "neighbors" F_Graph_neighbors (fVar 0) (aCons (fVar 2) aNil)) aNil)))
        (gSeq (gAsg (.nm 5) (fThawL (fLc2 (fSeq (fVar 1)) [6, 7] (.nm 6) fYes (fSeq (fVar 6)) [7] (.nm 7) (fT (fBin pEq (fBin pAndB (fVar 7) (fVar 4)) (fC (.int 0)))) (fBin pOrB (fVar 3) (fVar 7)))))
        (gApp' 1 (fBin pAdd (fLst (fCons (fVar 3) fNil)) (fVar 5)))))))
      (gRetO 1)))
def F_independent_masks : Fn := defF 8 1 G_independent_masks
def L_independent_masks : Nat := (max 1 (max (L_Graph_neighbors + 1) (max L_mask_of 0))) + 1
theorem okP_independent_masks {f : Addr} {fd : FuncData} (F : Fun K "independent_masks" "independent_masks" s_independent_masks f fd) (c_mask_of : CaX P w K mg base L_mask_of "mask_of" (spG K 1 F_mask_of)) (e_Graph_neighbors : MetP P w K mg base L_Graph_neighbors "Graph" "neighbors" (spG K 2 F_Graph_neighbors)) (i_Graph : ItP P w K mg base 1 "Graph") : FnOk P w K mg base (L2.CX P w) L_independent_masks f fd ["graph"] (spG K 1 F_independent_masks) :=
  ok_pure Ns_independent_masks ["graph"] 8 1 (max 1 (max (L_Graph_neighbors + 1) (max L_mask_of 0))) G_independent_masks F scs_independent_masks rfl rfl (fun cdv A outer s H E hr =>
      (us_cons (us_ownLst (i := 1) scs_independent_masks.nd rfl (Or.inl rfl) ua_nil)
      (us_cons (us_for (passes_of rfl) rfl (ui_own i_Graph hr (by decide) (ue_var 0)) (ug_nm (i := 2) scs_independent_masks.nd rfl (Or.inl rfl))
        (us_cons (us_set (i := 3) scs_independent_masks.nd rfl (Or.inr rfl) (ue_op po_shl ue_int (ue_var 2)))
        (us_cons (us_set (i := 4) scs_independent_masks.nd rfl (Or.inr rfl) (ue_call c_mask_of hr (by decide) (by rfl) (fun σ => passAt (W := fun cls d _ H => E cls d H) (takes_of rfl rfl rfl rfl) σ) (uas_cons (ue_meth e_Graph_neighbors hr (by decide) (fun σ => passAt (W := fun cls d _ H => E cls d H) (takes_of rfl rfl rfl rfl) σ) (ue_var 0) (uas_cons (ue_var 2) uas_nil) (fun ρ w h => congrArg Nat.succ ((aCons_len (fun _ _ h => aNil_len h)) ρ w h))) uas_nil) (aCons_len (fun _ _ h => aNil_len h))))
        (us_cons (us_setLc2T (i := 5) (own := [("row", 6), ("mask", 7)]) (vs1 := [7]) (t := (.nm 6)) (c := fYes) (fi1 := (fSeq (fVar 6))) (t1 := (.nm 7)) (c1 := (fT (fBin pEq (fBin pAndB (fVar 7) (fVar 4)) (fC (.int 0))))) (f := (fBin pOrB (fVar 3) (fVar 7))) rfl scs_independent_masks.nd rfl rfl (sw_true rfl rfl rfl (by decide +kernel)) (ui_seq (ue_var 1)) (blkOk_by (N := Ns_independent_masks) (sc := defScope s_independent_masks) (by decide +kernel)) (by decide) (fun _ _ _ _ _ => by exact (ug_nm (i := 6) scs_independent_masks.nd rfl (Or.inl rfl))) (fun _ _ _ _ _ => uts_nil) (fun _ _ _ _ _ => by exact (ui_seq (ue_var 6))) (fun _ _ _ _ _ => by exact (ug_nm (i := 7) scs_independent_masks.nd rfl (Or.inl rfl))) (fun _ _ _ _ _ => by exact (uts_one (ut_cmp (po_eq (by exact hr.units)) (ue_op po_and (ue_var 7) (ue_var 4)) ue_int (nomark _)))) (fun _ _ _ _ _ => by exact (ue_op po_or (ue_var 3) (ue_var 7))) (by decide) (by decide))
        (us_one (us_app 1 (ue_op po_add (ue_lst (ua_cons (ue_var 3) ua_nil)) (ue_var 5))))))))
      (us_one (us_retO 1)))))
def G_require_vertices : FS := (gIf (fT (fBin pGt (fVar 0) (fVar 1)))
        (gRaise "TooLarge" ["what"] (fCons (fC (.str "vertices")) fNil))
        gNx)
def F_require_vertices : Fn := defF 2 2 G_require_vertices
def L_require_vertices : Nat := (max 2 0) + 1
theorem okP_require_vertices {f : Addr} {fd : FuncData} (F : Fun K "require_vertices" "require_vertices" s_require_vertices f fd) (r_TooLarge : ErrT P w K mg base "TooLarge" "what" (He.ga K "TooLarge")) : FnOk P w K mg base (L2.CX P w) L_require_vertices f fd ["count", "most"] (spG K 2 F_require_vertices) :=
  ok_pure Ns_require_vertices ["count", "most"] 2 2 (max 2 0) G_require_vertices F scs_require_vertices rfl rfl (fun cdv A outer s H E hr =>
      (us_one (us_if (ut_cmp po_gt (ue_var 0) (ue_var 1) (nomark _))
        (us_one (us_raise1 "TooLarge" r_TooLarge (takes_of rfl rfl rfl rfl) rfl hr (by decide) (by rfl) (ua_cons ue_str ua_nil)))
        us_nil)))
def G_require_exhaustible : FS := (gDrop (fCall F_require_vertices (aCons (fUn (pFld "Graph" "size") (fVar 0)) (aCons (fC (.int C_MOST_EXHAUSTIVE)) aNil))))
def F_require_exhaustible : Fn := defF 1 1 G_require_exhaustible
def L_require_exhaustible : Nat := (max L_require_vertices 0) + 1
theorem okP_require_exhaustible {f : Addr} {fd : FuncData} (F : Fun K "require_exhaustible" "require_exhaustible" s_require_exhaustible f fd) (K_Graph : ClsP K "Graph" ["size", "edges", "_vertices", "_rows"]) (c_require_vertices : CaX P w K mg base L_require_vertices "require_vertices" (spG K 2 F_require_vertices)) (h_MOST_EXHAUSTIVE : ∃ u, mg "MOST_EXHAUSTIVE" = some u ∧ RelV (.int C_MOST_EXHAUSTIVE) u) : FnOk P w K mg base (L2.CX P w) L_require_exhaustible f fd ["graph"] (spG K 1 F_require_exhaustible) :=
  ok_pure Ns_require_exhaustible ["graph"] 1 1 (max L_require_vertices 0) G_require_exhaustible F scs_require_exhaustible rfl rfl (fun cdv A outer s H E hr =>
      (us_one (us_expr (ue_call c_require_vertices hr (by decide) (by rfl) (fun σ => passAt (W := fun cls d _ H => E cls d H) (takes_of rfl rfl rfl rfl) σ) (uas_cons (ue_fld "Graph" K_Graph (by decide) (ue_var 0) rfl) (uas_cons (ue_gint (by rfl) h_MOST_EXHAUSTIVE) uas_nil)) (aCons_len (aCons_len (fun _ _ h => aNil_len h)))))))
def G_first_color : FS := (gSeq (gAsg (.nm 3) (fBin pSub (fUn pBits (fVar 0)) (fC (.int 1))))
      (gSeq (gAsg (.nm 4) (fLc (fSeq (fBin pIdx (fVar 1) (fVar 3))) [5] (.nm 5) (fT (fCall F_is_within (aCons (fVar 5) (aCons (fVar 0) aNil)))) (fVar 5)))
      (gRet (fBin pIdx (fLc (fSeq (fVar 4)) [5] (.nm 5) (fT (fBin pLt (fBin pIdx (fVar 2) (fBin pXorB (fVar 0) (fVar 5))) (fBin pIdx (fVar 2) (fVar 0)))) (fVar 5)) (fC (.int 0))))))
def F_first_color : Fn := defF 6 3 G_first_color
def L_first_color : Nat := (max L_is_within 0) + 1
theorem okP_first_color {f : Addr} {fd : FuncData} (F : Fun K "first_color" "first_color" s_first_color f fd) (c_is_within : CaX P w K mg base L_is_within "is_within" (spG K 2 F_is_within)) : FnOk P w K mg base (L2.CX P w) L_first_color f fd ["mask", "sets", "numbers"] (spG K 3 F_first_color) :=
  ok_pure Ns_first_color ["mask", "sets", "numbers"] 6 3 (max L_is_within 0) G_first_color F scs_first_color rfl rfl (fun cdv A outer s H E hr =>
      (us_cons (us_set (i := 3) scs_first_color.nd rfl (Or.inl rfl) (ue_op po_sub (ue_bits (ue_var 0)) ue_int))
      (us_cons (us_setLc (i := 4) (own := [("part", 5)]) (t := (.nm 5)) (c := (fT (fCall F_is_within (aCons (fVar 5) (aCons (fVar 0) aNil))))) (f := (fVar 5)) rfl scs_first_color.nd rfl rfl (sw_true rfl rfl rfl (by decide +kernel)) (ui_seq (ue_ix (ue_var 1) (ue_var 3) (fun _ _ => rfl))) (blkOk_by (N := Ns_first_color) (sc := defScope s_first_color) (by decide +kernel)) (fun _ _ _ _ _ => by exact (ug_nm (i := 5) scs_first_color.nd rfl (Or.inl rfl))) (fun _ _ _ _ _ => by exact (uts_one (ut_val (ue_call c_is_within (by exact hr) (by decide) (by rfl) passS (uas_cons (ue_var 5) (uas_cons (ue_var 0) uas_nil)) (aCons_len (aCons_len (fun _ _ h => aNil_len h))))))) (fun _ _ _ _ _ => by exact (ue_var 5)) (by decide))
      (us_one (us_ret (ue_ix (ue_lc (own := [("part", 5)]) (t := (.nm 5)) (c := (fT (fBin pLt (fBin pIdx (fVar 2) (fBin pXorB (fVar 0) (fVar 5))) (fBin pIdx (fVar 2) (fVar 0))))) (f := (fVar 5)) rfl scs_first_color.nd (ui_seq (ue_var 4)) (blkOk_by (N := Ns_first_color) (sc := defScope s_first_color) (by decide +kernel)) (fun _ _ _ _ _ => by exact (ug_nm (i := 5) scs_first_color.nd rfl (Or.inl rfl))) (fun _ _ _ _ _ => by exact (uts_one (ut_cmp (po_lt (by exact Nat.lt_of_le_of_lt (Nat.le_add_right _ 64) hr.units)) (ue_ix (ue_var 2) (ue_op po_xor (ue_var 0) (ue_var 5)) (fun _ _ => rfl)) (ue_ix (ue_var 2) (ue_var 0) (fun _ _ => rfl)) (nomark _)))) (fun _ _ _ _ _ => by exact (ue_var 5)) (by decide)) ue_int (fun _ _ => rfl)))))))
def G_color_masks : FS := (gSeq (gOwn 3 (fLst fNil))
      (gSeq (gAsg (.nm 4) (fVar 0))
      (gSeq (gWhile 1000 (fT (fBin pGt (fVar 4) (fC (.int 0))))
        (gSeq (gAsg (.nm 5) (fCall F_first_color (aCons (fVar 4) (aCons (fVar 1) (aCons (fVar 2) aNil)))))
        (gSeq (gApp' 3 (fVar 5))
        (gAsg (.nm 4) (fBin pXorB (fVar 4) (fVar 5))))))
      (gRetO 3))))
def F_color_masks : Fn := defF 6 3 G_color_masks
def L_color_masks : Nat := (max L_first_color 0) + 1
theorem okP_color_masks {f : Addr} {fd : FuncData} (F : Fun K "color_masks" "color_masks" s_color_masks f fd) (c_first_color : CaX P w K mg base L_first_color "first_color" (spG K 3 F_first_color)) : FnOk P w K mg base (L2.CX P w) L_color_masks f fd ["mask", "sets", "numbers"] (spG K 3 F_color_masks) :=
  ok_pure Ns_color_masks ["mask", "sets", "numbers"] 6 3 (max L_first_color 0) G_color_masks F scs_color_masks rfl rfl (fun cdv A outer s H E hr =>
      (us_cons (us_ownLst (i := 3) scs_color_masks.nd rfl (Or.inl rfl) ua_nil)
      (us_cons (us_set (i := 4) scs_color_masks.nd rfl (Or.inl rfl) (ue_var 0))
      (us_cons (us_while 1000 (passes_of rfl) (ut_cmp po_gt (ue_var 4) ue_int (nomark _))
        (us_cons (us_set (i := 5) scs_color_masks.nd rfl (Or.inl rfl) (ue_call c_first_color hr (by decide) (by rfl) (fun σ => passAt (W := fun cls d _ H => E cls d H) (takes_of rfl rfl rfl rfl) σ) (uas_cons (ue_var 4) (uas_cons (ue_var 1) (uas_cons (ue_var 2) uas_nil))) (aCons_len (aCons_len (aCons_len (fun _ _ h => aNil_len h))))))
        (us_cons (us_app 3 (ue_var 5))
        (us_one (us_set (i := 4) scs_color_masks.nd rfl (Or.inl rfl) (ue_op po_xor (ue_var 4) (ue_var 5)))))))
      (us_one (us_retO 3))))))
def G_has_vertex : FS := (gRet (fBin pEq (fBin pAndB (fBin pShr (fVar 0) (fVar 1)) (fC (.int 1))) (fC (.int 1))))
def F_has_vertex : Fn := defF 2 2 G_has_vertex
def L_has_vertex : Nat := 0 + 1
theorem okP_has_vertex {f : Addr} {fd : FuncData} (F : Fun K "has_vertex" "has_vertex" s_has_vertex f fd)  : FnOk P w K mg base (L2.CX P w) L_has_vertex f fd ["mask", "vertex"] (spG K 2 F_has_vertex) :=
  ok_pure Ns_has_vertex ["mask", "vertex"] 2 2 0 G_has_vertex F scs_has_vertex rfl rfl (fun cdv A outer s H E hr =>
      (us_one (us_ret (ue_cmp (po_eq hr.units) (ue_op po_and (ue_op po_shr (ue_var 0) (ue_var 1)) ue_int) ue_int (nomark _)))))
def G_color_of : FS := (gRet (fBin pIdx (fLc (fEnum (fVar 1)) [2, 3] (.tp [(.nm 2), (.nm 3)]) (fT (fCall F_has_vertex (aCons (fVar 3) (aCons (fVar 0) aNil)))) (fVar 2)) (fC (.int 0))))
def F_color_of : Fn := defF 4 2 G_color_of
def L_color_of : Nat := (max L_has_vertex 0) + 1
theorem okP_color_of {f : Addr} {fd : FuncData} (F : Fun K "color_of" "color_of" s_color_of f fd) (c_has_vertex : CaX P w K mg base L_has_vertex "has_vertex" (spG K 2 F_has_vertex)) (f_enumerate : mg "enumerate" = none) : FnOk P w K mg base (L2.CX P w) L_color_of f fd ["vertex", "colors"] (spG K 2 F_color_of) :=
  ok_pure Ns_color_of ["vertex", "colors"] 4 2 (max L_has_vertex 0) G_color_of F scs_color_of rfl rfl (fun cdv A outer s H E hr =>
      (us_one (us_ret (ue_ix (ue_lc (own := [("color", 2), ("members", 3)]) (t := (.tp [(.nm 2), (.nm 3)])) (c := (fT (fCall F_has_vertex (aCons (fVar 3) (aCons (fVar 0) aNil))))) (f := (fVar 2)) rfl scs_color_of.nd (ui_enum (by rfl) f_enumerate (ue_var 1)) (blkOk_by (N := Ns_color_of) (sc := defScope s_color_of) (by decide +kernel)) (fun _ _ _ _ _ => by exact (ug_tp rfl (ugs_cons (ug_nm (i := 2) scs_color_of.nd rfl (Or.inl rfl)) (ugs_cons (ug_nm (i := 3) scs_color_of.nd rfl (Or.inl rfl)) ugs_nil)))) (fun _ _ _ _ _ => by exact (uts_one (ut_val (ue_call c_has_vertex (by exact hr) (by decide) (by rfl) passS (uas_cons (ue_var 3) (uas_cons (ue_var 0) uas_nil)) (aCons_len (aCons_len (fun _ _ h => aNil_len h))))))) (fun _ _ _ _ _ => by exact (ue_var 2)) (by decide)) ue_int (fun _ _ => rfl)))))
def G_are_colors : FS := (gSeq (gIf (tNotF (fT (fUn (pIsi CS (.t .tup)) (fVar 0))))
        (gRet (fC (.bl false)))
        gNx)
      (gRet (fB bAll (fCons (fLc (fSeq (fVar 0)) [1] (.nm 1) fYes (fCall F_is_between (aCons (fVar 1) (aCons (fC (.int 0)) (aCons (fBin pSub (fC (.int C_MOST_VERTICES)) (fC (.int 1))) aNil))))) fNil))))
def F_are_colors : Fn := defF 2 1 G_are_colors
def L_are_colors : Nat := (max L_is_between 0) + 1
theorem okP_are_colors {f : Addr} {fd : FuncData} (F : Fun K "are_colors" "are_colors" s_are_colors f fd) (CC : Clss K CS) (c_is_between : CaX P w K mg base L_is_between "is_between" (spG K 3 F_is_between)) (f_all : mg "all" = none) (f_isinstance : mg "isinstance" = none) (f_tuple : mg "tuple" = none) (h_MOST_VERTICES : ∃ u, mg "MOST_VERTICES" = some u ∧ RelV (.int C_MOST_VERTICES) u) : FnOk P w K mg base (L2.CX P w) L_are_colors f fd ["value"] (spG K 1 F_are_colors) :=
  ok_pure Ns_are_colors ["value"] 2 1 (max L_is_between 0) G_are_colors F scs_are_colors rfl rfl (fun cdv A outer s H E hr =>
      (us_cons (us_if (ut_not (ut_val (ue_isi (.t .tup) CC (by decide) (by rfl) f_isinstance (by decide +kernel) (ue_var 0) (pe_bltn (v := .ty "tuple") (by rfl) f_tuple (by decide +kernel) rfl))))
        (us_one (us_ret ue_bl))
        us_nil)
      (us_one (us_ret (ue_callB (pc_all rfl) (by rfl) f_all (by decide +kernel) (ua_cons (ue_lc (own := [("number", 1)]) (t := (.nm 1)) (c := fYes) (f := (fCall F_is_between (aCons (fVar 1) (aCons (fC (.int 0)) (aCons (fBin pSub (fC (.int C_MOST_VERTICES)) (fC (.int 1))) aNil))))) rfl scs_are_colors.nd (ui_seq (ue_var 0)) (blkOk_by (N := Ns_are_colors) (sc := defScope s_are_colors) (by decide +kernel)) (fun _ _ _ _ _ => by exact (ug_nm (i := 1) scs_are_colors.nd rfl (Or.inl rfl))) (fun _ _ _ _ _ => uts_nil) (fun _ _ _ _ _ => by exact (ue_call c_is_between (by exact hr) (by decide) (by rfl) passS (uas_cons (ue_var 1) (uas_cons ue_int (uas_cons (ue_op po_sub (ue_gint (by rfl) h_MOST_VERTICES) ue_int) uas_nil))) (aCons_len (aCons_len (aCons_len (fun _ _ h => aNil_len h)))))) (by decide)) ua_nil))))))
def G_normal_form : FS := (gSeq (gIf (tOrF (tNotF (fT (fCall F_are_colors (aCons (fVar 0) aNil)))) (fT (fBin pGt (fB bLen (fCons (fVar 0) fNil)) (fC (.int C_MOST_VERTICES)))))
        (gRaise "InvalidColoring" ["value"] (fCons (fVar 0) fNil))
        gNx)
      (gSeq (gOwn 1 fDic0)
      (gSeq (gFor (fSeq (fVar 0)) (.nm 2)
        (gDrop (fSetdD 1 (fVar 2) (fLenD 1))))
      (gRet (fB bTuple (fCons (fLc (fSeq (fVar 0)) [2] (.nm 2) fYes (fGetD 1 (fVar 2))) fNil))))))
def F_normal_form : Fn := defF 3 1 G_normal_form
def L_normal_form : Nat := (max 2 (max L_are_colors 0)) + 1
theorem okP_normal_form {f : Addr} {fd : FuncData} (F : Fun K "normal_form" "normal_form" s_normal_form f fd) (c_are_colors : CaX P w K mg base L_are_colors "are_colors" (spG K 1 F_are_colors)) (f_len : mg "len" = none) (f_tuple : mg "tuple" = none) (h_MOST_VERTICES : ∃ u, mg "MOST_VERTICES" = some u ∧ RelV (.int C_MOST_VERTICES) u) (r_InvalidColoring : ErrT P w K mg base "InvalidColoring" "value" (He.ga K "InvalidColoring")) : FnOk P w K mg base (L2.CX P w) L_normal_form f fd ["coloring"] (spG K 1 F_normal_form) :=
  ok_pure Ns_normal_form ["coloring"] 3 1 (max 2 (max L_are_colors 0)) G_normal_form F scs_normal_form rfl rfl (fun cdv A outer s H E hr =>
      (us_cons (us_if (PW.pt (uw_or (ut_not (ut_val (ue_call c_are_colors hr (by decide) (by rfl) (fun σ => passAt (W := fun cls d _ H => E cls d H) (takes_of rfl rfl rfl rfl) σ) (uas_cons (ue_var 0) uas_nil) (aCons_len (fun _ _ h => aNil_len h))))) (uw_or1 (ut_cmp po_gt (ue_callB pc_len (by rfl) f_len (by decide +kernel) (ua_cons (ue_var 0) ua_nil)) (ue_gint (by rfl) h_MOST_VERTICES) (nomark _)))))
        (us_one (us_raise1 "InvalidColoring" r_InvalidColoring (takes_of rfl rfl rfl rfl) rfl hr (by decide) (by rfl) (ua_cons (ue_var 0) ua_nil)))
        us_nil)
      (us_cons (us_ownDic0 (i := 1) scs_normal_form.nd rfl (Or.inr rfl))
      (us_cons (us_for (passes_of rfl) rfl (ui_seq (ue_var 0)) (ug_nm (i := 2) scs_normal_form.nd rfl (Or.inl rfl))
        (us_one (us_expr (ue_setdD 1 (ue_var 2) (ue_lenD 1 (by rfl) f_len (by decide +kernel)) ⟨by rfl, by rfl, by rfl, by rfl⟩))))
      (us_one (us_ret (ue_callTy pc_tuple (by rfl) f_tuple (by decide +kernel) (ua_cons (ue_lc (own := [("number", 2)]) (t := (.nm 2)) (c := fYes) (f := (fGetD 1 (fVar 2))) rfl scs_normal_form.nd (ui_seq (ue_var 0)) (blkOk_by (N := Ns_normal_form) (sc := defScope s_normal_form) (by decide +kernel)) (fun _ _ _ _ _ => by exact (ug_nm (i := 2) scs_normal_form.nd rfl (Or.inl rfl))) (fun _ _ _ _ _ => uts_nil) (fun _ _ _ _ _ => by exact (ue_getD 1 (by exact uI hr) (ue_var 2) (fun _ _ => rfl))) (by decide)) ua_nil))))))))
def G_subset_coloring : FS := (gSeq (gAsg (.nm 3) (fCall F_color_masks (aCons (fCall F_mask_of (aCons (fVar 0) aNil)) (aCons (fVar 1) (aCons (fVar 2) aNil)))))
      (gRet (fCall F_normal_form (aCons (fB bTuple (fCons (fLc (fSeq (fVar 0)) [4] (.nm 4) fYes (fCall F_color_of (aCons (fVar 4) (aCons (fVar 3) aNil)))) fNil)) aNil))))
def F_subset_coloring : Fn := defF 5 3 G_subset_coloring
def L_subset_coloring : Nat := (max L_normal_form (max L_mask_of (max L_color_of (max L_color_masks 0)))) + 1
theorem okP_subset_coloring {f : Addr} {fd : FuncData} (F : Fun K "subset_coloring" "subset_coloring" s_subset_coloring f fd) (c_color_masks : CaX P w K mg base L_color_masks "color_masks" (spG K 3 F_color_masks)) (c_color_of : CaX P w K mg base L_color_of "color_of" (spG K 2 F_color_of)) (c_mask_of : CaX P w K mg base L_mask_of "mask_of" (spG K 1 F_mask_of)) (c_normal_form : CaX P w K mg base L_normal_form "normal_form" (spG K 1 F_normal_form)) (f_tuple : mg "tuple" = none) : FnOk P w K mg base (L2.CX P w) L_subset_coloring f fd ["subset", "sets", "numbers"] (spG K 3 F_subset_coloring) :=
  ok_pure Ns_subset_coloring ["subset", "sets", "numbers"] 5 3 (max L_normal_form (max L_mask_of (max L_color_of (max L_color_masks 0)))) G_subset_coloring F scs_subset_coloring rfl rfl (fun cdv A outer s H E hr =>
      (us_cons (us_set (i := 3) scs_subset_coloring.nd rfl (Or.inr rfl) (ue_call c_color_masks hr (by decide) (by rfl) (fun σ => passAt (W := fun cls d _ H => E cls d H) (takes_of rfl rfl rfl rfl) σ) (uas_cons (ue_call c_mask_of hr (by decide) (by rfl) (fun σ => passAt (W := fun cls d _ H => E cls d H) (takes_of rfl rfl rfl rfl) σ) (uas_cons (ue_var 0) uas_nil) (aCons_len (fun _ _ h => aNil_len h))) (uas_cons (ue_var 1) (uas_cons (ue_var 2) uas_nil))) (aCons_len (aCons_len (aCons_len (fun _ _ h => aNil_len h))))))
      (us_one (us_ret (ue_call c_normal_form hr (by decide) (by rfl) (fun σ => passAt (W := fun cls d _ H => E cls d H) (takes_of rfl rfl rfl rfl) σ) (uas_cons (ue_callTy pc_tuple (by rfl) f_tuple (by decide +kernel) (ua_cons (ue_lc (own := [("vertex", 4)]) (t := (.nm 4)) (c := fYes) (f := (fCall F_color_of (aCons (fVar 4) (aCons (fVar 3) aNil)))) rfl scs_subset_coloring.nd (ui_seq (ue_var 0)) (blkOk_by (N := Ns_subset_coloring) (sc := defScope s_subset_coloring) (by decide +kernel)) (fun _ _ _ _ _ => by exact (ug_nm (i := 4) scs_subset_coloring.nd rfl (Or.inl rfl))) (fun _ _ _ _ _ => uts_nil) (fun _ _ _ _ _ => by exact (ue_call c_color_of (by exact hr) (by decide) (by rfl) passS (uas_cons (ue_var 4) (uas_cons (ue_var 3) uas_nil)) (aCons_len (aCons_len (fun _ _ h => aNil_len h))))) (by decide)) ua_nil)) uas_nil) (aCons_len (fun _ _ h => aNil_len h)))))))
def G_Graph___len__ : FS := (gRet (fB bLen (fCons (fUn (pFld "Graph" "_vertices") (fVar 0)) fNil)))
def F_Graph___len__ : Fn := defF 1 1 G_Graph___len__
def L_Graph___len__ : Nat := 0 + 1
theorem okP_Graph___len__ {f : Addr} {fd : FuncData} (F : Fun K "__len__" "Graph.__len__" s_Graph___len__ f fd) (K_Graph : ClsP K "Graph" ["size", "edges", "_vertices", "_rows"]) (f_len : mg "len" = none) : FnOk P w K mg base (L2.CX P w) L_Graph___len__ f fd ["self"] (spG K 1 F_Graph___len__) :=
  ok_pure Ns_Graph___len__ ["self"] 1 1 0 G_Graph___len__ F scs_Graph___len__ rfl rfl (fun cdv A outer s H E hr =>
      (us_one (us_ret (ue_callB pc_len (by rfl) f_len (by decide +kernel) (ua_cons (ue_fld "Graph" K_Graph (by decide) (ue_var 0) rfl) ua_nil)))))
def G_optimal_coloring : FS := (gSeq (gDrop (fCall F_require_exhaustible (aCons (fVar 0) aNil)))
      (gSeq (gAsg (.nm 1) (fCall F_independent_masks (aCons (fVar 0) aNil)))
      (gRet (fCall F_subset_coloring (aCons (fB (bTupOwn "Graph" F_Graph___len__) (fCons (fVar 0) fNil)) (aCons (fVar 1) (aCons (fCall F_chromatic_numbers (aCons (fVar 1) aNil)) aNil)))))))
def F_optimal_coloring : Fn := defF 2 1 G_optimal_coloring
def L_optimal_coloring : Nat := (max (max L_Graph___len__ 1 + 4) (max (L_Graph___len__ + 1) (max 1 (max L_subset_coloring (max L_require_exhaustible (max L_independent_masks (max L_chromatic_numbers 0))))))) + 1
theorem okP_optimal_coloring {f : Addr} {fd : FuncData} (F : Fun K "optimal_coloring" "optimal_coloring" s_optimal_coloring f fd) (c_chromatic_numbers : CaX P w K mg base L_chromatic_numbers "chromatic_numbers" (spG K 1 F_chromatic_numbers)) (c_independent_masks : CaX P w K mg base L_independent_masks "independent_masks" (spG K 1 F_independent_masks)) (c_require_exhaustible : CaX P w K mg base L_require_exhaustible "require_exhaustible" (spG K 1 F_require_exhaustible)) (c_subset_coloring : CaX P w K mg base L_subset_coloring "subset_coloring" (spG K 3 F_subset_coloring)) (f_tuple : mg "tuple" = none) (i_Graph : ItP P w K mg base 1 "Graph") (o_Graph_len : OpP P w K mg base L_Graph___len__ "Graph" "__len__" (spG K 1 F_Graph___len__)) : FnOk P w K mg base (L2.CX P w) L_optimal_coloring f fd ["graph"] (spG K 1 F_optimal_coloring) :=
  ok_pure Ns_optimal_coloring ["graph"] 2 1 (max (max L_Graph___len__ 1 + 4) (max (L_Graph___len__ + 1) (max 1 (max L_subset_coloring (max L_require_exhaustible (max L_independent_masks (max L_chromatic_numbers 0))))))) G_optimal_coloring F scs_optimal_coloring rfl rfl (fun cdv A outer s H E hr =>
      (us_cons (us_expr (ue_call c_require_exhaustible hr (by decide) (by rfl) (fun σ => passAt (W := fun cls d _ H => E cls d H) (takes_of rfl rfl rfl rfl) σ) (uas_cons (ue_var 0) uas_nil) (aCons_len (fun _ _ h => aNil_len h))))
      (us_cons (us_set (i := 1) scs_optimal_coloring.nd rfl (Or.inl rfl) (ue_call c_independent_masks hr (by decide) (by rfl) (fun σ => passAt (W := fun cls d _ H => E cls d H) (takes_of rfl rfl rfl rfl) σ) (uas_cons (ue_var 0) uas_nil) (aCons_len (fun _ _ h => aNil_len h))))
      (us_one (us_ret (ue_call c_subset_coloring hr (by decide) (by rfl) (fun σ => passAt (W := fun cls d _ H => E cls d H) (takes_of rfl rfl rfl rfl) σ) (uas_cons (ue_callTy (pc_tupOwn (by rfl) i_Graph o_Graph_len hr (by decide)) (by rfl) f_tuple (by decide +kernel) (ua_cons (ue_var 0) ua_nil)) (uas_cons (ue_var 1) (uas_cons (ue_call c_chromatic_numbers hr (by decide) (by rfl) (fun σ => passAt (W := fun cls d _ H => E cls d H) (takes_of rfl rfl rfl rfl) σ) (uas_cons (ue_var 1) uas_nil) (aCons_len (fun _ _ h => aNil_len h))) uas_nil))) (aCons_len (aCons_len (aCons_len (fun _ _ h => aNil_len h))))))))))
def G_chromatic_number : FS := (gSeq (gDrop (fCall F_require_exhaustible (aCons (fVar 0) aNil)))
      (gRet (fBin pIdx (fCall F_chromatic_numbers (aCons (fCall F_independent_masks (aCons (fVar 0) aNil)) aNil)) (fUn pNeg (fC (.int 1))))))
def F_chromatic_number : Fn := defF 1 1 G_chromatic_number
def L_chromatic_number : Nat := (max L_require_exhaustible (max L_independent_masks (max L_chromatic_numbers 0))) + 1
theorem okP_chromatic_number {f : Addr} {fd : FuncData} (F : Fun K "chromatic_number" "chromatic_number" s_chromatic_number f fd) (c_chromatic_numbers : CaX P w K mg base L_chromatic_numbers "chromatic_numbers" (spG K 1 F_chromatic_numbers)) (c_independent_masks : CaX P w K mg base L_independent_masks "independent_masks" (spG K 1 F_independent_masks)) (c_require_exhaustible : CaX P w K mg base L_require_exhaustible "require_exhaustible" (spG K 1 F_require_exhaustible)) : FnOk P w K mg base (L2.CX P w) L_chromatic_number f fd ["graph"] (spG K 1 F_chromatic_number) :=
  ok_pure Ns_chromatic_number ["graph"] 1 1 (max L_require_exhaustible (max L_independent_masks (max L_chromatic_numbers 0))) G_chromatic_number F scs_chromatic_number rfl rfl (fun cdv A outer s H E hr =>
      (us_cons (us_expr (ue_call c_require_exhaustible hr (by decide) (by rfl) (fun σ => passAt (W := fun cls d _ H => E cls d H) (takes_of rfl rfl rfl rfl) σ) (uas_cons (ue_var 0) uas_nil) (aCons_len (fun _ _ h => aNil_len h))))
      (us_one (us_ret (ue_ix (ue_call c_chromatic_numbers hr (by decide) (by rfl) (fun σ => passAt (W := fun cls d _ H => E cls d H) (takes_of rfl rfl rfl rfl) σ) (uas_cons (ue_call c_independent_masks hr (by decide) (by rfl) (fun σ => passAt (W := fun cls d _ H => E cls d H) (takes_of rfl rfl rfl rfl) σ) (uas_cons (ue_var 0) uas_nil) (aCons_len (fun _ _ h => aNil_len h))) uas_nil) (aCons_len (fun _ _ h => aNil_len h))) (ue_un pu_neg ue_int) (fun _ _ => rfl))))))
def G_first_fault : FS := (gSeq (gFor (fEnum (fVar 0)) (.tp [(.nm 2), (.nm 3)])
        (gIf (tOrF (tNotF (fT (fBin pIdx (fVar 1) (fVar 2)))) (tAndF (fT (fBin pGt (fVar 2) (fC (.int 0)))) (fT (fBin pLe (fVar 3) (fBin pIdx (fVar 0) (fBin pSub (fVar 2) (fC (.int 1))))))))
          (gRet (fVar 2))
          gNx))
      (gRet (fC .non)))
def F_first_fault : Fn := defF 4 2 G_first_fault
def L_first_fault : Nat := 0 + 1
theorem okP_first_fault {f : Addr} {fd : FuncData} (F : Fun K "first_fault" "first_fault" s_first_fault f fd) (f_enumerate : mg "enumerate" = none) : FnOk P w K mg base (L2.CX P w) L_first_fault f fd ["values", "are_right"] (spG K 2 F_first_fault) :=
  ok_pure Ns_first_fault ["values", "are_right"] 4 2 0 G_first_fault F scs_first_fault rfl rfl (fun cdv A outer s H E hr =>
      (us_cons (us_for (passes_of rfl) rfl (ui_enum (by rfl) f_enumerate (ue_var 0)) (ug_tp rfl (ugs_cons (ug_nm (i := 2) scs_first_fault.nd rfl (Or.inl rfl)) (ugs_cons (ug_nm (i := 3) scs_first_fault.nd rfl (Or.inl rfl)) ugs_nil)))
        (us_one (us_if (PW.pt (uw_or (ut_not (ut_val (ue_ix (ue_var 1) (ue_var 2) (fun _ _ => rfl)))) (uw_or1 (PW.pt (uw_and (ut_cmp po_gt (ue_var 2) ue_int (nomark _)) (uw_and1 (ut_cmp (po_le (Nat.lt_of_le_of_lt (Nat.le_add_right _ 64) hr.units)) (ue_var 3) (ue_ix (ue_var 0) (ue_op po_sub (ue_var 2) ue_int) (fun _ _ => rfl)) (nomark _))))))))
          (us_one (us_ret (ue_var 2)))
          us_nil)))
      (us_one (us_ret ue_non))))
def G_is_pair : FS := (gRet (fAnd (fUn (pIsi CS (.t .tup)) (fVar 0)) (fBin pEq (fB bLen (fCons (fVar 0) fNil)) (fC (.int 2)))))
def F_is_pair : Fn := defF 1 1 G_is_pair
def L_is_pair : Nat := 0 + 1
theorem okP_is_pair {f : Addr} {fd : FuncData} (F : Fun K "is_pair" "is_pair" s_is_pair f fd) (CC : Clss K CS) (f_isinstance : mg "isinstance" = none) (f_len : mg "len" = none) (f_tuple : mg "tuple" = none) : FnOk P w K mg base (L2.CX P w) L_is_pair f fd ["value"] (spG K 1 F_is_pair) :=
  ok_pure Ns_is_pair ["value"] 1 1 0 G_is_pair F scs_is_pair rfl rfl (fun cdv A outer s H E hr =>
      (us_one (us_ret (ue_and (ue_isi (.t .tup) CC (by decide) (by rfl) f_isinstance (by decide +kernel) (ue_var 0) (pe_bltn (v := .ty "tuple") (by rfl) f_tuple (by decide +kernel) rfl)) (pe_one (ue_cmp (po_eq hr.units) (ue_callB pc_len (by rfl) f_len (by decide +kernel) (ua_cons (ue_var 0) ua_nil)) ue_int (nomark _)))))))
def G_is_ascending : FS := (gRet (fB bAll (fCons (fLc (fZip (fVar 0) (fCut (fVar 0) (fSo (fC (.int 1))) fNo)) [1, 2] (.tp [(.nm 1), (.nm 2)]) fYes (fBin pLt (fVar 1) (fVar 2))) fNil)))
def F_is_ascending : Fn := defF 3 1 G_is_ascending
def L_is_ascending : Nat := 0 + 1
theorem okP_is_ascending {f : Addr} {fd : FuncData} (F : Fun K "is_ascending" "is_ascending" s_is_ascending f fd) (f_all : mg "all" = none) (f_zip : mg "zip" = none) : FnOk P w K mg base (L2.CX P w) L_is_ascending f fd ["values"] (spG K 1 F_is_ascending) :=
  ok_pure Ns_is_ascending ["values"] 3 1 0 G_is_ascending F scs_is_ascending rfl rfl (fun cdv A outer s H E hr =>
      (us_one (us_ret (ue_callB (pc_all rfl) (by rfl) f_all (by decide +kernel) (ua_cons (ue_lc (own := [("before", 1), ("behind", 2)]) (t := (.tp [(.nm 1), (.nm 2)])) (c := fYes) (f := (fBin pLt (fVar 1) (fVar 2))) rfl scs_is_ascending.nd (ui_zip (by rfl) f_zip (ue_var 0) (ue_cut (ue_var 0) (uo_some ue_int) uo_none)) (blkOk_by (N := Ns_is_ascending) (sc := defScope s_is_ascending) (by decide +kernel)) (fun _ _ _ _ _ => by exact (ug_tp rfl (ugs_cons (ug_nm (i := 1) scs_is_ascending.nd rfl (Or.inl rfl)) (ugs_cons (ug_nm (i := 2) scs_is_ascending.nd rfl (Or.inl rfl)) ugs_nil)))) (fun _ _ _ _ _ => uts_nil) (fun _ _ _ _ _ => by exact (ue_cmp (po_lt (by exact Nat.lt_of_le_of_lt (Nat.le_add_right _ 64) hr.units)) (ue_var 1) (ue_var 2) (nomark _))) (by decide)) ua_nil)))))
def G_is_subset : FS := (gSeq (gIf (tNotF (fT (fUn (pIsi CS (.t .tup)) (fVar 0))))
        (gRet (fC (.bl false)))
        gNx)
      (gRet (fAnd (fB bAll (fCons (fLc (fSeq (fVar 0)) [2] (.nm 2) fYes (fCall F_is_between (aCons (fVar 2) (aCons (fC (.int 0)) (aCons (fBin pSub (fVar 1) (fC (.int 1))) aNil))))) fNil)) (fCall F_is_ascending (aCons (fVar 0) aNil)))))
def F_is_subset : Fn := defF 3 2 G_is_subset
def L_is_subset : Nat := (max L_is_between (max L_is_ascending 0)) + 1
theorem okP_is_subset {f : Addr} {fd : FuncData} (F : Fun K "is_subset" "is_subset" s_is_subset f fd) (CC : Clss K CS) (c_is_ascending : CaX P w K mg base L_is_ascending "is_ascending" (spG K 1 F_is_ascending)) (c_is_between : CaX P w K mg base L_is_between "is_between" (spG K 3 F_is_between)) (f_all : mg "all" = none) (f_isinstance : mg "isinstance" = none) (f_tuple : mg "tuple" = none) : FnOk P w K mg base (L2.CX P w) L_is_subset f fd ["value", "size"] (spG K 2 F_is_subset) :=
  ok_pure Ns_is_subset ["value", "size"] 3 2 (max L_is_between (max L_is_ascending 0)) G_is_subset F scs_is_subset rfl rfl (fun cdv A outer s H E hr =>
      (us_cons (us_if (ut_not (ut_val (ue_isi (.t .tup) CC (by decide) (by rfl) f_isinstance (by decide +kernel) (ue_var 0) (pe_bltn (v := .ty "tuple") (by rfl) f_tuple (by decide +kernel) rfl))))
        (us_one (us_ret ue_bl))
        us_nil)
      (us_one (us_ret (ue_and (ue_callB (pc_all rfl) (by rfl) f_all (by decide +kernel) (ua_cons (ue_lc (own := [("vertex", 2)]) (t := (.nm 2)) (c := fYes) (f := (fCall F_is_between (aCons (fVar 2) (aCons (fC (.int 0)) (aCons (fBin pSub (fVar 1) (fC (.int 1))) aNil))))) rfl scs_is_subset.nd (ui_seq (ue_var 0)) (blkOk_by (N := Ns_is_subset) (sc := defScope s_is_subset) (by decide +kernel)) (fun _ _ _ _ _ => by exact (ug_nm (i := 2) scs_is_subset.nd rfl (Or.inl rfl))) (fun _ _ _ _ _ => uts_nil) (fun _ _ _ _ _ => by exact (ue_call c_is_between (by exact hr) (by decide) (by rfl) passS (uas_cons (ue_var 2) (uas_cons ue_int (uas_cons (ue_op po_sub (ue_var 1) ue_int) uas_nil))) (aCons_len (aCons_len (aCons_len (fun _ _ h => aNil_len h)))))) (by decide)) ua_nil)) (pe_one (ue_call c_is_ascending hr (by decide) (by rfl) (fun σ => passAt (W := fun cls d _ H => E cls d H) (takes_of rfl rfl rfl rfl) σ) (uas_cons (ue_var 0) uas_nil) (aCons_len (fun _ _ h => aNil_len h)))))))))
def G_is_edge : FS := (gRet (fAnd (fCall F_is_pair (aCons (fVar 0) aNil)) (fCall F_is_subset (aCons (fVar 0) (aCons (fVar 1) aNil)))))
def F_is_edge : Fn := defF 2 2 G_is_edge
def L_is_edge : Nat := (max L_is_subset (max L_is_pair 0)) + 1
theorem okP_is_edge {f : Addr} {fd : FuncData} (F : Fun K "is_edge" "is_edge" s_is_edge f fd) (c_is_pair : CaX P w K mg base L_is_pair "is_pair" (spG K 1 F_is_pair)) (c_is_subset : CaX P w K mg base L_is_subset "is_subset" (spG K 2 F_is_subset)) : FnOk P w K mg base (L2.CX P w) L_is_edge f fd ["value", "size"] (spG K 2 F_is_edge) :=
  ok_pure Ns_is_edge ["value", "size"] 2 2 (max L_is_subset (max L_is_pair 0)) G_is_edge F scs_is_edge rfl rfl (fun cdv A outer s H E hr =>
      (us_one (us_ret (ue_and (ue_call c_is_pair hr (by decide) (by rfl) (fun σ => passAt (W := fun cls d _ H => E cls d H) (takes_of rfl rfl rfl rfl) σ) (uas_cons (ue_var 0) uas_nil) (aCons_len (fun _ _ h => aNil_len h))) (pe_one (ue_call c_is_subset hr (by decide) (by rfl) (fun σ => passAt (W := fun cls d _ H => E cls d H) (takes_of rfl rfl rfl rfl) σ) (uas_cons (ue_var 0) (uas_cons (ue_var 1) uas_nil)) (aCons_len (aCons_len (fun _ _ h => aNil_len h)))))))))
def G_is_sequence : FS := (gRet (fUn (pIsi2 CS (.t .lst) (.t .tup)) (fVar 0)))
def F_is_sequence : Fn := defF 1 1 G_is_sequence
def L_is_sequence : Nat := 0 + 1
theorem okP_is_sequence {f : Addr} {fd : FuncData} (F : Fun K "is_sequence" "is_sequence" s_is_sequence f fd) (CC : Clss K CS) (f_isinstance : mg "isinstance" = none) (f_list : mg "list" = none) (f_tuple : mg "tuple" = none) : FnOk P w K mg base (L2.CX P w) L_is_sequence f fd ["value"] (spG K 1 F_is_sequence) :=
  ok_pure Ns_is_sequence ["value"] 1 1 0 G_is_sequence F scs_is_sequence rfl rfl (fun cdv A outer s H E hr =>
      (us_one (us_ret (ue_isi2 (.t .lst) (.t .tup) CC (by decide) (by decide) (by rfl) f_isinstance (by decide +kernel) (ue_var 0) (pe_bltn (v := .ty "list") (by rfl) f_list (by decide +kernel) rfl) (pe_bltn (v := .ty "tuple") (by rfl) f_tuple (by decide +kernel) rfl)))))
def G_first_wrong_edge : FS := (gSeq (gIf (tNotF (fT (fCall F_is_sequence (aCons (fVar 1) aNil))))
        (gRet (fC (.int 0)))
        gNx)
      (gRet (fCall F_first_fault (aCons (fVar 1) (aCons (fLc (fSeq (fVar 1)) [2] (.nm 2) fYes (fCall F_is_edge (aCons (fVar 2) (aCons (fVar 0) aNil)))) aNil)))))
def F_first_wrong_edge : Fn := defF 3 2 G_first_wrong_edge
def L_first_wrong_edge : Nat := (max L_is_sequence (max L_is_edge (max L_first_fault 0))) + 1
theorem okP_first_wrong_edge {f : Addr} {fd : FuncData} (F : Fun K "first_wrong_edge" "first_wrong_edge" s_first_wrong_edge f fd) (c_first_fault : CaX P w K mg base L_first_fault "first_fault" (spG K 2 F_first_fault)) (c_is_edge : CaX P w K mg base L_is_edge "is_edge" (spG K 2 F_is_edge)) (c_is_sequence : CaX P w K mg base L_is_sequence "is_sequence" (spG K 1 F_is_sequence)) : FnOk P w K mg base (L2.CX P w) L_first_wrong_edge f fd ["size", "edges"] (spG K 2 F_first_wrong_edge) :=
  ok_pure Ns_first_wrong_edge ["size", "edges"] 3 2 (max L_is_sequence (max L_is_edge (max L_first_fault 0))) G_first_wrong_edge F scs_first_wrong_edge rfl rfl (fun cdv A outer s H E hr =>
      (us_cons (us_if (ut_not (ut_val (ue_call c_is_sequence hr (by decide) (by rfl) (fun σ => passAt (W := fun cls d _ H => E cls d H) (takes_of rfl rfl rfl rfl) σ) (uas_cons (ue_var 1) uas_nil) (aCons_len (fun _ _ h => aNil_len h)))))
        (us_one (us_ret ue_int))
        us_nil)
      (us_one (us_ret (ue_call c_first_fault hr (by decide) (by rfl) (fun σ => passAt (W := fun cls d _ H => E cls d H) (takes_of rfl rfl rfl rfl) σ) (uas_cons (ue_var 1) (uas_cons (ue_lc (own := [("edge", 2)]) (t := (.nm 2)) (c := fYes) (f := (fCall F_is_edge (aCons (fVar 2) (aCons (fVar 0) aNil)))) rfl scs_first_wrong_edge.nd (ui_seq (ue_var 1)) (blkOk_by (N := Ns_first_wrong_edge) (sc := defScope s_first_wrong_edge) (by decide +kernel)) (fun _ _ _ _ _ => by exact (ug_nm (i := 2) scs_first_wrong_edge.nd rfl (Or.inl rfl))) (fun _ _ _ _ _ => uts_nil) (fun _ _ _ _ _ => by exact (ue_call c_is_edge (by exact hr) (by decide) (by rfl) passS (uas_cons (ue_var 2) (uas_cons (ue_var 0) uas_nil)) (aCons_len (aCons_len (fun _ _ h => aNil_len h))))) (by decide)) uas_nil)) (aCons_len (aCons_len (fun _ _ h => aNil_len h))))))))
def G_Graph___init__ : FS := (gSeq (gIf (tNotF (fT (fCall F_is_between (aCons (fVar 1) (aCons (fC (.int 1)) (aCons (fC (.int C_MOST_VERTICES)) aNil))))))
        (gRaise "InvalidGraph" ["part", "place"] (fCons (fC (.str "size")) (fCons (fC (.int 0)) fNil)))
        gNx)
      (gSeq (gAsg (.nm 3) (fCall F_first_wrong_edge (aCons (fVar 1) (aCons (fVar 2) aNil))))
      (gSeq (gIf (fT (fBin pNotN (fVar 3) (fC .non)))
        (gRaise "InvalidGraph" ["part", "place"] (fCons (fC (.str "edges")) (fCons (fVar 3) fNil)))
        gNx)
      (gSeq (gFld "Graph" 0 "size" (fVar 1))
      (gSeq (gFld "Graph" 0 "edges" (fB bTuple (fCons (fVar 2) fNil)))
      (gSeq (gFld "Graph" 0 "_vertices" (fTupleRg1 (fVar 1)))
      (gFld "Graph" 0 "_rows" (fCall F_neighbor_rows (aCons (fVar 1) (aCons (fFldO "Graph" 0 "edges") aNil))))))))))
def F_Graph___init__ : Fn := defF 4 3 G_Graph___init__
def L_Graph___init__ : Nat := (max 2 (max L_neighbor_rows (max L_is_between (max L_first_wrong_edge 0)))) + 1
theorem okP_Graph___init__ {f : Addr} {fd : FuncData} (F : Fun K "__init__" "Graph.__init__" s_Graph___init__ f fd) (K_Graph : ClsP K "Graph" ["size", "edges", "_vertices", "_rows"]) (c_first_wrong_edge : CaX P w K mg base L_first_wrong_edge "first_wrong_edge" (spG K 2 F_first_wrong_edge)) (c_is_between : CaX P w K mg base L_is_between "is_between" (spG K 3 F_is_between)) (c_neighbor_rows : CaX P w K mg base L_neighbor_rows "neighbor_rows" (spG K 2 F_neighbor_rows)) (f_range : mg "range" = none) (f_tuple : mg "tuple" = none) (h_MOST_VERTICES : ∃ u, mg "MOST_VERTICES" = some u ∧ RelV (.int C_MOST_VERTICES) u) (r_InvalidGraph : ErrT2 P w K mg base "InvalidGraph" "part" "place" (He.ga K "InvalidGraph")) : FnOk P w K mg base (L2.CX P w) L_Graph___init__ f fd ["self", "size", "edges"] (spG K 3 F_Graph___init__) :=
  ok_pure Ns_Graph___init__ ["self", "size", "edges"] 4 3 (max 2 (max L_neighbor_rows (max L_is_between (max L_first_wrong_edge 0)))) G_Graph___init__ F scs_Graph___init__ rfl rfl (fun cdv A outer s H E hr =>
      (us_cons (us_if (ut_not (ut_val (ue_call c_is_between hr (by decide) (by rfl) (fun σ => passAt (W := fun cls d _ H => E cls d H) (takes_of rfl rfl rfl rfl) σ) (uas_cons (ue_var 1) (uas_cons ue_int (uas_cons (ue_gint (by rfl) h_MOST_VERTICES) uas_nil))) (aCons_len (aCons_len (aCons_len (fun _ _ h => aNil_len h)))))))
        (us_one (us_raise2 "InvalidGraph" r_InvalidGraph (takes_of rfl rfl rfl rfl) rfl hr (by decide) (by rfl) (ua_cons ue_str (ua_cons ue_int ua_nil))))
        us_nil)
      (us_cons (us_set (i := 3) scs_Graph___init__.nd rfl (Or.inl rfl) (ue_call c_first_wrong_edge hr (by decide) (by rfl) (fun σ => passAt (W := fun cls d _ H => E cls d H) (takes_of rfl rfl rfl rfl) σ) (uas_cons (ue_var 1) (uas_cons (ue_var 2) uas_nil)) (aCons_len (aCons_len (fun _ _ h => aNil_len h)))))
      (us_cons (us_if (ut_cmp po_notN (ue_var 3) ue_non (nomark _))
        (us_one (us_raise2 "InvalidGraph" r_InvalidGraph (takes_of rfl rfl rfl rfl) rfl hr (by decide) (by rfl) (ua_cons ue_str (ua_cons (ue_var 3) ua_nil))))
        us_nil)
      (us_cons (us_fld "Graph" 0 K_Graph (by decide) (ue_var 1) rfl)
      (us_cons (us_fld "Graph" 0 K_Graph (by decide) (ue_callTy pc_tuple (by rfl) f_tuple (by decide +kernel) (ua_cons (ue_var 2) ua_nil)) rfl)
      (us_cons (us_fld "Graph" 0 K_Graph (by decide) (ue_tupleRg1 (by rfl) f_tuple (by rfl) f_range rfl (ue_var 1)) rfl)
      (us_one (us_fld "Graph" 0 K_Graph (by decide) (ue_call c_neighbor_rows hr (by decide) (by rfl) (fun σ => passAt (W := fun cls d _ H => E cls d H) (takes_of rfl rfl rfl rfl) σ) (uas_cons (ue_var 1) (uas_cons (ue_fldO "Graph" 0 K_Graph (by decide) rfl) uas_nil)) (aCons_len (aCons_len (fun _ _ h => aNil_len h)))) rfl)))))))))
end
end Ev
namespace Ev
open PySem PySem.Spec PyProof.Rows L2
structure Gr where
  n : Nat
  qs : List (Int × Int)
  deriving DecidableEq
def vtx (n : Nat) : List Int := (List.range n).map fun (i : Nat) => (i : Int)
def gr_size (g : Gr) : Int := g.n
theorem gsz (g : Gr) : gr_size g = (g.n : Int) := rfl
def gr_edges (g : Gr) : List (Int × Int) := g.qs
def gr_vertices (g : Gr) : List Int := vtx g.n
def gr_rows (g : Gr) : List (List Int) := (List.range g.n).map fun (i : Nat) => nbr g.qs (i : Int)
def eG : Enc Gr := fun g => .obj "Graph" [("size", eI (gr_size g)), ("edges", eT (eP2 eI eI) (gr_edges g)), ("_vertices", eT eI (gr_vertices g)), ("_rows", eT (eT eI) (gr_rows g))]
theorem eG_inj {g h : Gr} (e : eG g = eG h) : g = h := by
  obtain ⟨n, qs⟩ := g
  obtain ⟨m, rs⟩ := h
  injection e with _ e
  injection e with e1 e
  injection e with e2 e
  have e1 : PV.int (n : Int) = PV.int (m : Int) := congrArg Prod.snd e1
  have e2 : PV.tup (qs.map (eP2 eI eI)) = PV.tup (rs.map (eP2 eI eI)) := congrArg Prod.snd e2
  injection e1 with e1
  injection e2 with e2
  have inj : ∀ xs ys : List (Int × Int), xs.map (eP2 eI eI) = ys.map (eP2 eI eI) → xs = ys := fun xs => by
    induction xs with
    | nil => intro ys h; cases ys with
      | nil => rfl
      | cons y ys => cases h
    | cons x xs ih => intro ys h; cases ys with
      | nil => cases h
      | cons y ys =>
        injection h with h1 h2
        obtain ⟨a, b⟩ := x
        obtain ⟨c, d⟩ := y
        injection h1 with h1
        injection h1 with h1 h3
        injection h3 with h3 h4
        injection h1 with h1
        injection h3 with h3
        have h1 : a = c := h1
        have h3 : b = d := h3
        rw [h1, h3, ih ys h2]
  rw [show n = m by omega, inj qs rs e2]
theorem us_gr_size : UnS (pFld "Graph" "size") eG eI fun g => W.ret (gr_size g) := fun _ _ _ q => ⟨_, rfl, q⟩
theorem us_gr_edges : UnS (pFld "Graph" "edges") eG (eT (eP2 eI eI)) fun g => W.ret (gr_edges g) := fun _ _ _ q => ⟨_, rfl, q⟩
theorem us_gr_vertices : UnS (pFld "Graph" "_vertices") eG (eT eI) fun g => W.ret (gr_vertices g) := fun _ _ _ q => ⟨_, rfl, q⟩
theorem us_gr_rows : UnS (pFld "Graph" "_rows") eG (eT (eT eI)) fun g => W.ret (gr_rows g) := fun _ _ _ q => ⟨_, rfl, q⟩
theorem us_grA_size : UnS (pFld "Graph" "size") eA eI fun p => W.bind (W.ex fun g => p = eG g) fun g => W.ret (gr_size g) := fun p _ _ ⟨g, e, q⟩ => ⟨_, by subst e; rfl, q⟩
theorem us_grA_edges : UnS (pFld "Graph" "edges") eA (eT (eP2 eI eI)) fun p => W.bind (W.ex fun g => p = eG g) fun g => W.ret (gr_edges g) := fun p _ _ ⟨g, e, q⟩ => ⟨_, by subst e; rfl, q⟩
theorem W.ex_eG (g : Gr) : W.ex (fun h => eG g = eG h) = W.ret g := W.ext fun Q X => ⟨fun ⟨h, e, q⟩ => by rw [eG_inj e]; exact q, fun q => ⟨g, rfl, q⟩⟩
theorem kind_eG (g : Gr) (h : ("Graph" : Str) ∈ CS) : kindOf CS (eG g) = some (.c "Graph") := by
  show (if ("Graph" : Str) ∈ CS then some (PT1.c "Graph") else none) = _
  rw [if_pos h]
theorem recvG {m : Str} {g : Gr} (h : (m == ("size" : Str)) = false ∧ (m == ("edges" : Str)) = false ∧ (m == ("_vertices" : Str)) = false ∧ (m == ("_rows" : Str)) = false) : isRecv "Graph" m (eG g) = true := by
  unfold isRecv eG
  dsimp only
  rw [List.lookup_cons, h.1]
  dsimp only
  rw [List.lookup_cons, h.2.1]
  dsimp only
  rw [List.lookup_cons, h.2.2.1]
  dsimp only
  rw [List.lookup_cons, h.2.2.2]
  rfl
section
variable {α τ : Type} {Γ : Ctx} {fa : FE} {wa : W Gr} {ea : Enc α}
theorem si_iterG (h : Sim fa Γ eG wa) : SimI (fIterG "Graph" fa) Γ eI (W.bind wa fun g => W.ret (gr_vertices g)) := fun ρ m => (h ρ m).bnd fun g ρ1 m1 => Ok1.ofO m1 fun Q X q => ⟨_, rfl, q⟩
end
def f_is_integer (value' : PV) : W Bool := (W.bind (W.bind (W.ret value') fun p => W.bind (W.opt (kindOf CS p)) fun k => W.ret (k.is (.t .int))) fun a => if a = true then (W.bind (W.bind (W.ret value') fun p => W.bind (W.opt (kindOf CS p)) fun k => W.ret (k.is (.t .bl))) fun a => W.ret (!a)) else W.ret false)
theorem t_is_integer : FnW F_is_integer (fun t : PV × Unit => [.v (eA t.1)]) [.top] false eB (fun t => f_is_integer t.1) :=
  fn_of (nN := 1) (n := 1) (G := G_is_integer) (σ := Empty) (Γo := fun _ z => z.elim) (k := fun _ z => z.elim) rfl ⟨trivial, trivial⟩ (fun t => (show SimC G_is_integer [.v (eA t.1)] (MtP [.top]) (OF false eB [.top]) _ _ (f_is_integer t.1) from (sc_ret (se_and (se_un us_isi (sv_var 0 rfl)) (se_not (se_un us_isi (sv_var 0 rfl)))) (eP (by exact ⟨trivial, SubP.nil⟩)) (by exact ⟨trivial, SubP.nil⟩)))) fn_no
def f_is_between (value' : PV) (least' : Int) (greatest' : Int) : W Bool := (W.bind (W.bind (W.bind (W.ret value') fun a => W.bind (W.ret ()) fun b => W.ret (a, b)) (fun t => f_is_integer t.1)) fun a => if a = true then (W.bind (W.ret least') fun a => W.bind (W.bind (W.ret value') fun p => W.opt (pyI p)) fun b => W.bind (W.ret (decide (a ≤ b))) fun k => if k = true then W.bind (W.ret greatest') fun c => W.ret (decide (b ≤ c)) else W.ret false) else W.ret false)
theorem t_is_between : FnW F_is_between (fun t : PV × Int × Int × Unit => [.v (eA t.1), .v (eI t.2.1), .v (eI t.2.2.1)]) [.top, .top, .top] false eB (fun t => f_is_between t.1 t.2.1 t.2.2.1) :=
  fn_of (nN := 3) (n := 3) (G := G_is_between) (σ := Empty) (Γo := fun _ z => z.elim) (k := fun _ z => z.elim) rfl ⟨trivial, trivial, trivial, trivial⟩ (fun t => (show SimC G_is_between [.v (eA t.1), .v (eI t.2.1), .v (eI t.2.2.1)] (MtP [.top, .top, .top]) (OF false eB [.top, .top, .top]) _ _ (f_is_between t.1 t.2.1 t.2.2.1) from (sc_ret (se_and (se_call t_is_integer (sr_cons (sv_var 0 rfl) sr_nil) (fun _ => (by exact ⟨⟨rfl, trivial⟩, trivial, List.nodup_nil⟩))) (se_chain os_le os_le (sv_var 1 rfl) (sim_cox (R' := eI) co_I (sv_var 0 rfl)) (sv_var 2 rfl))) (eP (by exact ⟨trivial, trivial, trivial, SubP.nil⟩)) (by exact ⟨trivial, trivial, trivial, SubP.nil⟩)))) fn_no
def f_is_sequence (value' : PV) : W Bool := (W.bind (W.ret value') fun p => W.bind (W.opt (kindOf CS p)) fun k => W.ret (k.is (.t .lst) || k.is (.t .tup)))
theorem t_is_sequence : FnW F_is_sequence (fun t : PV × Unit => [.v (eA t.1)]) [.top] false eB (fun t => f_is_sequence t.1) :=
  fn_of (nN := 1) (n := 1) (G := G_is_sequence) (σ := Empty) (Γo := fun _ z => z.elim) (k := fun _ z => z.elim) rfl ⟨trivial, trivial⟩ (fun t => (show SimC G_is_sequence [.v (eA t.1)] (MtP [.top]) (OF false eB [.top]) _ _ (f_is_sequence t.1) from (sc_ret (se_un us_isi2 (sv_var 0 rfl)) (eP (by exact ⟨trivial, SubP.nil⟩)) (by exact ⟨trivial, SubP.nil⟩)))) fn_no
def f_is_pair (value' : PV) : W Bool := (W.bind (W.bind (W.ret value') fun p => W.bind (W.opt (kindOf CS p)) fun k => W.ret (k.is (.t .tup))) fun a => if a = true then (W.bind (W.bind (W.ret value') fun a => W.ex fun n => bLen [a] = some (.int n)) fun a => W.bind (W.ret (2 : Int)) fun b => W.ret (decide (a = b))) else W.ret false)
theorem t_is_pair : FnW F_is_pair (fun t : PV × Unit => [.v (eA t.1)]) [.top] false eB (fun t => f_is_pair t.1) :=
  fn_of (nN := 1) (n := 1) (G := G_is_pair) (σ := Empty) (Γo := fun _ z => z.elim) (k := fun _ z => z.elim) rfl ⟨trivial, trivial⟩ (fun t => (show SimC G_is_pair [.v (eA t.1)] (MtP [.top]) (OF false eB [.top]) _ _ (f_is_pair t.1) from (sc_ret (se_and (se_un us_isi (sv_var 0 rfl)) (se_bin (os_eq ((dat_I).eq (by decide))) (se_b1 bs_lenA (sv_var 0 rfl)) (sv_c (ea := eI) (x := 2) rfl))) (eP (by exact ⟨trivial, SubP.nil⟩)) (by exact ⟨trivial, SubP.nil⟩)))) fn_no
def f_is_ascending (values' : PV) : W Bool := (W.bind (W.bind (W.bind (W.ret values') fun p => W.bind (W.bind (W.ret values') fun p => W.bind (W.bind (W.ret (1 : Int)) fun k => W.ret (some k)) fun l => W.bind (W.ret none) fun h => W.opt (pCut p l h)) fun q => W.opt (zipA p q)) fun xs => W.lc (fun p1' => (W.ret true)) (fun p1' => (W.bind (W.ret p1'.1) fun a => W.bind (W.ret p1'.2) fun b => W.ex fun c => pLt a b = some (.bl c))) xs) fun a => W.ret (a.all id))
theorem t_is_ascending : FnW F_is_ascending (fun t : PV × Unit => [.v (eA t.1)]) [.top] false eB (fun t => f_is_ascending t.1) :=
  fn_of (nN := 3) (n := 1) (G := G_is_ascending) (σ := Empty) (Γo := fun _ z => z.elim) (k := fun _ z => z.elim) rfl ⟨trivial, trivial⟩ (fun t => (show SimC G_is_ascending [.v (eA t.1), .jk, .jk] (MtP [.top]) (OF false eB [.top]) _ _ (f_is_ascending t.1) from (sc_ret (se_b1 bs_all (se_lc (vs := [1, 2]) (si_zipA (sv_var 0 rfl) (se_cutA (sv_var 0 rfl) (so_so (sv_c (ea := eI) (x := 1) rfl)) so_no)) ⟨trivial, trivial, trivial⟩ (ag_tp2 (ag_nm 1 rfl (by exact trivial)) (fun _ => (ag_nm 2 rfl (by exact trivial)))) (fun _ => ⟨trivial, trivial, trivial⟩) (fun _ => rfl) (fun p1' => st_yes) (fun p1' => (se_bin os_ltA (sv_var 1 rfl) (sv_var 2 rfl))))) (eP (by exact ⟨trivial, SubP.nil⟩)) (by exact ⟨trivial, SubP.nil⟩)))) fn_no
def f_first_fault (values' : PV) (are_right' : (List Bool)) : W (Option Int) := (W.bind (W.bind (W.ret values') fun p => W.bind (W.opt (seqP p)) fun xs => W.ret (enumFrom 0 xs)) fun xs => W.bind (W.forB (fun s1' p2' => (W.bind (W.bind (W.bind (W.bind (W.ret are_right') fun a => W.bind (W.ret p2'.1) fun b => W.opt (atI a b)) fun a => W.ret (!a)) fun a => if a = true then W.ret true else (W.bind (W.bind (W.ret p2'.1) fun a => W.bind (W.ret (0 : Int)) fun b => W.ret (decide (b < a))) fun a => if a = true then (W.bind (W.ret p2'.2) fun a => W.bind (W.bind (W.ret values') fun a => W.bind (W.bind (W.ret p2'.1) fun a => W.bind (W.ret (1 : Int)) fun b => W.ret (a - b)) fun b => W.opt (pIdx a (.int b))) fun b => W.ex fun c => pLe a b = some (.bl c)) else W.ret false)) fun b => if b = true then (W.bind (W.bind (W.ret p2'.1) fun a => W.ret (some a)) fun a => W.ret (St.ret a)) else (W.ret (St.go ())))) xs ()) (W.cont (fun _ => (W.bind (W.ret ()) fun _ => W.ret none)) fun v => W.ret v))
theorem t_first_fault : FnW F_first_fault (fun t : PV × (List Bool) × Unit => [.v (eA t.1), .v ((eL eB) t.2.1)]) [.top, .top] false (eO eI) (fun t => f_first_fault t.1 t.2.1) :=
  fn_of (nN := 4) (n := 2) (G := G_first_fault) (σ := Empty) (Γo := fun _ z => z.elim) (k := fun _ z => z.elim) rfl ⟨trivial, trivial, trivial⟩ (fun t => (show SimC G_first_fault [.v (eA t.1), .v ((eL eB) t.2.1), .jk, .jk] (MtP [.top, .top]) (OF false (eO eI) [.top, .top]) _ _ (f_first_fault t.1 t.2.1) from (sc_seq (sc_forB (β := (Option Int)) (Γo := fun (s1' : Unit) => [.v (eA t.1), .v ((eL eB) t.2.1), .jk, .jk]) (Ob := OF false (eO eI) [.top, .top]) (h := fun v => v) (si_enumA (sv_var 0 rfl)) (eP (by exact ⟨trivial, trivial, SubP.nil⟩)) (by exact ⟨rfl, rfl, trivial, trivial, trivial⟩) (fun s1' => (ag_tp2 (ag_nm 2 rfl (by exact trivial)) (fun _ => (ag_nm 3 rfl (by exact trivial))))) oF_id (fun s1' p2' => (sc_if (st_or (st_not (st_T (se_bin os_idxL (sv_var 1 rfl) (sv_var 2 rfl)))) (st_and (st_T (se_bin os_gt (sv_var 2 rfl) (sv_c (ea := eI) (x := 0) rfl))) (st_T (se_bin os_leA (sv_var 3 rfl) (se_bin os_idxA (sv_var 0 rfl) (se_bin os_sub (sv_var 2 rfl) (sv_c (ea := eI) (x := 1) rfl))))))) (eP (by exact ⟨trivial, trivial, SubP.nil⟩)) (sc_retL (sim_co (R' := (eO eI)) some (fun _ => rfl) (sv_var 2 rfl)) (eP (by exact ⟨trivial, trivial, SubP.nil⟩)) (by exact ⟨trivial, trivial, SubP.nil⟩)) (sc_nx (s := ()) (by exact ⟨rfl, rfl, trivial, trivial, trivial⟩))))) (fun s1' => (sc_ret (sim_co (R' := (eO eI)) (fun _ => none) (fun _ => rfl) (sv_c (ea := eN) (x := ()) rfl)) (eP (by exact ⟨trivial, trivial, SubP.nil⟩)) (by exact ⟨trivial, trivial, SubP.nil⟩)))))) fn_no
def f_is_subset (value' : PV) (size' : Int) : W Bool := (W.bind (W.bind (W.bind (W.ret value') fun p => W.bind (W.opt (kindOf CS p)) fun k => W.ret (k.is (.t .tup))) fun a => W.ret (!a)) fun b => if b = true then (W.ret false) else (W.bind (W.bind (W.bind (W.bind (W.ret value') fun p => W.opt (seqP p)) fun xs => W.lc (fun vertex' => (W.ret true)) (fun vertex' => (W.bind (W.bind (W.ret vertex') fun a => W.bind (W.bind (W.ret (0 : Int)) fun a => W.bind (W.bind (W.bind (W.ret size') fun a => W.bind (W.ret (1 : Int)) fun b => W.ret (a - b)) fun a => W.bind (W.ret ()) fun b => W.ret (a, b)) fun b => W.ret (a, b)) fun b => W.ret (a, b)) (fun t => f_is_between t.1 t.2.1 t.2.2.1))) xs) fun a => W.ret (a.all id)) fun a => if a = true then (W.bind (W.bind (W.ret value') fun a => W.bind (W.ret ()) fun b => W.ret (a, b)) (fun t => f_is_ascending t.1)) else W.ret false))
theorem t_is_subset : FnW F_is_subset (fun t : PV × Int × Unit => [.v (eA t.1), .v (eI t.2.1)]) [.top, .top] false eB (fun t => f_is_subset t.1 t.2.1) :=
  fn_of (nN := 3) (n := 2) (G := G_is_subset) (σ := Empty) (Γo := fun _ z => z.elim) (k := fun _ z => z.elim) rfl ⟨trivial, trivial, trivial⟩ (fun t => (show SimC G_is_subset [.v (eA t.1), .v (eI t.2.1), .jk] (MtP [.top, .top]) (OF false eB [.top, .top]) _ _ (f_is_subset t.1 t.2.1) from (sc_ifx0 (st_not (st_T (se_un us_isi (sv_var 0 rfl)))) (eP (by exact ⟨trivial, trivial, SubP.nil⟩)) (sc_ret (sv_c (ea := eB) (x := false) rfl) (eP (by exact ⟨trivial, trivial, SubP.nil⟩)) (by exact ⟨trivial, trivial, SubP.nil⟩)) (sc_ret (se_and (se_b1 bs_all (se_lc (vs := [2]) (si_seqA (sv_var 0 rfl)) ⟨trivial, trivial⟩ (ag_nm 2 rfl (by exact trivial)) (fun _ => ⟨trivial, trivial⟩) (fun _ => rfl) (fun vertex' => st_yes) (fun vertex' => (se_call t_is_between (sr_cons (sv_var 2 rfl) (sr_cons (sv_c (ea := eI) (x := 0) rfl) (sr_cons (se_bin os_sub (sv_var 1 rfl) (sv_c (ea := eI) (x := 1) rfl)) sr_nil))) (fun _ => (by exact ⟨⟨rfl, rfl, rfl, trivial⟩, trivial, List.nodup_nil⟩)))))) (se_call t_is_ascending (sr_cons (sv_var 0 rfl) sr_nil) (fun _ => (by exact ⟨⟨rfl, trivial⟩, trivial, List.nodup_nil⟩)))) (eP (by exact ⟨trivial, trivial, SubP.nil⟩)) (by exact ⟨trivial, trivial, SubP.nil⟩))))) fn_no
def f_is_edge (value' : PV) (size' : Int) : W Bool := (W.bind (W.bind (W.bind (W.ret value') fun a => W.bind (W.ret ()) fun b => W.ret (a, b)) (fun t => f_is_pair t.1)) fun a => if a = true then (W.bind (W.bind (W.ret value') fun a => W.bind (W.bind (W.ret size') fun a => W.bind (W.ret ()) fun b => W.ret (a, b)) fun b => W.ret (a, b)) (fun t => f_is_subset t.1 t.2.1)) else W.ret false)
theorem t_is_edge : FnW F_is_edge (fun t : PV × Int × Unit => [.v (eA t.1), .v (eI t.2.1)]) [.top, .top] false eB (fun t => f_is_edge t.1 t.2.1) :=
  fn_of (nN := 2) (n := 2) (G := G_is_edge) (σ := Empty) (Γo := fun _ z => z.elim) (k := fun _ z => z.elim) rfl ⟨trivial, trivial, trivial⟩ (fun t => (show SimC G_is_edge [.v (eA t.1), .v (eI t.2.1)] (MtP [.top, .top]) (OF false eB [.top, .top]) _ _ (f_is_edge t.1 t.2.1) from (sc_ret (se_and (se_call t_is_pair (sr_cons (sv_var 0 rfl) sr_nil) (fun _ => (by exact ⟨⟨rfl, trivial⟩, trivial, List.nodup_nil⟩))) (se_call t_is_subset (sr_cons (sv_var 0 rfl) (sr_cons (sv_var 1 rfl) sr_nil)) (fun _ => (by exact ⟨⟨rfl, rfl, trivial⟩, trivial, List.nodup_nil⟩)))) (eP (by exact ⟨trivial, trivial, SubP.nil⟩)) (by exact ⟨trivial, trivial, SubP.nil⟩)))) fn_no
def f_first_wrong_edge (size' : Int) (edges' : PV) : W (Option Int) := (W.bind (W.bind (W.bind (W.bind (W.ret edges') fun a => W.bind (W.ret ()) fun b => W.ret (a, b)) (fun t => f_is_sequence t.1)) fun a => W.ret (!a)) fun b => if b = true then (W.bind (W.ret (0 : Int)) fun a => W.ret (some a)) else (W.bind (W.bind (W.ret edges') fun a => W.bind (W.bind (W.bind (W.bind (W.ret edges') fun p => W.opt (seqP p)) fun xs => W.lc (fun edge' => (W.ret true)) (fun edge' => (W.bind (W.bind (W.ret edge') fun a => W.bind (W.bind (W.ret size') fun a => W.bind (W.ret ()) fun b => W.ret (a, b)) fun b => W.ret (a, b)) (fun t => f_is_edge t.1 t.2.1))) xs) fun a => W.bind (W.ret ()) fun b => W.ret (a, b)) fun b => W.ret (a, b)) (fun t => f_first_fault t.1 t.2.1)))
theorem t_first_wrong_edge : FnW F_first_wrong_edge (fun t : Int × PV × Unit => [.v (eI t.1), .v (eA t.2.1)]) [.top, .top] false (eO eI) (fun t => f_first_wrong_edge t.1 t.2.1) :=
  fn_of (nN := 3) (n := 2) (G := G_first_wrong_edge) (σ := Empty) (Γo := fun _ z => z.elim) (k := fun _ z => z.elim) rfl ⟨trivial, trivial, trivial⟩ (fun t => (show SimC G_first_wrong_edge [.v (eI t.1), .v (eA t.2.1), .jk] (MtP [.top, .top]) (OF false (eO eI) [.top, .top]) _ _ (f_first_wrong_edge t.1 t.2.1) from (sc_ifx0 (st_not (st_T (se_call t_is_sequence (sr_cons (sv_var 1 rfl) sr_nil) (fun _ => (by exact ⟨⟨rfl, trivial⟩, trivial, List.nodup_nil⟩))))) (eP (by exact ⟨trivial, trivial, SubP.nil⟩)) (sc_ret (sim_co (R' := (eO eI)) some (fun _ => rfl) (sv_c (ea := eI) (x := 0) rfl)) (eP (by exact ⟨trivial, trivial, SubP.nil⟩)) (by exact ⟨trivial, trivial, SubP.nil⟩)) (sc_ret (se_call t_first_fault (sr_cons (sv_var 1 rfl) (sr_cons (se_lc (vs := [2]) (si_seqA (sv_var 1 rfl)) ⟨trivial, trivial⟩ (ag_nm 2 rfl (by exact trivial)) (fun _ => ⟨trivial, trivial⟩) (fun _ => rfl) (fun edge' => st_yes) (fun edge' => (se_call t_is_edge (sr_cons (sv_var 2 rfl) (sr_cons (sv_var 0 rfl) sr_nil)) (fun _ => (by exact ⟨⟨rfl, rfl, trivial⟩, trivial, List.nodup_nil⟩))))) sr_nil)) (fun _ => (by exact ⟨⟨rfl, rfl, trivial⟩, trivial, List.nodup_nil⟩))) (eP (by exact ⟨trivial, trivial, SubP.nil⟩)) (by exact ⟨trivial, trivial, SubP.nil⟩))))) fn_no
end Ev
namespace Ev
open PySem PySem.Spec PyProof.Rows L2
theorem fin_I (i : Int) : f_is_integer (.int i) = W.ret true := by
  unfold f_is_integer
  simp only [W.ret_bind, W.bind_bind, W.req_T, List.length_cons, List.length_nil, Nat.reduceAdd, Nat.reduceLeDiff, W.opt_some, W.no_ret, W.no_bind, W.no_opt, W.no_req, W.no_no, W.ite_ret, W.cont_go, W.cont_ret, W.cont_brk, if_true, if_false, Bool.false_eq_true, Bool.not_true, Bool.not_false, pyI_int, pyB_bl, py2_tup, gsz, kind_non, kind_bl, kind_int, kind_str, kind_tup, kind_lst, is_tt, is_tc, is_ct, cc_G, Bool.or_false, Bool.or_true, Bool.and_true, Bool.and_false, Bool.true_and, Bool.false_and, Bool.true_or, Bool.false_or, tg_non_non, tg_non_bl, tg_non_int, tg_non_str, tg_non_tup, tg_non_lst, tg_bl_non, tg_bl_bl, tg_bl_int, tg_bl_str, tg_bl_tup, tg_bl_lst, tg_int_non, tg_int_bl, tg_int_int, tg_int_str, tg_int_tup, tg_int_lst, tg_str_non, tg_str_bl, tg_str_int, tg_str_str, tg_str_tup, tg_str_lst, tg_tup_non, tg_tup_bl, tg_tup_int, tg_tup_str, tg_tup_tup, tg_tup_lst, tg_lst_non, tg_lst_bl, tg_lst_int, tg_lst_str, tg_lst_tup, tg_lst_lst, ]
theorem between_I (i a b : Int) : f_is_between (.int i) a b = W.ret (decide (a ≤ i ∧ i ≤ b)) := by
  unfold f_is_between
  simp only [W.ret_bind, W.bind_bind, W.req_T, List.length_cons, List.length_nil, Nat.reduceAdd, Nat.reduceLeDiff, W.opt_some, W.no_ret, W.no_bind, W.no_opt, W.no_req, W.no_no, W.ite_ret, W.cont_go, W.cont_ret, W.cont_brk, if_true, if_false, Bool.false_eq_true, Bool.not_true, Bool.not_false, pyI_int, pyB_bl, py2_tup, gsz, kind_non, kind_bl, kind_int, kind_str, kind_tup, kind_lst, is_tt, is_tc, is_ct, cc_G, Bool.or_false, Bool.or_true, Bool.and_true, Bool.and_false, Bool.true_and, Bool.false_and, Bool.true_or, Bool.false_or, tg_non_non, tg_non_bl, tg_non_int, tg_non_str, tg_non_tup, tg_non_lst, tg_bl_non, tg_bl_bl, tg_bl_int, tg_bl_str, tg_bl_tup, tg_bl_lst, tg_int_non, tg_int_bl, tg_int_int, tg_int_str, tg_int_tup, tg_int_lst, tg_str_non, tg_str_bl, tg_str_int, tg_str_str, tg_str_tup, tg_str_lst, tg_tup_non, tg_tup_bl, tg_tup_int, tg_tup_str, tg_tup_tup, tg_tup_lst, tg_lst_non, tg_lst_bl, tg_lst_int, tg_lst_str, tg_lst_tup, tg_lst_lst, fin_I]
  by_cases h : a ≤ i
  · rw [decide_eq_true h]
    simp only [W.ret_bind, W.bind_bind, W.req_T, List.length_cons, List.length_nil, Nat.reduceAdd, Nat.reduceLeDiff, W.opt_some, W.no_ret, W.no_bind, W.no_opt, W.no_req, W.no_no, W.ite_ret, W.cont_go, W.cont_ret, W.cont_brk, if_true, if_false, Bool.false_eq_true, Bool.not_true, Bool.not_false, pyI_int, pyB_bl, py2_tup, gsz, kind_non, kind_bl, kind_int, kind_str, kind_tup, kind_lst, is_tt, is_tc, is_ct, cc_G, Bool.or_false, Bool.or_true, Bool.and_true, Bool.and_false, Bool.true_and, Bool.false_and, Bool.true_or, Bool.false_or, tg_non_non, tg_non_bl, tg_non_int, tg_non_str, tg_non_tup, tg_non_lst, tg_bl_non, tg_bl_bl, tg_bl_int, tg_bl_str, tg_bl_tup, tg_bl_lst, tg_int_non, tg_int_bl, tg_int_int, tg_int_str, tg_int_tup, tg_int_lst, tg_str_non, tg_str_bl, tg_str_int, tg_str_str, tg_str_tup, tg_str_lst, tg_tup_non, tg_tup_bl, tg_tup_int, tg_tup_str, tg_tup_tup, tg_tup_lst, tg_lst_non, tg_lst_bl, tg_lst_int, tg_lst_str, tg_lst_tup, tg_lst_lst, ]
    exact congrArg W.ret (by simp [h])
  · rw [decide_eq_false h]
    simp only [W.ret_bind, W.bind_bind, W.req_T, List.length_cons, List.length_nil, Nat.reduceAdd, Nat.reduceLeDiff, W.opt_some, W.no_ret, W.no_bind, W.no_opt, W.no_req, W.no_no, W.ite_ret, W.cont_go, W.cont_ret, W.cont_brk, if_true, if_false, Bool.false_eq_true, Bool.not_true, Bool.not_false, pyI_int, pyB_bl, py2_tup, gsz, kind_non, kind_bl, kind_int, kind_str, kind_tup, kind_lst, is_tt, is_tc, is_ct, cc_G, Bool.or_false, Bool.or_true, Bool.and_true, Bool.and_false, Bool.true_and, Bool.false_and, Bool.true_or, Bool.false_or, tg_non_non, tg_non_bl, tg_non_int, tg_non_str, tg_non_tup, tg_non_lst, tg_bl_non, tg_bl_bl, tg_bl_int, tg_bl_str, tg_bl_tup, tg_bl_lst, tg_int_non, tg_int_bl, tg_int_int, tg_int_str, tg_int_tup, tg_int_lst, tg_str_non, tg_str_bl, tg_str_int, tg_str_str, tg_str_tup, tg_str_lst, tg_tup_non, tg_tup_bl, tg_tup_int, tg_tup_str, tg_tup_tup, tg_tup_lst, tg_lst_non, tg_lst_bl, tg_lst_int, tg_lst_str, tg_lst_tup, tg_lst_lst, ]
    exact congrArg W.ret (by simp [h])
theorem pair_2 (p q : PV) : f_is_pair (.tup [p, q]) = W.ret true := by
  unfold f_is_pair
  simp only [W.ret_bind, W.bind_bind, W.req_T, List.length_cons, List.length_nil, Nat.reduceAdd, Nat.reduceLeDiff, W.opt_some, W.no_ret, W.no_bind, W.no_opt, W.no_req, W.no_no, W.ite_ret, W.cont_go, W.cont_ret, W.cont_brk, if_true, if_false, Bool.false_eq_true, Bool.not_true, Bool.not_false, pyI_int, pyB_bl, py2_tup, gsz, kind_non, kind_bl, kind_int, kind_str, kind_tup, kind_lst, is_tt, is_tc, is_ct, cc_G, Bool.or_false, Bool.or_true, Bool.and_true, Bool.and_false, Bool.true_and, Bool.false_and, Bool.true_or, Bool.false_or, tg_non_non, tg_non_bl, tg_non_int, tg_non_str, tg_non_tup, tg_non_lst, tg_bl_non, tg_bl_bl, tg_bl_int, tg_bl_str, tg_bl_tup, tg_bl_lst, tg_int_non, tg_int_bl, tg_int_int, tg_int_str, tg_int_tup, tg_int_lst, tg_str_non, tg_str_bl, tg_str_int, tg_str_str, tg_str_tup, tg_str_lst, tg_tup_non, tg_tup_bl, tg_tup_int, tg_tup_str, tg_tup_tup, tg_tup_lst, tg_lst_non, tg_lst_bl, tg_lst_int, tg_lst_str, tg_lst_tup, tg_lst_lst, show Tg.is .tup .tup = true from rfl, W.ex_int (show bLen [PV.tup [p, q]] = some (.int 2) from rfl)]
  rfl
theorem seq_tup (ps : List PV) : f_is_sequence (.tup ps) = W.ret true := by
  unfold f_is_sequence
  simp only [W.ret_bind, W.bind_bind, W.req_T, List.length_cons, List.length_nil, Nat.reduceAdd, Nat.reduceLeDiff, W.opt_some, W.no_ret, W.no_bind, W.no_opt, W.no_req, W.no_no, W.ite_ret, W.cont_go, W.cont_ret, W.cont_brk, if_true, if_false, Bool.false_eq_true, Bool.not_true, Bool.not_false, pyI_int, pyB_bl, py2_tup, gsz, kind_non, kind_bl, kind_int, kind_str, kind_tup, kind_lst, is_tt, is_tc, is_ct, cc_G, Bool.or_false, Bool.or_true, Bool.and_true, Bool.and_false, Bool.true_and, Bool.false_and, Bool.true_or, Bool.false_or, tg_non_non, tg_non_bl, tg_non_int, tg_non_str, tg_non_tup, tg_non_lst, tg_bl_non, tg_bl_bl, tg_bl_int, tg_bl_str, tg_bl_tup, tg_bl_lst, tg_int_non, tg_int_bl, tg_int_int, tg_int_str, tg_int_tup, tg_int_lst, tg_str_non, tg_str_bl, tg_str_int, tg_str_str, tg_str_tup, tg_str_lst, tg_tup_non, tg_tup_bl, tg_tup_int, tg_tup_str, tg_tup_tup, tg_tup_lst, tg_lst_non, tg_lst_bl, tg_lst_int, tg_lst_str, tg_lst_tup, tg_lst_lst, ]
theorem seq_lst (ps : List PV) : f_is_sequence (.lst ps) = W.ret true := by
  unfold f_is_sequence
  simp only [W.ret_bind, W.bind_bind, W.req_T, List.length_cons, List.length_nil, Nat.reduceAdd, Nat.reduceLeDiff, W.opt_some, W.no_ret, W.no_bind, W.no_opt, W.no_req, W.no_no, W.ite_ret, W.cont_go, W.cont_ret, W.cont_brk, if_true, if_false, Bool.false_eq_true, Bool.not_true, Bool.not_false, pyI_int, pyB_bl, py2_tup, gsz, kind_non, kind_bl, kind_int, kind_str, kind_tup, kind_lst, is_tt, is_tc, is_ct, cc_G, Bool.or_false, Bool.or_true, Bool.and_true, Bool.and_false, Bool.true_and, Bool.false_and, Bool.true_or, Bool.false_or, tg_non_non, tg_non_bl, tg_non_int, tg_non_str, tg_non_tup, tg_non_lst, tg_bl_non, tg_bl_bl, tg_bl_int, tg_bl_str, tg_bl_tup, tg_bl_lst, tg_int_non, tg_int_bl, tg_int_int, tg_int_str, tg_int_tup, tg_int_lst, tg_str_non, tg_str_bl, tg_str_int, tg_str_str, tg_str_tup, tg_str_lst, tg_tup_non, tg_tup_bl, tg_tup_int, tg_tup_str, tg_tup_tup, tg_tup_lst, tg_lst_non, tg_lst_bl, tg_lst_int, tg_lst_str, tg_lst_tup, tg_lst_lst, ]
/-- each above the one before it -/
def ascB : List Int → Bool
  | a :: b :: r => decide (a < b) && ascB (b :: r)
  | _ => true
theorem ascB_iff : ∀ {xs : List Int}, ascB xs = true ↔ xs.Pairwise (· < ·)
  | [] => by simp [ascB]
  | [a] => by simp [ascB]
  | a :: b :: r => by
    rw [ascB, Bool.and_eq_true, decide_eq_true_eq, ascB_iff, List.pairwise_cons (a := a)]
    refine ⟨fun ⟨h1, h2⟩ => ⟨fun x hx => ?_, h2⟩, fun ⟨h1, h2⟩ => ⟨h1 b List.mem_cons_self, h2⟩⟩
    rcases List.mem_cons.mp hx with rfl | hx
    · exact h1
    · exact Int.lt_trans h1 ((List.pairwise_cons.mp h2).1 x hx)
theorem ascB_zip : ∀ xs : List Int, ((xs.zip (xs.drop 1)).map fun p => decide (p.1 < p.2)).all id = ascB xs
  | [] => rfl
  | [a] => rfl
  | a :: b :: r => by
    have ih := ascB_zip (b :: r)
    show (decide (a < b) && (((b :: r).zip r).map fun p => decide (p.1 < p.2)).all id) = _
    rw [ascB]
    exact congrArg _ ih
theorem cutOne {α : Type} (xs : List α) : cut xs (some 1) none = xs.drop 1 := by
  have e1 : HT.sIx xs.length 0 (some 1) = min 1 xs.length := HT.sIx_nat _ _ 1
  unfold cut
  rw [e1, HT.sIx_none]
  cases xs with
  | nil => rfl
  | cons x xs =>
    rw [show min 1 (x :: xs).length = 1 by simp]
    simp
theorem pCut1 (xs : List PV) : pCut (.tup xs) (some 1) none = some (.tup (xs.drop 1)) := by
  have : cutP xs (some 1) none = xs.drop 1 := cutOne xs
  show some (PV.tup (cutP xs (some 1) none)) = _
  rw [this]
theorem ascending_T (xs : List Int) : f_is_ascending (eT eI xs) = W.ret (ascB xs) := by
  have e1 : zipA (.tup (xs.map eI)) (.tup ((xs.map eI).drop 1)) = some ((xs.zip (xs.drop 1)).map fun p => (eI p.1, eI p.2)) := by
    unfold zipA
    dsimp only
    rw [← List.map_drop, List.zip_map]
    rfl
  unfold f_is_ascending
  unfold eT
  simp only [W.ret_bind, W.bind_bind, W.req_T, List.length_cons, List.length_nil, Nat.reduceAdd, Nat.reduceLeDiff, W.opt_some, W.no_ret, W.no_bind, W.no_opt, W.no_req, W.no_no, W.ite_ret, W.cont_go, W.cont_ret, W.cont_brk, if_true, if_false, Bool.false_eq_true, Bool.not_true, Bool.not_false, pyI_int, pyB_bl, py2_tup, gsz, kind_non, kind_bl, kind_int, kind_str, kind_tup, kind_lst, is_tt, is_tc, is_ct, cc_G, Bool.or_false, Bool.or_true, Bool.and_true, Bool.and_false, Bool.true_and, Bool.false_and, Bool.true_or, Bool.false_or, tg_non_non, tg_non_bl, tg_non_int, tg_non_str, tg_non_tup, tg_non_lst, tg_bl_non, tg_bl_bl, tg_bl_int, tg_bl_str, tg_bl_tup, tg_bl_lst, tg_int_non, tg_int_bl, tg_int_int, tg_int_str, tg_int_tup, tg_int_lst, tg_str_non, tg_str_bl, tg_str_int, tg_str_str, tg_str_tup, tg_str_lst, tg_tup_non, tg_tup_bl, tg_tup_int, tg_tup_str, tg_tup_tup, tg_tup_lst, tg_lst_non, tg_lst_bl, tg_lst_int, tg_lst_str, tg_lst_tup, tg_lst_lst, pCut1, e1]
  rw [W.lc_ret (fun _ => true) (fun p : PV × PV => match p with | (.int a, .int b) => decide (a < b) | _ => false) (fun _ _ => rfl)]
  · rw [W.ret_bind, List.filter_eq_self.mpr (fun _ _ => rfl), List.map_map]
    exact congrArg W.ret (ascB_zip xs)
  · intro p hp _
    obtain ⟨q, _, rfl⟩ := List.mem_map.mp hp
    exact W.ex_bl rfl
/-- an ascending row of numbers below n -/
def subs (n : Int) (xs : List Int) : Bool := xs.all (fun x => decide (0 ≤ x ∧ x < n)) && ascB xs
theorem subset_T (xs : List Int) (n : Int) : f_is_subset (eT eI xs) n = W.ret (subs n xs) := by
  unfold f_is_subset
  have e0 : kindOf CS (eT eI xs) = some (.t .tup) := rfl
  have e1 : seqP (eT eI xs) = some (xs.map eI) := rfl
  simp only [W.ret_bind, W.bind_bind, W.req_T, List.length_cons, List.length_nil, Nat.reduceAdd, Nat.reduceLeDiff, W.opt_some, W.no_ret, W.no_bind, W.no_opt, W.no_req, W.no_no, W.ite_ret, W.cont_go, W.cont_ret, W.cont_brk, if_true, if_false, Bool.false_eq_true, Bool.not_true, Bool.not_false, pyI_int, pyB_bl, py2_tup, gsz, kind_non, kind_bl, kind_int, kind_str, kind_tup, kind_lst, is_tt, is_tc, is_ct, cc_G, Bool.or_false, Bool.or_true, Bool.and_true, Bool.and_false, Bool.true_and, Bool.false_and, Bool.true_or, Bool.false_or, tg_non_non, tg_non_bl, tg_non_int, tg_non_str, tg_non_tup, tg_non_lst, tg_bl_non, tg_bl_bl, tg_bl_int, tg_bl_str, tg_bl_tup, tg_bl_lst, tg_int_non, tg_int_bl, tg_int_int, tg_int_str, tg_int_tup, tg_int_lst, tg_str_non, tg_str_bl, tg_str_int, tg_str_str, tg_str_tup, tg_str_lst, tg_tup_non, tg_tup_bl, tg_tup_int, tg_tup_str, tg_tup_tup, tg_tup_lst, tg_lst_non, tg_lst_bl, tg_lst_int, tg_lst_str, tg_lst_tup, tg_lst_lst, e0, e1, show Tg.is .tup .tup = true from rfl]
  rw [W.lc_map (fun p : PV => match p with | .int a => decide (0 ≤ a ∧ a ≤ n - 1) | _ => false)]
  · rw [W.ret_bind, ascending_T]
    rw [show ((xs.map eI).map fun p : PV => match p with | .int a => decide (0 ≤ a ∧ a ≤ n - 1) | _ => false).all id = xs.all fun x => decide (0 ≤ x ∧ x < n) from by
      rw [List.map_map, List.all_map]
      congr 1
      funext x
      show decide (0 ≤ x ∧ x ≤ n - 1) = decide (0 ≤ x ∧ x < n)
      exact decide_eq_decide.mpr (by omega)]
    unfold subs
    cases xs.all fun x => decide (0 ≤ x ∧ x < n) <;> rfl
  · intro p hp
    obtain ⟨x, _, rfl⟩ := List.mem_map.mp hp
    exact between_I x 0 (n - 1)
theorem subs_iff {n : Int} {xs : List Int} : subs n xs = true ↔ (∀ x ∈ xs, 0 ≤ x ∧ x < n) ∧ xs.Pairwise (· < ·) := by
  unfold subs
  rw [Bool.and_eq_true, List.all_eq_true, ascB_iff]
  simp
theorem edge_2 (a b n : Int) : f_is_edge (eP2 eI eI (a, b)) n = W.ret (decide (0 ≤ a ∧ a < b ∧ b < n)) := by
  unfold f_is_edge
  have e1 : f_is_subset (eP2 eI eI (a, b)) n = W.ret (subs n [a, b]) := subset_T [a, b] n
  have e2 : f_is_pair (eP2 eI eI (a, b)) = W.ret true := pair_2 _ _
  simp only [W.ret_bind, W.bind_bind, W.req_T, List.length_cons, List.length_nil, Nat.reduceAdd, Nat.reduceLeDiff, W.opt_some, W.no_ret, W.no_bind, W.no_opt, W.no_req, W.no_no, W.ite_ret, W.cont_go, W.cont_ret, W.cont_brk, if_true, if_false, Bool.false_eq_true, Bool.not_true, Bool.not_false, pyI_int, pyB_bl, py2_tup, gsz, kind_non, kind_bl, kind_int, kind_str, kind_tup, kind_lst, is_tt, is_tc, is_ct, cc_G, Bool.or_false, Bool.or_true, Bool.and_true, Bool.and_false, Bool.true_and, Bool.false_and, Bool.true_or, Bool.false_or, tg_non_non, tg_non_bl, tg_non_int, tg_non_str, tg_non_tup, tg_non_lst, tg_bl_non, tg_bl_bl, tg_bl_int, tg_bl_str, tg_bl_tup, tg_bl_lst, tg_int_non, tg_int_bl, tg_int_int, tg_int_str, tg_int_tup, tg_int_lst, tg_str_non, tg_str_bl, tg_str_int, tg_str_str, tg_str_tup, tg_str_lst, tg_tup_non, tg_tup_bl, tg_tup_int, tg_tup_str, tg_tup_tup, tg_tup_lst, tg_lst_non, tg_lst_bl, tg_lst_int, tg_lst_str, tg_lst_tup, tg_lst_lst, e1, e2]
  congr 1
  rw [Bool.eq_iff_iff, subs_iff, decide_eq_true_eq]
  simp
  omega
theorem leT_2 (a b c d : Int) (h : c < a ∨ (c = a ∧ d < b)) : leT [a, b] [c, d] = false := by
  have e : leT [a, b] [c, d] = if decide (a = c) = true then (if decide (b = d) = true then decide (2 ≤ 2) else decide (b ≤ d)) else decide (a ≤ c) := rfl
  rw [e]
  by_cases h1 : a = c
  · rw [decide_eq_true h1, if_pos rfl, decide_eq_false (show ¬ b = d by omega), if_neg Bool.false_ne_true, decide_eq_false (by omega)]
  · rw [decide_eq_false h1, if_neg Bool.false_ne_true, decide_eq_false (by omega)]
/-- edges of a graph of n vertices -/
structure GoodE (n : Nat) (qs : List (Int × Int)) : Prop where
  b : ∀ q ∈ qs, 0 ≤ q.1 ∧ q.1 < q.2 ∧ q.2 < n
  s : qs.Pairwise fun p q => p.1 < q.1 ∨ (p.1 = q.1 ∧ p.2 < q.2)
def seqE (l : Bool) (qs : List (Int × Int)) : PV := if l = true then eL (eP2 eI eI) qs else eT (eP2 eI eI) qs
theorem seqE_seq (l : Bool) (qs : List (Int × Int)) : seqP (seqE l qs) = some (qs.map (eP2 eI eI)) := by cases l <;> rfl
theorem fault_none {n : Nat} {qs : List (Int × Int)} (l : Bool) (g : GoodE n qs) : f_first_fault (seqE l qs) (qs.map fun _ => true) = W.ret none := by
  unfold f_first_fault
  have key : ∀ (i : Nat) (p : Int × PV), (enumFrom 0 (qs.map (eP2 eI eI)))[i]? = some p → p.1 = (i : Int) ∧ ∃ q, qs[i]? = some q ∧ p.2 = eP2 eI eI q := fun i p h => by
    obtain ⟨h1, h2⟩ := enum_get h
    rw [List.getElem?_map] at h2
    obtain ⟨q, h3, h4⟩ := Option.map_eq_some_iff.mp h2
    exact ⟨by omega, q, h3, h4.symm⟩
  simp only [W.ret_bind, W.bind_bind, W.req_T, List.length_cons, List.length_nil, Nat.reduceAdd, Nat.reduceLeDiff, W.opt_some, W.no_ret, W.no_bind, W.no_opt, W.no_req, W.no_no, W.ite_ret, W.cont_go, W.cont_ret, W.cont_brk, if_true, if_false, Bool.false_eq_true, Bool.not_true, Bool.not_false, pyI_int, pyB_bl, py2_tup, gsz, kind_non, kind_bl, kind_int, kind_str, kind_tup, kind_lst, is_tt, is_tc, is_ct, cc_G, Bool.or_false, Bool.or_true, Bool.and_true, Bool.and_false, Bool.true_and, Bool.false_and, Bool.true_or, Bool.false_or, tg_non_non, tg_non_bl, tg_non_int, tg_non_str, tg_non_tup, tg_non_lst, tg_bl_non, tg_bl_bl, tg_bl_int, tg_bl_str, tg_bl_tup, tg_bl_lst, tg_int_non, tg_int_bl, tg_int_int, tg_int_str, tg_int_tup, tg_int_lst, tg_str_non, tg_str_bl, tg_str_int, tg_str_str, tg_str_tup, tg_str_lst, tg_tup_non, tg_tup_bl, tg_tup_int, tg_tup_str, tg_tup_tup, tg_tup_lst, tg_lst_non, tg_lst_bl, tg_lst_int, tg_lst_str, tg_lst_tup, tg_lst_lst, seqE_seq]
  rw [W.forB_find (β := Option Int) (fun _ => none)]
  · rw [show (enumFrom 0 (qs.map (eP2 eI eI))).findSome? (fun _ => (none : Option (Option Int))) = none from List.findSome?_eq_none_iff.mpr fun _ _ => rfl]
    rfl
  · intro p hp
    obtain ⟨i, hi⟩ := List.mem_iff_getElem?.mp hp
    obtain ⟨h1, q, hq, h2⟩ := key i p hi
    have hl : (qs.map fun _ => true)[i]? = some true := by rw [List.getElem?_map, hq]; rfl
    rw [h1, h2]
    simp only [W.ret_bind, W.bind_bind, W.req_T, List.length_cons, List.length_nil, Nat.reduceAdd, Nat.reduceLeDiff, W.opt_some, W.no_ret, W.no_bind, W.no_opt, W.no_req, W.no_no, W.ite_ret, W.cont_go, W.cont_ret, W.cont_brk, if_true, if_false, Bool.false_eq_true, Bool.not_true, Bool.not_false, pyI_int, pyB_bl, py2_tup, gsz, kind_non, kind_bl, kind_int, kind_str, kind_tup, kind_lst, is_tt, is_tc, is_ct, cc_G, Bool.or_false, Bool.or_true, Bool.and_true, Bool.and_false, Bool.true_and, Bool.false_and, Bool.true_or, Bool.false_or, tg_non_non, tg_non_bl, tg_non_int, tg_non_str, tg_non_tup, tg_non_lst, tg_bl_non, tg_bl_bl, tg_bl_int, tg_bl_str, tg_bl_tup, tg_bl_lst, tg_int_non, tg_int_bl, tg_int_int, tg_int_str, tg_int_tup, tg_int_lst, tg_str_non, tg_str_bl, tg_str_int, tg_str_str, tg_str_tup, tg_str_lst, tg_tup_non, tg_tup_bl, tg_tup_int, tg_tup_str, tg_tup_tup, tg_tup_lst, tg_lst_non, tg_lst_bl, tg_lst_int, tg_lst_str, tg_lst_tup, tg_lst_lst, W.idxN hl]
    cases i with
    | zero => rfl
    | succ j =>
      have hl2 : j + 1 < qs.length := (List.getElem?_eq_some_iff.mp hq).1
      have hj : qs[j]? = some qs[j] := List.getElem?_eq_getElem (by omega)
      have lt := List.pairwise_iff_getElem.mp g.s j (j + 1) (by omega) hl2 (Nat.lt_succ_self j)
      rw [(List.getElem?_eq_some_iff.mp hq).2] at lt
      have e1 : pIdx (seqE l qs) (.int (((j + 1 : Nat) : Int) - 1)) = some (eP2 eI eI qs[j]) := by
        have e0 : ((j + 1 : Nat) : Int) - 1 = (j : Nat) := by omega
        have : atI (qs.map (eP2 eI eI)) (j : Int) = some (eP2 eI eI qs[j]) := atI_nat (by rw [List.getElem?_map, hj]; rfl)
        rw [e0]
        cases l <;> exact this
      have e2 : pLe (eP2 eI eI q) (eP2 eI eI qs[j]) = some (.bl false) := by
        have := leT_2 q.1 q.2 qs[j].1 qs[j].2 lt
        show (some (PV.bl (leT [q.1, q.2] [qs[j].1, qs[j].2]))) = _
        rw [this]
      simp only [W.ret_bind, W.bind_bind, W.req_T, List.length_cons, List.length_nil, Nat.reduceAdd, Nat.reduceLeDiff, W.opt_some, W.no_ret, W.no_bind, W.no_opt, W.no_req, W.no_no, W.ite_ret, W.cont_go, W.cont_ret, W.cont_brk, if_true, if_false, Bool.false_eq_true, Bool.not_true, Bool.not_false, pyI_int, pyB_bl, py2_tup, gsz, kind_non, kind_bl, kind_int, kind_str, kind_tup, kind_lst, is_tt, is_tc, is_ct, cc_G, Bool.or_false, Bool.or_true, Bool.and_true, Bool.and_false, Bool.true_and, Bool.false_and, Bool.true_or, Bool.false_or, tg_non_non, tg_non_bl, tg_non_int, tg_non_str, tg_non_tup, tg_non_lst, tg_bl_non, tg_bl_bl, tg_bl_int, tg_bl_str, tg_bl_tup, tg_bl_lst, tg_int_non, tg_int_bl, tg_int_int, tg_int_str, tg_int_tup, tg_int_lst, tg_str_non, tg_str_bl, tg_str_int, tg_str_str, tg_str_tup, tg_str_lst, tg_tup_non, tg_tup_bl, tg_tup_int, tg_tup_str, tg_tup_tup, tg_tup_lst, tg_lst_non, tg_lst_bl, tg_lst_int, tg_lst_str, tg_lst_tup, tg_lst_lst, show decide ((0 : Int) < ((j + 1 : Nat) : Int)) = true from decide_eq_true (by omega), e1]
      rw [W.ex_bl e2]
      rfl
theorem wrong_none {n : Nat} {qs : List (Int × Int)} (l : Bool) (g : GoodE n qs) : f_first_wrong_edge (n : Int) (seqE l qs) = W.ret none := by
  unfold f_first_wrong_edge
  have e0 : f_is_sequence (seqE l qs) = W.ret true := by
    cases l
    · exact seq_tup _
    · exact seq_lst _
  simp only [W.ret_bind, W.bind_bind, W.req_T, List.length_cons, List.length_nil, Nat.reduceAdd, Nat.reduceLeDiff, W.opt_some, W.no_ret, W.no_bind, W.no_opt, W.no_req, W.no_no, W.ite_ret, W.cont_go, W.cont_ret, W.cont_brk, if_true, if_false, Bool.false_eq_true, Bool.not_true, Bool.not_false, pyI_int, pyB_bl, py2_tup, gsz, kind_non, kind_bl, kind_int, kind_str, kind_tup, kind_lst, is_tt, is_tc, is_ct, cc_G, Bool.or_false, Bool.or_true, Bool.and_true, Bool.and_false, Bool.true_and, Bool.false_and, Bool.true_or, Bool.false_or, tg_non_non, tg_non_bl, tg_non_int, tg_non_str, tg_non_tup, tg_non_lst, tg_bl_non, tg_bl_bl, tg_bl_int, tg_bl_str, tg_bl_tup, tg_bl_lst, tg_int_non, tg_int_bl, tg_int_int, tg_int_str, tg_int_tup, tg_int_lst, tg_str_non, tg_str_bl, tg_str_int, tg_str_str, tg_str_tup, tg_str_lst, tg_tup_non, tg_tup_bl, tg_tup_int, tg_tup_str, tg_tup_tup, tg_tup_lst, tg_lst_non, tg_lst_bl, tg_lst_int, tg_lst_str, tg_lst_tup, tg_lst_lst, e0, seqE_seq]
  rw [W.lc_map (fun _ => true)]
  · rw [W.ret_bind, List.map_map]
    exact fault_none l g
  · intro p hp
    obtain ⟨q, hq, rfl⟩ := List.mem_map.mp hp
    obtain ⟨a, b⟩ := q
    have := g.b _ hq
    rw [edge_2, decide_eq_true this]
end Ev
namespace Ev
open PySem PySem.Spec PyProof.Rows L2
theorem mono_len {N : Nat} : ∀ {xs : List Nat} {lo : Nat}, xs.Pairwise (· < ·) → (∀ x ∈ xs, lo ≤ x ∧ x < N) → xs.length ≤ N - lo
  | [], _, _, _ => Nat.zero_le _
  | x :: xs, lo, h, hb => by
    have hx := hb x List.mem_cons_self
    have ih := mono_len (xs := xs) (lo := x + 1) (List.pairwise_cons.mp h).2 fun y hy => ⟨(List.pairwise_cons.mp h).1 y hy, (hb y (List.mem_cons_of_mem _ hy)).2⟩
    rw [List.length_cons]
    omega
def cn24 (a : Nat) : Nat := [0,23,45,66,86,105,123,140,156,171,185,198,210,221,231,240,248,255,261,266,270,273,275,276].getD a 0
theorem cn24_lt : ∀ a, a < 24 → ∀ b, b < 24 → a < b → cn24 a + (23 - a) ≤ cn24 b := by decide
theorem cn24_le : ∀ a, a < 24 → cn24 a + (23 - a) ≤ 276 := by decide
theorem GoodE.len {n : Nat} {qs : List (Int × Int)} (g : GoodE n qs) (hn : n ≤ 24) : qs.length ≤ 300 := by
  have := mono_len (N := 276) (lo := 0) (xs := qs.map fun q => cn24 q.1.toNat + (q.2.toNat - q.1.toNat - 1)) (by
    rw [List.pairwise_map]
    refine g.s.imp_of_mem ?_
    intro p q hp hq h
    have hp := g.b p hp
    have hq := g.b q hq
    rcases h with h | h
    · have := cn24_lt p.1.toNat (by omega) q.1.toNat (by omega) (by omega)
      omega
    · rw [h.1]
      omega) (fun x hx => by
    obtain ⟨q, hq, rfl⟩ := List.mem_map.mp hx
    have hq := g.b q hq
    have := cn24_le q.1.toNat (by omega)
    omega)
  rw [List.length_map] at this
  omega
theorem fnw_ok {τ α : Type} {F : Fn} {A : τ → Ctx} {O : Ctx} {o : Bool} {e : Enc α} {f : τ → W α} (h : FnW F A O o e f) (t : τ) {ρ : Env} (m : Mt (A t) ρ) {a : α} (hf : f t = W.ret a) : ∃ r ρ', F ρ = .ok (r, ρ') ∧ RelR o e a r ∧ Mt O ρ' := by
  rcases h t ρ m (fun b => b = a) (fun _ => False) (by rw [hf]; exact rfl) with ⟨b, r, ρ', e1, h1, h2, rfl⟩ | ⟨_, _, _, _, z⟩
  · exact ⟨r, ρ', e1, h1, h2⟩
  · exact z.elim
theorem prsOf_map' (qs : List (Int × Int)) : prsOf (qs.map (eP2 eI eI)) = some qs := prsOf_map qs
theorem eG_eq (n : Nat) (qs : List (Int × Int)) : eG ⟨n, qs⟩ = .obj (Str.ofString "Graph") [(Str.ofString "size", PV.int ↑n), (Str.ofString "edges", PV.tup (List.map (eP2 eI eI) qs)), (Str.ofString "_vertices", PV.tup (List.map eI (vtx n))), (Str.ofString "_rows", rowsP n qs)] := by
  have : eT (eT eI) (gr_rows ⟨n, qs⟩) = rowsP n qs := by
    show PV.tup (((List.range n).map fun (i : Nat) => nbr qs (i : Int)).map (eT eI)) = _
    rw [List.map_map]
    rfl
  unfold eG
  rw [this]
  rfl
theorem init_ok {n : Nat} {qs : List (Int × Int)} (l : Bool) (h1 : 1 ≤ n) (h2 : n ≤ 24) (g : GoodE n qs) : F_Graph___init__ [.io (.obj "Graph" []), .fr (.int n), .fr (seqE l qs)] = .ok (.fr .non, [.io (eG ⟨n, qs⟩), .no, .no]) := by
  obtain ⟨r1, ρ1, w1, w2, w3⟩ := fnw_ok t_first_wrong_edge ((n : Int), seqE l qs, ()) (ρ := [.fr (.int n), .fr (seqE l qs)]) ⟨_, _, rfl, rfl, _, _, rfl, rfl, rfl⟩ (wrong_none l g)
  obtain ⟨a1, _, rfl, _, a2, _, rfl, _, rfl⟩ := w3
  obtain ⟨r2, ρ2, b1, b2, b3⟩ := fnw_ok t_is_between (.int n, (1 : Int), (24 : Int), ()) (ρ := [.fr (.int n), .fr (.int 1), .fr (.int 24)]) ⟨_, _, rfl, rfl, _, _, rfl, rfl, _, _, rfl, rfl, rfl⟩ (between_I n 1 24)
  obtain ⟨c1, _, rfl, _, c2, _, rfl, _, c3, _, rfl, _, rfl⟩ := b3
  have e5 : bTuple [seqE l qs] = some (.tup (qs.map (eP2 eI eI))) := by cases l <;> rfl
  have e6 : F_neighbor_rows [.fr (.int n), .fr (.tup (qs.map (eP2 eI eI)))] = .ok (.fr (rowsP n qs), [.no, .no]) := by
    unfold F_neighbor_rows
    dsimp only
    rw [prsOf_map']
    dsimp only
    have ha : (qs.all fun q => decide (0 ≤ q.1) && decide (q.1 < q.2) && decide (q.2 < (n : Int))) = true := List.all_eq_true.mpr fun q hq => by
      obtain ⟨a, b, c⟩ := g.b q hq
      rw [decide_eq_true a, decide_eq_true b, decide_eq_true c]
      rfl
    rw [ha, decide_eq_true (show (0 : Int) ≤ n by omega), decide_eq_true (show (n : Int) ≤ 24 by omega), decide_eq_true (g.len h2)]
    rfl
  have e7 : rng1P (.int (n : Int)) = some ((vtx n).map eI) := by
    have := rng1P_ok (j := (n : Int)) (by omega)
    rw [rng_zero] at this
    exact this
  have r2' : Ev.frz r2 = some (.bl true) := by
    have := b2.frz
    rw [decide_eq_true (show (1 : Int) ≤ (n : Int) ∧ (n : Int) ≤ 24 by omega)] at this
    exact this
  have r1' : Ev.frz r1 = some .non := w2.frz
  have l1 : ∀ a b c : PV, List.lookup (Str.ofString "edges") [(Str.ofString "size", a), (Str.ofString "edges", b), (Str.ofString "_vertices", c)] = some b := fun _ _ _ => rfl
  have n01 : ¬ (Str.ofString "size" = Str.ofString "edges") := by decide
  have n02 : ¬ (Str.ofString "size" = Str.ofString "_vertices") := by decide
  have n03 : ¬ (Str.ofString "size" = Str.ofString "_rows") := by decide
  have n12 : ¬ (Str.ofString "edges" = Str.ofString "_vertices") := by decide
  have n13 : ¬ (Str.ofString "edges" = Str.ofString "_rows") := by decide
  have n23 : ¬ (Str.ofString "_vertices" = Str.ofString "_rows") := by decide
  unfold F_Graph___init__ G_Graph___init__
  cases r1 <;> first | (cases r1'; done) | skip
  all_goals cases r2 <;> first | (cases r2'; done) | skip
  all_goals cases r1'
  all_goals cases r2'
  all_goals simp [defF, finF, outsZ, outsC, outE, gSeq, gRet, gRetN, gRetO, gIf, gNx, gAsg, gDrop, gFrz, fAnd, fOr, fNot, fT, tAndF, tOrF, tNotF, fC, fVar, fUn, fBin, fIf, fChain, fTup, fLst, fCons, fNil, fCall, callR, argE, argE1, rfs, back, aCons, aNil, aRef, frz, ofO, asB, asI, asg, asgs, setE, fB, gSetI, ownL, ownP, putE, fIxO', fIxO, C_MOST_VERTICES, b1, w1, pNotN, gFld, putFP, fTupleRg1, fRng1, e5, e6, e7, fFldO, pFld, l1, n01, n02, n03, n12, n13, n23]
  all_goals exact (eG_eq n qs).symm
/-- Graph(n, qs), where it is a graph -/
def W.graph (n : Int) (qs : List (Int × Int)) : W Gr := fun Q _ => ∃ m : Nat, n = m ∧ 1 ≤ m ∧ m ≤ 24 ∧ GoodE m qs ∧ Q ⟨m, qs⟩
section
variable {Γ : Ctx} {fa fb : FE} {wa : W Int} {wb : W (List (Int × Int))}
theorem make_ok {ra : FA} {ρ ρ' : Env} {n : Nat} {qs : List (Int × Int)} (l : Bool) (h : ra ρ = .ok ([.int n, seqE l qs], ρ')) (h1 : 1 ≤ n) (h2 : n ≤ 24) (g : GoodE n qs) : fMake "Graph" F_Graph___init__ ra ρ = .ok (eG ⟨n, qs⟩, ρ') := by
  unfold fMake
  rw [h]
  show (match F_Graph___init__ [.io (.obj "Graph" []), .fr (.int (n : Int)), .fr (seqE l qs)] with
    | .ok (.fr .non, .io (.obj c' fs) :: _) => if c' = "Graph" then Res.ok (PV.obj "Graph" fs, ρ') else .bad
    | .err e _ => .err e ρ'
    | _ => .bad) = _
  rw [init_ok l h1 h2 g]
  rfl
theorem se_graphG {eb : Enc (List (Int × Int))} (l : Bool) (hb : eb = seqE l) (h : Sim fa Γ eI wa) (h' : Sim fb Γ eb wb) : Sim (fMake "Graph" F_Graph___init__ (fCons fa (fCons fb fNil))) Γ eG (W.bind wa fun n => W.bind wb fun qs => W.graph n qs) := fun ρ m Q X q => by
  subst hb
  rcases h ρ m _ X q with ⟨n, ρ1, e1, m1, q1⟩ | ⟨x, ρ1, e1, m1, q1⟩
  · rcases h' ρ1 m1 _ X q1 with ⟨qs, ρ2, e2, m2, k, rfl, k1, k2, g, q2⟩ | ⟨x, ρ2, e2, m2, q2⟩
    · refine .inl ⟨⟨k, qs⟩, ρ2, make_ok l ?_ k1 k2 g, m2, q2⟩
      unfold fCons fNil
      rw [e1]
      dsimp only [Res.bind]
      rw [e2]
      rfl
    · refine .inr ⟨x, ρ2, ?_, m2, q2⟩
      unfold fMake fCons fNil
      rw [e1]
      dsimp only [Res.bind]
      rw [e2]
  · refine .inr ⟨x, ρ1, ?_, m1, q1⟩
    unfold fMake fCons fNil
    rw [e1]
    rfl
theorem se_graphL (h : Sim fa Γ eI wa) (h' : Sim fb Γ (eL (eP2 eI eI)) wb) : Sim (fMake "Graph" F_Graph___init__ (fCons fa (fCons fb fNil))) Γ eG (W.bind wa fun n => W.bind wb fun qs => W.graph n qs) := se_graphG true rfl h h'
theorem se_graphT (h : Sim fa Γ eI wa) (h' : Sim fb Γ (eT (eP2 eI eI)) wb) : Sim (fMake "Graph" F_Graph___init__ (fCons fa (fCons fb fNil))) Γ eG (W.bind wa fun n => W.bind wb fun qs => W.graph n qs) := se_graphG false rfl h h'
end
end Ev
namespace Ev
open PySem PySem.Spec PyProof.Rows L2
section
variable {α γ : Type} {ea : Enc α} {ec : Enc γ} {F : Fn} {O : Ctx} {o : Bool}
theorem mt1 (p : PV) : Mt [.v p] [.fr p] := ⟨_, _, rfl, rfl, rfl⟩
theorem bs_tupOwn {A : Gr × Unit → Ctx} {h : Gr × Unit → W Int} (hF : FnW F A O o eI h) (hA : ∀ t, A t = [.v (eG t.1)]) : BnS (bTupOwn "Graph" F) (fun a => [eG a]) (eT eI) fun g => W.bind (W.no (h (g, ()))) fun n => W.req (0 ≤ n ∧ n ≤ 1000000 ∧ (gr_vertices g).length ≤ 1000000) (gr_vertices g) := fun g Q X q => by
  obtain ⟨n, e, q'⟩ := callP_go hF (t := (g, ())) (ps := [eG g]) (by rw [hA]; exact mt1 _) _ q
  refine ⟨gr_vertices g, ?_, q'.2⟩
  unfold bTupOwn
  dsimp only
  rw [show pItems "Graph" (eG g) = some ((gr_vertices g).map eI) from rfl, e]
  show (if decide (0 ≤ n ∧ n ≤ 1000000 ∧ ((gr_vertices g).map eI).length ≤ 1000000) = true then some (PV.tup ((gr_vertices g).map eI)) else none) = _
  rw [if_pos (decide_eq_true (by rw [List.length_map]; exact q'.1))]
  rfl
end
def f_is_within (part' : Int) (mask' : Int) : W Bool := (W.bind (W.bind (W.ret part') fun a => W.bind (W.ret mask') fun b => W.ret (Builtin.bitAnd a b)) fun a => W.bind (W.ret part') fun b => W.ret (decide (a = b)))
theorem t_is_within : FnW F_is_within (fun t : Int × Int × Unit => [.v (eI t.1), .v (eI t.2.1)]) [.top, .top] false eB (fun t => f_is_within t.1 t.2.1) :=
  fn_of (nN := 2) (n := 2) (G := G_is_within) (σ := Empty) (Γo := fun _ z => z.elim) (k := fun _ z => z.elim) rfl ⟨trivial, trivial, trivial⟩ (fun t => (show SimC G_is_within [.v (eI t.1), .v (eI t.2.1)] (MtP [.top, .top]) (OF false eB [.top, .top]) _ _ (f_is_within t.1 t.2.1) from (sc_ret (se_bin (os_eq ((dat_I).eq (by decide))) (se_bin os_and (sv_var 0 rfl) (sv_var 1 rfl)) (sv_var 0 rfl)) (eP (by exact ⟨trivial, trivial, SubP.nil⟩)) (by exact ⟨trivial, trivial, SubP.nil⟩)))) fn_no
def f_chromatic_numbers (sets' : (List (List Int))) : W (List Int) := (W.bind (W.bind (W.bind (W.ret (0 : Int)) fun a => W.bind (W.ret []) fun as => W.ret (a :: as)) fun as => W.req (as.length ≤ 1000) as) fun numbers' => (W.bind (W.bind (W.ret (1 : Int)) fun i => W.bind (W.bind (W.ret (1 : Int)) fun a => W.bind (W.bind (W.ret sets') fun a => W.ret (a.length : Int)) fun b => W.req (cPow a b = true) (a * 2 ^ b.toNat)) fun j => W.rng2 i j) fun xs => W.bind (W.forS (fun s1' mask' => (W.bind (W.bind (W.bind (W.ret mask') fun a => W.ret ((Builtin.Int.intBits a : Nat) : Int)) fun a => W.bind (W.ret (1 : Int)) fun b => W.ret (a - b)) fun last' => (W.bind (W.bind (W.bind (W.ret (1 : Int)) fun a => W.bind (W.bind (W.bind (W.bind (W.ret sets') fun a => W.bind (W.ret last') fun b => W.opt (atI a b)) fun xs => W.lc (fun part' => (W.bind (W.bind (W.ret part') fun a => W.bind (W.bind (W.ret mask') fun a => W.bind (W.ret ()) fun b => W.ret (a, b)) fun b => W.ret (a, b)) (fun t => f_is_within t.1 t.2.1))) (fun part' => (W.bind (W.bind (W.ret mask') fun a => W.bind (W.ret part') fun b => W.ret (Builtin.bitXor a b)) fun k => W.opt (atI s1' k))) xs) fun a => W.req (a ≠ []) (minI a)) fun b => W.ret (a + b)) fun y => W.app s1' y) fun numbers' => (W.ret numbers')))) xs numbers') fun s1' => (W.ret s1')))
theorem t_chromatic_numbers : FnW F_chromatic_numbers (fun t : (List (List Int)) × Unit => [.v ((eL (eL eI)) t.1)]) [.top] true (eL eI) (fun t => f_chromatic_numbers t.1) :=
  fn_of (nN := 5) (n := 1) (G := G_chromatic_numbers) (σ := Empty) (Γo := fun _ z => z.elim) (k := fun _ z => z.elim) rfl ⟨trivial, trivial⟩ (fun t => (show SimC G_chromatic_numbers [.v ((eL (eL eI)) t.1), .jk, .jk, .jk, .jk] (MtP [.top]) (OF true (eL eI) [.top]) _ _ (f_chromatic_numbers t.1) from (sc_seq (sc_own 1 (se_lst (sl_cons (sv_c (ea := eI) (x := 0) rfl) sl_nil)) rfl trivial (eP (by exact ⟨trivial, SubP.nil⟩))) (fun numbers' => (sc_seq (sc_forS (Γo := fun (s1' : (List Int)) => [.v ((eL (eL eI)) t.1), .o ((eL eI) s1'), .jk, .jk, .jk]) (si_rng2 (sv_c (ea := eI) (x := 1) rfl) (se_bin os_shl (sv_c (ea := eI) (x := 1) rfl) (se_b1 bs_lenL (sv_var 0 rfl)))) (eP (by exact ⟨trivial, SubP.nil⟩)) (by exact ⟨rfl, rfl, trivial, trivial, trivial, trivial⟩) (fun s1' => (ag_nm 2 rfl (by exact trivial))) (fun s1' mask' => (sc_seq (sc_asg (se_bin os_sub (se_un us_bits (sv_var 2 rfl)) (sv_c (ea := eI) (x := 1) rfl)) (ag_nm 3 rfl (by exact trivial)) (eP (by exact ⟨trivial, SubP.nil⟩))) (fun last' => (sc_last (h := fun (numbers' : (List Int)) => numbers') (fun numbers' => (by exact ⟨rfl, rfl, trivial, trivial, trivial, trivial⟩)) (sc_app 1 (o := true) rfl (se_bin os_add (sv_c (ea := eI) (x := 1) rfl) (se_b1 bs_min (se_lc (vs := [4]) (si_seqL (se_bin os_idxL (sv_var 0 rfl) (sv_var 3 rfl))) ⟨trivial, trivial⟩ (ag_nm 4 rfl (by exact trivial)) (fun _ => ⟨trivial, trivial⟩) (fun _ => rfl) (fun part' => (st_T (se_call t_is_within (sr_cons (sv_var 4 rfl) (sr_cons (sv_var 2 rfl) sr_nil)) (fun _ => (by exact ⟨⟨rfl, rfl, trivial⟩, trivial, List.nodup_nil⟩))))) (fun part' => (se_ixO 1 (.inl rfl) (se_bin os_xor (sv_var 2 rfl) (sv_var 4 rfl))))))) (eP (by exact ⟨trivial, SubP.nil⟩)))))))) (fun s1' => (sc_retO (ea := (eL eI)) (x := s1') 1 rfl (of_own (x := s1') (by exact ⟨trivial, SubP.nil⟩))))))))) fn_no
def f_mask_of (subset' : (List Int)) : W Int := (W.bind (W.bind (W.ret subset') fun xs => W.lc (fun vertex' => (W.ret true)) (fun vertex' => (W.bind (W.ret (1 : Int)) fun a => W.bind (W.ret vertex') fun b => W.req (cPow a b = true) (a * 2 ^ b.toNat))) xs) fun a => W.ret a.sum)
theorem t_mask_of : FnW F_mask_of (fun t : (List Int) × Unit => [.v ((eT eI) t.1)]) [.top] false eI (fun t => f_mask_of t.1) :=
  fn_of (nN := 2) (n := 1) (G := G_mask_of) (σ := Empty) (Γo := fun _ z => z.elim) (k := fun _ z => z.elim) rfl ⟨trivial, trivial⟩ (fun t => (show SimC G_mask_of [.v ((eT eI) t.1), .jk] (MtP [.top]) (OF false eI [.top]) _ _ (f_mask_of t.1) from (sc_ret (se_b1 bs_sum (se_lc (vs := [1]) (si_seqT (sv_var 0 rfl)) ⟨trivial, trivial⟩ (ag_nm 1 rfl (by exact trivial)) (fun _ => ⟨trivial, trivial⟩) (fun _ => rfl) (fun vertex' => st_yes) (fun vertex' => (se_bin os_shl (sv_c (ea := eI) (x := 1) rfl) (sv_var 1 rfl))))) (eP (by exact ⟨trivial, SubP.nil⟩)) (by exact ⟨trivial, SubP.nil⟩)))) fn_no
def f_Graph_neighbors (self' : Gr) (vertex' : PV) : W (List Int) := (W.bind (W.bind (W.bind (W.bind (W.ret vertex') fun a => W.bind (W.bind (W.ret (0 : Int)) fun a => W.bind (W.bind (W.bind (W.bind (W.ret self') fun g => W.ret (gr_size g)) fun a => W.bind (W.ret (1 : Int)) fun b => W.ret (a - b)) fun a => W.bind (W.ret ()) fun b => W.ret (a, b)) fun b => W.ret (a, b)) fun b => W.ret (a, b)) (fun t => f_is_between t.1 t.2.1 t.2.2.1)) fun a => W.ret (!a)) fun b => if b = true then (W.bind (W.bind (W.ret vertex') fun a => W.bind (W.ret ()) fun b => W.ret (a, b)) fun t => W.err (mkE "InvalidNumber" ["value"] [eA t.1])) else (W.bind (W.bind (W.ret self') fun g => W.ret (gr_rows g)) fun a => W.bind (W.bind (W.ret vertex') fun p => W.opt (pyI p)) fun b => W.opt (atI a b)))
theorem t_Graph_neighbors : FnW F_Graph_neighbors (fun t : Gr × PV × Unit => [.v (eG t.1), .v (eA t.2.1)]) [.top, .top] false (eT eI) (fun t => f_Graph_neighbors t.1 t.2.1) :=
  fn_of (nN := 2) (n := 2) (G := G_Graph_neighbors) (σ := Empty) (Γo := fun _ z => z.elim) (k := fun _ z => z.elim) rfl ⟨trivial, trivial, trivial⟩ (fun t => (show SimC G_Graph_neighbors [.v (eG t.1), .v (eA t.2.1)] (MtP [.top, .top]) (OF false (eT eI) [.top, .top]) _ _ (f_Graph_neighbors t.1 t.2.1) from (sc_ifx0 (st_not (st_T (se_call t_is_between (sr_cons (sv_var 1 rfl) (sr_cons (sv_c (ea := eI) (x := 0) rfl) (sr_cons (se_bin os_sub (se_un us_gr_size (sv_var 0 rfl)) (sv_c (ea := eI) (x := 1) rfl)) sr_nil))) (fun _ => (by exact ⟨⟨rfl, rfl, rfl, trivial⟩, trivial, List.nodup_nil⟩))))) (eP (by exact ⟨trivial, trivial, SubP.nil⟩)) (sc_raise (sa_cons (sv_var 1 rfl) sa_nil) (eP (by exact ⟨trivial, trivial, SubP.nil⟩)) (fun _ => rfl)) (sc_ret (se_bin os_idxT (se_un us_gr_rows (sv_var 0 rfl)) (sim_cox (R' := eI) co_I (sv_var 1 rfl))) (eP (by exact ⟨trivial, trivial, SubP.nil⟩)) (by exact ⟨trivial, trivial, SubP.nil⟩))))) fn_no
def f_independent_masks (graph' : Gr) : W (List (List Int)) := (W.bind (W.bind (W.ret ([] : List (List Int))) fun as => W.req (as.length ≤ 1000) as) fun found' => (W.bind (W.bind (W.ret graph') fun g => W.ret (gr_vertices g)) fun xs => W.bind (W.forS (fun s1' vertex' => (W.bind (W.bind (W.ret (1 : Int)) fun a => W.bind (W.ret vertex') fun b => W.req (cPow a b = true) (a * 2 ^ b.toNat)) fun own' => (W.bind (W.bind (W.bind (W.bind (W.ret graph') fun a => W.bind (W.bind (W.bind (W.ret vertex') fun a => W.ret (eI a)) fun a => W.bind (W.ret ()) fun b => W.ret (a, b)) fun t => f_Graph_neighbors a t.1) fun a => W.bind (W.ret ()) fun b => W.ret (a, b)) (fun t => f_mask_of t.1)) fun barred' => (W.bind (W.no (W.bind (W.ret s1') fun xs => W.bind (W.no (W.lc2 (fun row' => (W.ret true)) (fun row' => (W.ret row')) (fun row' mask' => (W.bind (W.bind (W.ret mask') fun a => W.bind (W.ret barred') fun b => W.ret (Builtin.bitAnd a b)) fun a => W.bind (W.ret (0 : Int)) fun b => W.ret (decide (a = b)))) (fun row' mask' => (W.bind (W.ret own') fun a => W.bind (W.ret mask') fun b => W.ret (Builtin.bitOr a b))) xs)) fun r => W.req (r.length ≤ 1000000) r)) fun longer' => (W.bind (W.bind (W.bind (W.bind (W.bind (W.ret own') fun a => W.bind (W.ret []) fun as => W.ret (a :: as)) fun as => W.req (as.length ≤ 1000) as) fun a => W.bind (W.ret longer') fun b => W.req (a.length + b.length ≤ sizeLine) (a ++ b)) fun y => W.app s1' y) fun found' => (W.ret found')))))) xs found') fun s1' => (W.ret s1')))
theorem t_independent_masks : FnW F_independent_masks (fun t : Gr × Unit => [.v (eG t.1)]) [.top] true (eL (eL eI)) (fun t => f_independent_masks t.1) :=
  fn_of (nN := 8) (n := 1) (G := G_independent_masks) (σ := Empty) (Γo := fun _ z => z.elim) (k := fun _ z => z.elim) rfl ⟨trivial, trivial⟩ (fun t => (show SimC G_independent_masks [.v (eG t.1), .jk, .jk, .jk, .jk, .jk, .jk, .jk] (MtP [.top]) (OF true (eL (eL eI)) [.top]) _ _ (f_independent_masks t.1) from (sc_seq (sc_own 1 (se_lst (sl_nil (ea := (eL eI)))) rfl trivial (eP (by exact ⟨trivial, SubP.nil⟩))) (fun found' => (sc_seq (sc_forS (Γo := fun (s1' : (List (List Int))) => [.v (eG t.1), .o ((eL (eL eI)) s1'), .jk, .jk, .jk, .jk, .jk, .jk]) (si_iterG (sv_var 0 rfl)) (eP (by exact ⟨trivial, SubP.nil⟩)) (by exact ⟨rfl, rfl, trivial, trivial, trivial, trivial, trivial, trivial, trivial⟩) (fun s1' => (ag_nm 2 rfl (by exact trivial))) (fun s1' vertex' => (sc_seq (sc_asg (se_bin os_shl (sv_c (ea := eI) (x := 1) rfl) (sv_var 2 rfl)) (ag_nm 3 rfl (by exact trivial)) (eP (by exact ⟨trivial, SubP.nil⟩))) (fun own' => (sc_seq (sc_asg (se_call t_mask_of (sr_cons (se_meth t_Graph_neighbors (sv_var 0 rfl) (fun _ => recvG (by decide)) (sr_cons (sim_co (R' := eA) eI (fun _ => rfl) (sv_var 2 rfl)) sr_nil) (fun _ _ => (by exact ⟨⟨rfl, rfl, trivial⟩, trivial, List.nodup_nil⟩))) sr_nil) (fun _ => (by exact ⟨⟨rfl, trivial⟩, trivial, List.nodup_nil⟩))) (ag_nm 4 rfl (by exact trivial)) (eP (by exact ⟨trivial, SubP.nil⟩))) (fun barred' => (sc_seq (sc_asg (se_thawL (se_lc2 (vs := [6, 7]) (vs1 := [7]) (si_seqL (sv_var 1 rfl)) ⟨trivial, trivial, trivial⟩ (ag_nm 6 rfl (by exact trivial)) (fun _ => ⟨trivial, trivial, trivial⟩) (fun _ => rfl) (fun row' => st_yes) (fun row' => (si_seqL (sv_var 6 rfl))) (fun _ => ⟨trivial, trivial⟩) (fun row' => (ag_nm 7 rfl (by exact trivial))) (fun _ _ => ⟨trivial, trivial⟩) (fun _ _ => rfl) (fun _ => ⟨trivial, trivial, trivial⟩) (fun _ => rfl) (fun row' mask' => (st_T (se_bin (os_eq ((dat_I).eq (by decide))) (se_bin os_and (sv_var 7 rfl) (sv_var 4 rfl)) (sv_c (ea := eI) (x := 0) rfl)))) (fun row' mask' => (se_bin os_or (sv_var 3 rfl) (sv_var 7 rfl)))) (fun _ => rfl)) (ag_nm 5 rfl (by exact trivial)) (eP (by exact ⟨trivial, SubP.nil⟩))) (fun longer' => (sc_last (h := fun (found' : (List (List Int))) => found') (fun found' => (by exact ⟨rfl, rfl, trivial, trivial, trivial, trivial, trivial, trivial, trivial⟩)) (sc_app 1 (o := true) rfl (se_bin os_addL (se_lst (sl_cons (sv_var 3 rfl) sl_nil)) (sv_var 5 rfl)) (eP (by exact ⟨trivial, SubP.nil⟩)))))))))))) (fun s1' => (sc_retO (ea := (eL (eL eI))) (x := s1') 1 rfl (of_own (x := s1') (by exact ⟨trivial, SubP.nil⟩))))))))) fn_no
def f_require_vertices (count' : Int) (most' : Int) : W Unit := (W.bind (W.bind (W.ret count') fun a => W.bind (W.ret most') fun b => W.ret (decide (b < a))) fun b => if b = true then (W.bind (W.bind (W.ret ("vertices" : Str)) fun a => W.bind (W.ret ()) fun b => W.ret (a, b)) fun t => W.err (mkE "TooLarge" ["what"] [eS t.1])) else (W.ret ()))
theorem t_require_vertices : FnW F_require_vertices (fun t : Int × Int × Unit => [.v (eI t.1), .v (eI t.2.1)]) [.top, .top] false eN (fun t => f_require_vertices t.1 t.2.1) :=
  fn_of (nN := 2) (n := 2) (G := G_require_vertices) (σ := Unit) (Γo := fun _ _ => [.any, .any]) (k := fun _ _ => W.ret ()) rfl ⟨trivial, trivial, trivial⟩ (fun t => (show SimC G_require_vertices [.v (eI t.1), .v (eI t.2.1)] (MtP [.top, .top]) (OF false eN [.top, .top]) _ _ (f_require_vertices t.1 t.2.1) from (sc_if (st_T (se_bin os_gt (sv_var 0 rfl) (sv_var 1 rfl))) (eP (by exact ⟨trivial, trivial, SubP.nil⟩)) (sc_raise (sa_cons (sv_c (ea := eS) (x := "vertices") rfl) sa_nil) (eP (by exact ⟨trivial, trivial, SubP.nil⟩)) (fun _ => rfl)) (sc_nx (s := ()) (by exact ⟨trivial, trivial, trivial⟩))))) (fun _ _ _ _ q => ⟨_, q, rfl, (by exact ⟨trivial, trivial, SubP.nil⟩)⟩)
def f_require_exhaustible (graph' : Gr) : W Unit := (W.bind (W.bind (W.bind (W.bind (W.ret graph') fun g => W.ret (gr_size g)) fun a => W.bind (W.bind (W.ret (C_MOST_EXHAUSTIVE : Int)) fun a => W.bind (W.ret ()) fun b => W.ret (a, b)) fun b => W.ret (a, b)) (fun t => f_require_vertices t.1 t.2.1)) fun _ => (W.ret ()))
theorem t_require_exhaustible : FnW F_require_exhaustible (fun t : Gr × Unit => [.v (eG t.1)]) [.top] false eN (fun t => f_require_exhaustible t.1) :=
  fn_of (nN := 1) (n := 1) (G := G_require_exhaustible) (σ := Unit) (Γo := fun _ _ => [.any]) (k := fun _ _ => W.ret ()) rfl ⟨trivial, trivial⟩ (fun t => (show SimC G_require_exhaustible [.v (eG t.1)] (MtP [.top]) (OF false eN [.top]) _ _ (f_require_exhaustible t.1) from (sc_last (h := fun (_ : Unit) => ()) (fun _ => (by exact ⟨trivial, trivial⟩)) (sc_drop (se_call t_require_vertices (sr_cons (se_un us_gr_size (sv_var 0 rfl)) (sr_cons (sv_c (ea := eI) (x := C_MOST_EXHAUSTIVE) rfl) sr_nil)) (fun _ => (by exact ⟨⟨rfl, rfl, trivial⟩, trivial, List.nodup_nil⟩))) (eP (by exact ⟨trivial, SubP.nil⟩)))))) (fun _ _ _ _ q => ⟨_, q, rfl, (by exact ⟨trivial, SubP.nil⟩)⟩)
def f_first_color (mask' : Int) (sets' : (List (List Int))) (numbers' : (List Int)) : W Int := (W.bind (W.bind (W.bind (W.ret mask') fun a => W.ret ((Builtin.Int.intBits a : Nat) : Int)) fun a => W.bind (W.ret (1 : Int)) fun b => W.ret (a - b)) fun last' => (W.bind (W.bind (W.bind (W.ret sets') fun a => W.bind (W.ret last') fun b => W.opt (atI a b)) fun xs => W.lc (fun part' => (W.bind (W.bind (W.ret part') fun a => W.bind (W.bind (W.ret mask') fun a => W.bind (W.ret ()) fun b => W.ret (a, b)) fun b => W.ret (a, b)) (fun t => f_is_within t.1 t.2.1))) (fun part' => (W.ret part')) xs) fun inside' => (W.bind (W.bind (W.ret inside') fun xs => W.lc (fun part' => (W.bind (W.bind (W.ret numbers') fun a => W.bind (W.bind (W.ret mask') fun a => W.bind (W.ret part') fun b => W.ret (Builtin.bitXor a b)) fun b => W.opt (atI a b)) fun a => W.bind (W.bind (W.ret numbers') fun a => W.bind (W.ret mask') fun b => W.opt (atI a b)) fun b => W.ret (decide (a < b)))) (fun part' => (W.ret part')) xs) fun a => W.bind (W.ret (0 : Int)) fun b => W.opt (atI a b))))
theorem t_first_color : FnW F_first_color (fun t : Int × (List (List Int)) × (List Int) × Unit => [.v (eI t.1), .v ((eL (eL eI)) t.2.1), .v ((eL eI) t.2.2.1)]) [.top, .top, .top] false eI (fun t => f_first_color t.1 t.2.1 t.2.2.1) :=
  fn_of (nN := 6) (n := 3) (G := G_first_color) (σ := Empty) (Γo := fun _ z => z.elim) (k := fun _ z => z.elim) rfl ⟨trivial, trivial, trivial, trivial⟩ (fun t => (show SimC G_first_color [.v (eI t.1), .v ((eL (eL eI)) t.2.1), .v ((eL eI) t.2.2.1), .jk, .jk, .jk] (MtP [.top, .top, .top]) (OF false eI [.top, .top, .top]) _ _ (f_first_color t.1 t.2.1 t.2.2.1) from (sc_seq (sc_asg (se_bin os_sub (se_un us_bits (sv_var 0 rfl)) (sv_c (ea := eI) (x := 1) rfl)) (ag_nm 3 rfl (by exact trivial)) (eP (by exact ⟨trivial, trivial, trivial, SubP.nil⟩))) (fun last' => (sc_seq (sc_asg (se_lc (vs := [5]) (si_seqL (se_bin os_idxL (sv_var 1 rfl) (sv_var 3 rfl))) ⟨trivial, trivial⟩ (ag_nm 5 rfl (by exact trivial)) (fun _ => ⟨trivial, trivial⟩) (fun _ => rfl) (fun part' => (st_T (se_call t_is_within (sr_cons (sv_var 5 rfl) (sr_cons (sv_var 0 rfl) sr_nil)) (fun _ => (by exact ⟨⟨rfl, rfl, trivial⟩, trivial, List.nodup_nil⟩))))) (fun part' => (sv_var 5 rfl))) (ag_nm 4 rfl (by exact trivial)) (eP (by exact ⟨trivial, trivial, trivial, SubP.nil⟩))) (fun inside' => (sc_ret (se_bin os_idxL (se_lc (vs := [5]) (si_seqL (sv_var 4 rfl)) ⟨trivial, trivial⟩ (ag_nm 5 rfl (by exact trivial)) (fun _ => ⟨trivial, trivial⟩) (fun _ => rfl) (fun part' => (st_T (se_bin os_lt (se_bin os_idxL (sv_var 2 rfl) (se_bin os_xor (sv_var 0 rfl) (sv_var 5 rfl))) (se_bin os_idxL (sv_var 2 rfl) (sv_var 0 rfl))))) (fun part' => (sv_var 5 rfl))) (sv_c (ea := eI) (x := 0) rfl)) (eP (by exact ⟨trivial, trivial, trivial, SubP.nil⟩)) (by exact ⟨trivial, trivial, trivial, SubP.nil⟩)))))))) fn_no
def f_color_masks (mask' : Int) (sets' : (List (List Int))) (numbers' : (List Int)) : W (List Int) := (W.bind (W.bind (W.ret ([] : List Int)) fun as => W.req (as.length ≤ 1000) as) fun colors' => (W.bind (W.ret mask') fun left' => (W.bind (W.whileB (fun s1' => (W.bind (W.ret s1'.2) fun a => W.bind (W.ret (0 : Int)) fun b => W.ret (decide (b < a)))) (fun s1' => (W.bind (W.bind (W.bind (W.ret s1'.2) fun a => W.bind (W.bind (W.ret sets') fun a => W.bind (W.bind (W.ret numbers') fun a => W.bind (W.ret ()) fun b => W.ret (a, b)) fun b => W.ret (a, b)) fun b => W.ret (a, b)) (fun t => f_first_color t.1 t.2.1 t.2.2.1)) fun color' => (W.bind (W.bind (W.ret color') fun y => W.app s1'.1 y) fun colors' => (W.bind (W.bind (W.ret s1'.2) fun a => W.bind (W.ret color') fun b => W.ret (Builtin.bitXor a b)) fun left' => (W.ret (St.go (colors', left'))))))) 1000 (colors', left')) (W.cont (fun s1' => (W.ret s1'.1)) fun v => W.ret v))))
theorem t_color_masks : FnW F_color_masks (fun t : Int × (List (List Int)) × (List Int) × Unit => [.v (eI t.1), .v ((eL (eL eI)) t.2.1), .v ((eL eI) t.2.2.1)]) [.top, .top, .top] true (eL eI) (fun t => f_color_masks t.1 t.2.1 t.2.2.1) :=
  fn_of (nN := 6) (n := 3) (G := G_color_masks) (σ := Empty) (Γo := fun _ z => z.elim) (k := fun _ z => z.elim) rfl ⟨trivial, trivial, trivial, trivial⟩ (fun t => (show SimC G_color_masks [.v (eI t.1), .v ((eL (eL eI)) t.2.1), .v ((eL eI) t.2.2.1), .jk, .jk, .jk] (MtP [.top, .top, .top]) (OF true (eL eI) [.top, .top, .top]) _ _ (f_color_masks t.1 t.2.1 t.2.2.1) from (sc_seq (sc_own 3 (se_lst (sl_nil (ea := eI))) rfl trivial (eP (by exact ⟨trivial, trivial, trivial, SubP.nil⟩))) (fun colors' => (sc_seq (sc_asg (sv_var 0 rfl) (ag_nm 4 rfl (by exact trivial)) (eP (by exact ⟨trivial, trivial, trivial, SubP.nil⟩))) (fun left' => (sc_seq (sc_while (β := (List Int)) (Γo := fun (s1' : (List Int) × Int) => [.v (eI t.1), .v ((eL (eL eI)) t.2.1), .v ((eL eI) t.2.2.1), .o ((eL eI) s1'.1), .v (eI s1'.2), .jk]) (Ob := OF true (eL eI) [.top, .top, .top]) (h := fun v => v) (by exact ⟨rfl, rfl, rfl, rfl, rfl, trivial, trivial⟩) (fun s1' => (st_T (se_bin os_gt (sv_var 4 rfl) (sv_c (ea := eI) (x := 0) rfl)))) (fun s1' => (eP (by exact ⟨trivial, trivial, trivial, SubP.nil⟩))) oF_id (fun s1' => (sc_seq (sc_asg (se_call t_first_color (sr_cons (sv_var 4 rfl) (sr_cons (sv_var 1 rfl) (sr_cons (sv_var 2 rfl) sr_nil))) (fun _ => (by exact ⟨⟨rfl, rfl, rfl, trivial⟩, trivial, List.nodup_nil⟩))) (ag_nm 5 rfl (by exact trivial)) (eP (by exact ⟨trivial, trivial, trivial, SubP.nil⟩))) (fun color' => (sc_seq (sc_app 3 (o := true) rfl (sv_var 5 rfl) (eP (by exact ⟨trivial, trivial, trivial, SubP.nil⟩))) (fun colors' => (sc_last (h := fun (left' : Int) => (colors', left')) (fun left' => (by exact ⟨rfl, rfl, rfl, rfl, rfl, trivial, trivial⟩)) (sc_asg (se_bin os_xor (sv_var 4 rfl) (sv_var 5 rfl)) (ag_nm 4 rfl (by exact trivial)) (eP (by exact ⟨trivial, trivial, trivial, SubP.nil⟩)))))))))) (fun s1' => (sc_retO (ea := (eL eI)) (x := s1'.1) 3 rfl (of_own (x := s1'.1) (by exact ⟨trivial, trivial, trivial, SubP.nil⟩))))))))))) fn_no
def f_has_vertex (mask' : Int) (vertex' : Int) : W Bool := (W.bind (W.bind (W.bind (W.ret mask') fun a => W.bind (W.ret vertex') fun b => W.req (0 ≤ b) (a / 2 ^ b.toNat)) fun a => W.bind (W.ret (1 : Int)) fun b => W.ret (Builtin.bitAnd a b)) fun a => W.bind (W.ret (1 : Int)) fun b => W.ret (decide (a = b)))
theorem t_has_vertex : FnW F_has_vertex (fun t : Int × Int × Unit => [.v (eI t.1), .v (eI t.2.1)]) [.top, .top] false eB (fun t => f_has_vertex t.1 t.2.1) :=
  fn_of (nN := 2) (n := 2) (G := G_has_vertex) (σ := Empty) (Γo := fun _ z => z.elim) (k := fun _ z => z.elim) rfl ⟨trivial, trivial, trivial⟩ (fun t => (show SimC G_has_vertex [.v (eI t.1), .v (eI t.2.1)] (MtP [.top, .top]) (OF false eB [.top, .top]) _ _ (f_has_vertex t.1 t.2.1) from (sc_ret (se_bin (os_eq ((dat_I).eq (by decide))) (se_bin os_and (se_bin os_shr (sv_var 0 rfl) (sv_var 1 rfl)) (sv_c (ea := eI) (x := 1) rfl)) (sv_c (ea := eI) (x := 1) rfl)) (eP (by exact ⟨trivial, trivial, SubP.nil⟩)) (by exact ⟨trivial, trivial, SubP.nil⟩)))) fn_no
def f_color_of (vertex' : Int) (colors' : (List Int)) : W Int := (W.bind (W.bind (W.bind (W.ret colors') fun xs => W.ret (enumFrom 0 xs)) fun xs => W.lc (fun p1' => (W.bind (W.bind (W.ret p1'.2) fun a => W.bind (W.bind (W.ret vertex') fun a => W.bind (W.ret ()) fun b => W.ret (a, b)) fun b => W.ret (a, b)) (fun t => f_has_vertex t.1 t.2.1))) (fun p1' => (W.ret p1'.1)) xs) fun a => W.bind (W.ret (0 : Int)) fun b => W.opt (atI a b))
theorem t_color_of : FnW F_color_of (fun t : Int × (List Int) × Unit => [.v (eI t.1), .v ((eL eI) t.2.1)]) [.top, .top] false eI (fun t => f_color_of t.1 t.2.1) :=
  fn_of (nN := 4) (n := 2) (G := G_color_of) (σ := Empty) (Γo := fun _ z => z.elim) (k := fun _ z => z.elim) rfl ⟨trivial, trivial, trivial⟩ (fun t => (show SimC G_color_of [.v (eI t.1), .v ((eL eI) t.2.1), .jk, .jk] (MtP [.top, .top]) (OF false eI [.top, .top]) _ _ (f_color_of t.1 t.2.1) from (sc_ret (se_bin os_idxL (se_lc (vs := [2, 3]) (si_enum (fun _ => rfl) (sv_var 1 rfl)) ⟨trivial, trivial, trivial⟩ (ag_tp2 (ag_nm 2 rfl (by exact trivial)) (fun _ => (ag_nm 3 rfl (by exact trivial)))) (fun _ => ⟨trivial, trivial, trivial⟩) (fun _ => rfl) (fun p1' => (st_T (se_call t_has_vertex (sr_cons (sv_var 3 rfl) (sr_cons (sv_var 0 rfl) sr_nil)) (fun _ => (by exact ⟨⟨rfl, rfl, trivial⟩, trivial, List.nodup_nil⟩))))) (fun p1' => (sv_var 2 rfl))) (sv_c (ea := eI) (x := 0) rfl)) (eP (by exact ⟨trivial, trivial, SubP.nil⟩)) (by exact ⟨trivial, trivial, SubP.nil⟩)))) fn_no
def f_are_colors (value' : PV) : W Bool := (W.bind (W.bind (W.bind (W.ret value') fun p => W.bind (W.opt (kindOf CS p)) fun k => W.ret (k.is (.t .tup))) fun a => W.ret (!a)) fun b => if b = true then (W.ret false) else (W.bind (W.bind (W.bind (W.ret value') fun p => W.opt (seqP p)) fun xs => W.lc (fun number' => (W.ret true)) (fun number' => (W.bind (W.bind (W.ret number') fun a => W.bind (W.bind (W.ret (0 : Int)) fun a => W.bind (W.bind (W.bind (W.ret (C_MOST_VERTICES : Int)) fun a => W.bind (W.ret (1 : Int)) fun b => W.ret (a - b)) fun a => W.bind (W.ret ()) fun b => W.ret (a, b)) fun b => W.ret (a, b)) fun b => W.ret (a, b)) (fun t => f_is_between t.1 t.2.1 t.2.2.1))) xs) fun a => W.ret (a.all id)))
theorem t_are_colors : FnW F_are_colors (fun t : PV × Unit => [.v (eA t.1)]) [.top] false eB (fun t => f_are_colors t.1) :=
  fn_of (nN := 2) (n := 1) (G := G_are_colors) (σ := Empty) (Γo := fun _ z => z.elim) (k := fun _ z => z.elim) rfl ⟨trivial, trivial⟩ (fun t => (show SimC G_are_colors [.v (eA t.1), .jk] (MtP [.top]) (OF false eB [.top]) _ _ (f_are_colors t.1) from (sc_ifx0 (st_not (st_T (se_un us_isi (sv_var 0 rfl)))) (eP (by exact ⟨trivial, SubP.nil⟩)) (sc_ret (sv_c (ea := eB) (x := false) rfl) (eP (by exact ⟨trivial, SubP.nil⟩)) (by exact ⟨trivial, SubP.nil⟩)) (sc_ret (se_b1 bs_all (se_lc (vs := [1]) (si_seqA (sv_var 0 rfl)) ⟨trivial, trivial⟩ (ag_nm 1 rfl (by exact trivial)) (fun _ => ⟨trivial, trivial⟩) (fun _ => rfl) (fun number' => st_yes) (fun number' => (se_call t_is_between (sr_cons (sv_var 1 rfl) (sr_cons (sv_c (ea := eI) (x := 0) rfl) (sr_cons (se_bin os_sub (sv_c (ea := eI) (x := C_MOST_VERTICES) rfl) (sv_c (ea := eI) (x := 1) rfl)) sr_nil))) (fun _ => (by exact ⟨⟨rfl, rfl, rfl, trivial⟩, trivial, List.nodup_nil⟩)))))) (eP (by exact ⟨trivial, SubP.nil⟩)) (by exact ⟨trivial, SubP.nil⟩))))) fn_no
def f_normal_form (coloring' : PV) : W (List Int) := (W.bind (W.bind (W.bind (W.bind (W.bind (W.ret coloring') fun a => W.bind (W.ret ()) fun b => W.ret (a, b)) (fun t => f_are_colors t.1)) fun a => W.ret (!a)) fun a => if a = true then W.ret true else (W.bind (W.bind (W.ret coloring') fun a => W.ex fun n => bLen [a] = some (.int n)) fun a => W.bind (W.ret (C_MOST_VERTICES : Int)) fun b => W.ret (decide (b < a)))) fun b => if b = true then (W.bind (W.bind (W.ret coloring') fun a => W.bind (W.ret ()) fun b => W.ret (a, b)) fun t => W.err (mkE "InvalidColoring" ["value"] [eA t.1])) else (W.bind (W.ret []) fun names' => (W.bind (W.bind (W.ret coloring') fun p => W.opt (seqP p)) fun xs => W.bind (W.forS (fun s1' number' => (W.bind (W.bind (W.bind (W.ret number') fun p => W.opt (pyI p)) fun k => W.bind (W.ret (s1'.length : Int)) fun y => W.setdD s1' k y) fun names' => (W.ret names'))) xs names') fun s1' => (W.bind (W.bind (W.bind (W.ret coloring') fun p => W.opt (seqP p)) fun xs => W.lc (fun number' => (W.ret true)) (fun number' => (W.bind (W.bind (W.ret number') fun p => W.opt (pyI p)) fun k => W.opt (lookI s1' k))) xs) fun a => W.ret a))))
theorem t_normal_form : FnW F_normal_form (fun t : PV × Unit => [.v (eA t.1)]) [.top] false (eT eI) (fun t => f_normal_form t.1) :=
  fn_of (nN := 3) (n := 1) (G := G_normal_form) (σ := Empty) (Γo := fun _ z => z.elim) (k := fun _ z => z.elim) rfl ⟨trivial, trivial⟩ (fun t => (show SimC G_normal_form [.v (eA t.1), .jk, .jk] (MtP [.top]) (OF false (eT eI) [.top]) _ _ (f_normal_form t.1) from (sc_ifx0 (st_or (st_not (st_T (se_call t_are_colors (sr_cons (sv_var 0 rfl) sr_nil) (fun _ => (by exact ⟨⟨rfl, trivial⟩, trivial, List.nodup_nil⟩))))) (st_T (se_bin os_gt (se_b1 bs_lenA (sv_var 0 rfl)) (sv_c (ea := eI) (x := C_MOST_VERTICES) rfl)))) (eP (by exact ⟨trivial, SubP.nil⟩)) (sc_raise (sa_cons (sv_var 0 rfl) sa_nil) (eP (by exact ⟨trivial, SubP.nil⟩)) (fun _ => rfl)) (sc_seq (sc_own 1 se_dic0 rfl trivial (eP (by exact ⟨trivial, SubP.nil⟩))) (fun names' => (sc_seq (sc_forS (Γo := fun (s1' : (List (Int × Int))) => [.v (eA t.1), .o ((eD eI) s1'), .jk]) (si_seqA (sv_var 0 rfl)) (eP (by exact ⟨trivial, SubP.nil⟩)) (by exact ⟨rfl, rfl, trivial, trivial⟩) (fun s1' => (ag_nm 2 rfl (by exact trivial))) (fun s1' number' => (sc_last (h := fun (names' : (List (Int × Int))) => names') (fun names' => (by exact ⟨rfl, rfl, trivial, trivial⟩)) (sc_setdD 1 (o := true) rfl (sim_cox (R' := eI) co_I (sv_var 2 rfl)) (se_lenD 1 (.inl rfl)) (eP (by exact ⟨trivial, SubP.nil⟩)))))) (fun s1' => (sc_ret (se_b1 bs_tupL (se_lc (vs := [2]) (si_seqA (sv_var 0 rfl)) ⟨trivial, trivial⟩ (ag_nm 2 rfl (by exact trivial)) (fun _ => ⟨trivial, trivial⟩) (fun _ => rfl) (fun number' => st_yes) (fun number' => (se_getD 1 (.inl rfl) (sim_cox (R' := eI) co_I (sv_var 2 rfl)))))) (eP (by exact ⟨trivial, SubP.nil⟩)) (by exact ⟨trivial, SubP.nil⟩))))))))) fn_no
def f_subset_coloring (subset' : (List Int)) (sets' : (List (List Int))) (numbers' : (List Int)) : W (List Int) := (W.bind (W.bind (W.bind (W.bind (W.bind (W.ret subset') fun a => W.bind (W.ret ()) fun b => W.ret (a, b)) (fun t => f_mask_of t.1)) fun a => W.bind (W.bind (W.ret sets') fun a => W.bind (W.bind (W.ret numbers') fun a => W.bind (W.ret ()) fun b => W.ret (a, b)) fun b => W.ret (a, b)) fun b => W.ret (a, b)) (fun t => f_color_masks t.1 t.2.1 t.2.2.1)) fun colors' => (W.bind (W.bind (W.bind (W.bind (W.bind (W.ret subset') fun xs => W.lc (fun vertex' => (W.ret true)) (fun vertex' => (W.bind (W.bind (W.ret vertex') fun a => W.bind (W.bind (W.ret colors') fun a => W.bind (W.ret ()) fun b => W.ret (a, b)) fun b => W.ret (a, b)) (fun t => f_color_of t.1 t.2.1))) xs) fun a => W.ret a) fun a => W.ret ((eT eI) a)) fun a => W.bind (W.ret ()) fun b => W.ret (a, b)) (fun t => f_normal_form t.1)))
theorem t_subset_coloring : FnW F_subset_coloring (fun t : (List Int) × (List (List Int)) × (List Int) × Unit => [.v ((eT eI) t.1), .v ((eL (eL eI)) t.2.1), .v ((eL eI) t.2.2.1)]) [.top, .top, .top] false (eT eI) (fun t => f_subset_coloring t.1 t.2.1 t.2.2.1) :=
  fn_of (nN := 5) (n := 3) (G := G_subset_coloring) (σ := Empty) (Γo := fun _ z => z.elim) (k := fun _ z => z.elim) rfl ⟨trivial, trivial, trivial, trivial⟩ (fun t => (show SimC G_subset_coloring [.v ((eT eI) t.1), .v ((eL (eL eI)) t.2.1), .v ((eL eI) t.2.2.1), .jk, .jk] (MtP [.top, .top, .top]) (OF false (eT eI) [.top, .top, .top]) _ _ (f_subset_coloring t.1 t.2.1 t.2.2.1) from (sc_seq (sc_asg (se_call t_color_masks (sr_cons (se_call t_mask_of (sr_cons (sv_var 0 rfl) sr_nil) (fun _ => (by exact ⟨⟨rfl, trivial⟩, trivial, List.nodup_nil⟩))) (sr_cons (sv_var 1 rfl) (sr_cons (sv_var 2 rfl) sr_nil))) (fun _ => (by exact ⟨⟨rfl, rfl, rfl, trivial⟩, trivial, List.nodup_nil⟩))) (ag_nm 3 rfl (by exact trivial)) (eP (by exact ⟨trivial, trivial, trivial, SubP.nil⟩))) (fun colors' => (sc_ret (se_call t_normal_form (sr_cons (sim_co (R' := eA) (eT eI) (fun _ => rfl) (se_b1 bs_tupL (se_lc (vs := [4]) (si_seqT (sv_var 0 rfl)) ⟨trivial, trivial⟩ (ag_nm 4 rfl (by exact trivial)) (fun _ => ⟨trivial, trivial⟩) (fun _ => rfl) (fun vertex' => st_yes) (fun vertex' => (se_call t_color_of (sr_cons (sv_var 4 rfl) (sr_cons (sv_var 3 rfl) sr_nil)) (fun _ => (by exact ⟨⟨rfl, rfl, trivial⟩, trivial, List.nodup_nil⟩))))))) sr_nil) (fun _ => (by exact ⟨⟨rfl, trivial⟩, trivial, List.nodup_nil⟩))) (eP (by exact ⟨trivial, trivial, trivial, SubP.nil⟩)) (by exact ⟨trivial, trivial, trivial, SubP.nil⟩)))))) fn_no
def f_Graph___len__ (self' : Gr) : W Int := (W.bind (W.bind (W.ret self') fun g => W.ret (gr_vertices g)) fun a => W.ret (a.length : Int))
theorem t_Graph___len__ : FnW F_Graph___len__ (fun t : Gr × Unit => [.v (eG t.1)]) [.top] false eI (fun t => f_Graph___len__ t.1) :=
  fn_of (nN := 1) (n := 1) (G := G_Graph___len__) (σ := Empty) (Γo := fun _ z => z.elim) (k := fun _ z => z.elim) rfl ⟨trivial, trivial⟩ (fun t => (show SimC G_Graph___len__ [.v (eG t.1)] (MtP [.top]) (OF false eI [.top]) _ _ (f_Graph___len__ t.1) from (sc_ret (se_b1 bs_lenT (se_un us_gr_vertices (sv_var 0 rfl))) (eP (by exact ⟨trivial, SubP.nil⟩)) (by exact ⟨trivial, SubP.nil⟩)))) fn_no
def f_optimal_coloring (graph' : Gr) : W (List Int) := (W.bind (W.bind (W.bind (W.ret graph') fun a => W.bind (W.ret ()) fun b => W.ret (a, b)) (fun t => f_require_exhaustible t.1)) fun _ => (W.bind (W.bind (W.bind (W.ret graph') fun a => W.bind (W.ret ()) fun b => W.ret (a, b)) (fun t => f_independent_masks t.1)) fun sets' => (W.bind (W.bind (W.bind (W.ret graph') fun g => W.bind (W.no (f_Graph___len__ g)) fun n => W.req (0 ≤ n ∧ n ≤ 1000000 ∧ (gr_vertices g).length ≤ 1000000) (gr_vertices g)) fun a => W.bind (W.bind (W.ret sets') fun a => W.bind (W.bind (W.bind (W.bind (W.ret sets') fun a => W.bind (W.ret ()) fun b => W.ret (a, b)) (fun t => f_chromatic_numbers t.1)) fun a => W.bind (W.ret ()) fun b => W.ret (a, b)) fun b => W.ret (a, b)) fun b => W.ret (a, b)) (fun t => f_subset_coloring t.1 t.2.1 t.2.2.1))))
theorem t_optimal_coloring : FnW F_optimal_coloring (fun t : Gr × Unit => [.v (eG t.1)]) [.top] false (eT eI) (fun t => f_optimal_coloring t.1) :=
  fn_of (nN := 2) (n := 1) (G := G_optimal_coloring) (σ := Empty) (Γo := fun _ z => z.elim) (k := fun _ z => z.elim) rfl ⟨trivial, trivial⟩ (fun t => (show SimC G_optimal_coloring [.v (eG t.1), .jk] (MtP [.top]) (OF false (eT eI) [.top]) _ _ (f_optimal_coloring t.1) from (sc_seq (sc_drop (se_call t_require_exhaustible (sr_cons (sv_var 0 rfl) sr_nil) (fun _ => (by exact ⟨⟨rfl, trivial⟩, trivial, List.nodup_nil⟩))) (eP (by exact ⟨trivial, SubP.nil⟩))) (fun _ => (sc_seq (sc_asg (se_call t_independent_masks (sr_cons (sv_var 0 rfl) sr_nil) (fun _ => (by exact ⟨⟨rfl, trivial⟩, trivial, List.nodup_nil⟩))) (ag_nm 1 rfl (by exact trivial)) (eP (by exact ⟨trivial, SubP.nil⟩))) (fun sets' => (sc_ret (se_call t_subset_coloring (sr_cons (se_b1 (bs_tupOwn t_Graph___len__ (fun _ => rfl)) (sv_var 0 rfl)) (sr_cons (sv_var 1 rfl) (sr_cons (se_call t_chromatic_numbers (sr_cons (sv_var 1 rfl) sr_nil) (fun _ => (by exact ⟨⟨rfl, trivial⟩, trivial, List.nodup_nil⟩))) sr_nil))) (fun _ => (by exact ⟨⟨rfl, rfl, rfl, trivial⟩, trivial, List.nodup_nil⟩))) (eP (by exact ⟨trivial, SubP.nil⟩)) (by exact ⟨trivial, SubP.nil⟩)))))))) fn_no
def f_chromatic_number (graph' : Gr) : W Int := (W.bind (W.bind (W.bind (W.ret graph') fun a => W.bind (W.ret ()) fun b => W.ret (a, b)) (fun t => f_require_exhaustible t.1)) fun _ => (W.bind (W.bind (W.bind (W.bind (W.bind (W.ret graph') fun a => W.bind (W.ret ()) fun b => W.ret (a, b)) (fun t => f_independent_masks t.1)) fun a => W.bind (W.ret ()) fun b => W.ret (a, b)) (fun t => f_chromatic_numbers t.1)) fun a => W.bind (W.bind (W.ret (1 : Int)) fun a => W.ret (-a)) fun b => W.opt (atI a b)))
theorem t_chromatic_number : FnW F_chromatic_number (fun t : Gr × Unit => [.v (eG t.1)]) [.top] false eI (fun t => f_chromatic_number t.1) :=
  fn_of (nN := 1) (n := 1) (G := G_chromatic_number) (σ := Empty) (Γo := fun _ z => z.elim) (k := fun _ z => z.elim) rfl ⟨trivial, trivial⟩ (fun t => (show SimC G_chromatic_number [.v (eG t.1)] (MtP [.top]) (OF false eI [.top]) _ _ (f_chromatic_number t.1) from (sc_seq (sc_drop (se_call t_require_exhaustible (sr_cons (sv_var 0 rfl) sr_nil) (fun _ => (by exact ⟨⟨rfl, trivial⟩, trivial, List.nodup_nil⟩))) (eP (by exact ⟨trivial, SubP.nil⟩))) (fun _ => (sc_ret (se_bin os_idxL (se_call t_chromatic_numbers (sr_cons (se_call t_independent_masks (sr_cons (sv_var 0 rfl) sr_nil) (fun _ => (by exact ⟨⟨rfl, trivial⟩, trivial, List.nodup_nil⟩))) sr_nil) (fun _ => (by exact ⟨⟨rfl, trivial⟩, trivial, List.nodup_nil⟩))) (se_un us_neg (sv_c (ea := eI) (x := 1) rfl))) (eP (by exact ⟨trivial, SubP.nil⟩)) (by exact ⟨trivial, SubP.nil⟩)))))) fn_no
end Ev
namespace Ev
open PySem PySem.Spec PyProof.Rows L2
section
variable {P : Program} {w : World} {K : PySem.W.Frag} {mg : Str → Option Value} {base : Heap} {C : Addr}
def G__law_alike (Fs : Fn) : FS := (gSeq (gIf (fT (fUn (pIsi2 CS (.t .lst) (.t .tup)) (fVar 1)))
        (gSeq (gIf (tAndF (fT (fUn (pIsi CS (.t .lst)) (fVar 1))) (tNotF (fT (fUn (pIsi CS (.t .lst)) (fVar 0)))))
          (gRet (fC (.bl false)))
          gNx)
        (gSeq (gIf (tAndF (fT (fUn (pIsi CS (.t .tup)) (fVar 1))) (tNotF (fT (fUn (pIsi CS (.t .tup)) (fVar 0)))))
          (gRet (fC (.bl false)))
          gNx)
        (gSeq (gIf (fT (fBin pNe (fB bLen (fCons (fVar 0) fNil)) (fB bLen (fCons (fVar 1) fNil))))
          (gRet (fC (.bl false)))
          gNx)
        (gSeq (gFor (fRng1 (fB bLen (fCons (fVar 1) fNil))) (.nm 2)
          (gIf (tNotF (fT (fCall Fs (aCons (fBin pIdx (fVar 0) (fVar 2)) (aCons (fBin pIdx (fVar 1) (fVar 2)) aNil)))))
            (gRet (fC (.bl false)))
            gNx))
        (gRet (fC (.bl true)))))))
        gNx)
      (gSeq (gIf (fT (fUn (pIsi CS (.c "Graph")) (fVar 1)))
        (gRet (fAnd (fUn (pIsi CS (.c "Graph")) (fVar 0)) (fAnd (fBin pEq (fUn (pFld "Graph" "size") (fVar 0)) (fUn (pFld "Graph" "size") (fVar 1))) (fBin pEq (fUn (pFld "Graph" "edges") (fVar 0)) (fUn (pFld "Graph" "edges") (fVar 1))))))
        gNx)
      (gSeq (gIf (fT (fBin pIsN (fVar 1) (fC .non)))
        (gRet (fBin pIsN (fVar 0) (fC .non)))
        gNx)
      (gSeq (gIf (fT (fBin pIsB (fVar 1) (fC (.bl true))))
        (gRet (fBin pIsB (fVar 0) (fC (.bl true))))
        gNx)
      (gSeq (gIf (fT (fBin pIsB (fVar 1) (fC (.bl false))))
        (gRet (fBin pIsB (fVar 0) (fC (.bl false))))
        gNx)
      (gSeq (gIf (fT (fUn (pIsi CS (.t .str)) (fVar 1)))
        (gRet (fAnd (fUn (pIsi CS (.t .str)) (fVar 0)) (fBin pEq (fVar 0) (fVar 1))))
        gNx)
      (gRet (fAnd (fUn (pIsi CS (.t .int)) (fVar 0)) (fAnd (fNot (fUn (pIsi CS (.t .bl)) (fVar 0))) (fBin pEq (fVar 0) (fVar 1)))))))))))
def F__law_alike : Nat → Fn
  | 0 => fun _ => .bad
  | n + 1 => defF 3 2 (G__law_alike (F__law_alike n))
def L__law_alike : Nat → Nat
  | 0 => 0
  | n + 1 => (max (L__law_alike n) 0) + 1
theorem okP__law_alike {f : Addr} {fd : FuncData} (F : Fun K "_law_alike" "_law_alike" s__law_alike f fd) (hgl : mg "_law_alike" = some (.ref f)) (hkp : PySem.W.keepIn K (.ref f) = true) (hbi : Binds K fd ["found", "due"] []) (CC : Clss K CS) (K_Graph : ClsP K "Graph" ["size", "edges", "_vertices", "_rows"]) (f_bool : mg "bool" = none) (f_int : mg "int" = none) (f_isinstance : mg "isinstance" = none) (f_len : mg "len" = none) (f_list : mg "list" = none) (f_range : mg "range" = none) (f_str : mg "str" = none) (f_tuple : mg "tuple" = none) (g_Graph : mg "Graph" = some (.ref (He.ga K "Graph"))) : ∀ n, FnOk P w K mg base (L2.CX P w) (L__law_alike n) f fd ["found", "due"] (spG K 2 (F__law_alike n))
  | 0 => fn_bad
  | n + 1 => by
    have c__law_alike : CaX P w K mg base (L__law_alike n) "_law_alike" (spG K 2 (F__law_alike n)) := ⟨⟨f, fd, ["found", "due"], okP__law_alike F hgl hkp hbi CC K_Graph f_bool f_int f_isinstance f_len f_list f_range f_str f_tuple g_Graph n, hgl, hkp, hbi⟩⟩
    exact ok_pure Ns__law_alike ["found", "due"] 3 2 (max (L__law_alike n) 0) (G__law_alike (F__law_alike n)) F scs__law_alike rfl rfl (fun cdv A outer s H E hr =>
      (us_cons (us_if (ut_val (ue_isi2 (.t .lst) (.t .tup) CC (by first | decide | omega) (by first | decide | omega) (by rfl) f_isinstance (by decide +kernel) (ue_var 1) (pe_bltn (v := .ty "list") (by rfl) f_list (by decide +kernel) rfl) (pe_bltn (v := .ty "tuple") (by rfl) f_tuple (by decide +kernel) rfl)))
        (us_cons (us_if (PW.pt (uw_and (ut_val (ue_isi (.t .lst) CC (by first | decide | omega) (by rfl) f_isinstance (by decide +kernel) (ue_var 1) (pe_bltn (v := .ty "list") (by rfl) f_list (by decide +kernel) rfl))) (uw_and1 (ut_not (ut_val (ue_isi (.t .lst) CC (by first | decide | omega) (by rfl) f_isinstance (by decide +kernel) (ue_var 0) (pe_bltn (v := .ty "list") (by rfl) f_list (by decide +kernel) rfl)))))))
          (us_one (us_ret ue_bl))
          us_nil)
        (us_cons (us_if (PW.pt (uw_and (ut_val (ue_isi (.t .tup) CC (by first | decide | omega) (by rfl) f_isinstance (by decide +kernel) (ue_var 1) (pe_bltn (v := .ty "tuple") (by rfl) f_tuple (by decide +kernel) rfl))) (uw_and1 (ut_not (ut_val (ue_isi (.t .tup) CC (by first | decide | omega) (by rfl) f_isinstance (by decide +kernel) (ue_var 0) (pe_bltn (v := .ty "tuple") (by rfl) f_tuple (by decide +kernel) rfl)))))))
          (us_one (us_ret ue_bl))
          us_nil)
        (us_cons (us_if (ut_cmp (po_ne hr.units) (ue_callB pc_len (by rfl) f_len (by decide +kernel) (ua_cons (ue_var 0) ua_nil)) (ue_callB pc_len (by rfl) f_len (by decide +kernel) (ua_cons (ue_var 1) ua_nil)) (nomark _))
          (us_one (us_ret ue_bl))
          us_nil)
        (us_cons (us_for (passes_of rfl) rfl (ui_rng1 (by rfl) f_range (ue_callB pc_len (by rfl) f_len (by decide +kernel) (ua_cons (ue_var 1) ua_nil))) (ug_nm (i := 2) scs__law_alike.nd rfl (Or.inl rfl))
          (us_one (us_if (ut_not (ut_val (ue_call c__law_alike hr (by first | decide | omega) (by rfl) (fun σ => passAt (W := fun cls d _ H => E cls d H) (takes_of rfl rfl rfl rfl) σ) (uas_cons (ue_ix (ue_var 0) (ue_var 2) (fun _ _ => rfl)) (uas_cons (ue_ix (ue_var 1) (ue_var 2) (fun _ _ => rfl)) uas_nil)) (aCons_len (aCons_len (fun _ _ h => aNil_len h))))))
            (us_one (us_ret ue_bl))
            us_nil)))
        (us_one (us_ret ue_bl))))))
        us_nil)
      (us_cons (us_if (ut_val (ue_isi (.c "Graph") CC (by first | decide | omega) (by rfl) f_isinstance (by decide +kernel) (ue_var 1) (pe_glob (by rfl) g_Graph rfl)))
        (us_one (us_ret (ue_and (ue_isi (.c "Graph") CC (by first | decide | omega) (by rfl) f_isinstance (by decide +kernel) (ue_var 0) (pe_glob (by rfl) g_Graph rfl)) (ue_and (ue_cmp (po_eq hr.units) (ue_fld "Graph" K_Graph (by first | decide | omega) (ue_var 0) rfl) (ue_fld "Graph" K_Graph (by first | decide | omega) (ue_var 1) rfl) (nomark _)) (pe_one (ue_cmp (po_eq hr.units) (ue_fld "Graph" K_Graph (by first | decide | omega) (ue_var 0) rfl) (ue_fld "Graph" K_Graph (by first | decide | omega) (ue_var 1) rfl) (nomark _)))))))
        us_nil)
      (us_cons (us_if (ut_cmp po_isN (ue_var 1) ue_non (nomark _))
        (us_one (us_ret (ue_cmp po_isN (ue_var 0) ue_non (nomark _))))
        us_nil)
      (us_cons (us_if (ut_cmp po_isB (ue_var 1) ue_bl (nomark _))
        (us_one (us_ret (ue_cmp po_isB (ue_var 0) ue_bl (nomark _))))
        us_nil)
      (us_cons (us_if (ut_cmp po_isB (ue_var 1) ue_bl (nomark _))
        (us_one (us_ret (ue_cmp po_isB (ue_var 0) ue_bl (nomark _))))
        us_nil)
      (us_cons (us_if (ut_val (ue_isi (.t .str) CC (by first | decide | omega) (by rfl) f_isinstance (by decide +kernel) (ue_var 1) (pe_bltn (v := .ty "str") (by rfl) f_str (by decide +kernel) rfl)))
        (us_one (us_ret (ue_and (ue_isi (.t .str) CC (by first | decide | omega) (by rfl) f_isinstance (by decide +kernel) (ue_var 0) (pe_bltn (v := .ty "str") (by rfl) f_str (by decide +kernel) rfl)) (pe_one (ue_cmp (po_eq hr.units) (ue_var 0) (ue_var 1) (nomark _))))))
        us_nil)
      (us_one (us_ret (ue_and (ue_isi (.t .int) CC (by first | decide | omega) (by rfl) f_isinstance (by decide +kernel) (ue_var 0) (pe_bltn (v := .ty "int") (by rfl) f_int (by decide +kernel) rfl)) (ue_and (ue_not (ue_isi (.t .bl) CC (by first | decide | omega) (by rfl) f_isinstance (by decide +kernel) (ue_var 0) (pe_bltn (v := .ty "bool") (by rfl) f_bool (by decide +kernel) rfl))) (pe_one (ue_cmp (po_eq hr.units) (ue_var 0) (ue_var 1) (nomark _))))))))))))))
def G__law_mixed : FS := (gSeq (gAsg (.nm 2) (fBin pMod (fB bInt (fCons (fBin pAdd (fBin pAdd (fBin pMul (fVar 0) (fC (.int 48271))) (fBin pMul (fVar 1) (fC (.int 69621)))) (fC (.int 17))) fNil)) (fC (.int 2147483647))))
      (gRet (fBin pMod (fB bInt (fCons (fBin pAdd (fBin pAdd (fBin pMul (fVar 2) (fC (.int 16807))) (fBin pDiv (fVar 2) (fC (.int 65536)))) (fBin pMul (fVar 1) (fC (.int 7919)))) fNil)) (fC (.int 998244353)))))
def F__law_mixed : Fn := defF 3 2 G__law_mixed
def L__law_mixed : Nat := 0 + 1
theorem okP__law_mixed {f : Addr} {fd : FuncData} (F : Fun K "_law_mixed" "_law_mixed" s__law_mixed f fd) (f_int : mg "int" = none) : FnOk P w K mg base (L2.CX P w) L__law_mixed f fd ["cell", "turn"] (spG K 2 F__law_mixed) :=
  ok_pure Ns__law_mixed ["cell", "turn"] 3 2 0 G__law_mixed F scs__law_mixed rfl rfl (fun cdv A outer s H E hr =>
      (us_cons (us_set (i := 2) scs__law_mixed.nd rfl (Or.inl rfl) (ue_op po_mod (ue_callTy pc_int (by rfl) f_int (by decide +kernel) (ua_cons (ue_op po_add (ue_op po_add (ue_op po_mul (ue_var 0) ue_int) (ue_op po_mul (ue_var 1) ue_int)) ue_int) ua_nil)) ue_int))
      (us_one (us_ret (ue_op po_mod (ue_callTy pc_int (by rfl) f_int (by decide +kernel) (ua_cons (ue_op po_add (ue_op po_add (ue_op po_mul (ue_var 2) ue_int) (ue_op po_div (ue_var 2) ue_int)) (ue_op po_mul (ue_var 1) ue_int)) ua_nil)) ue_int)))))
def G__law_draw : FS := (gSeq (gSetI 0 (fC (.int 3)) (fBin pAdd (fIxO' 0 (fC (.int 3))) (fC (.int 1))))
      (gSeq (gIf (tAndF (fT (fBin pEq (fIxO' 0 (fC (.int 2))) (fC (.int 0)))) (fT (fBin pLt (fIxO' 0 (fC (.int 1))) (fB bLen (fCons (fIxO' 0 (fC (.int 0))) fNil)))))
        (gSeq (gAsg (.nm 2) (fB bAbs (fCons (fBin pIdx (fIxO' 0 (fC (.int 0))) (fIxO' 0 (fC (.int 1)))) fNil)))
        (gSeq (gSetI 0 (fC (.int 1)) (fBin pAdd (fIxO' 0 (fC (.int 1))) (fC (.int 1))))
        (gSeq (gIf (fT (fBin pLt (fVar 2) (fBin pPow (fC (.int 10)) (fC (.int 18)))))
          (gRet (fBin pMod (fB bInt (fCons (fCall F__law_mixed (aCons (fVar 2) (aCons (fIxO' 0 (fC (.int 3))) aNil))) fNil)) (fVar 1)))
          gNx)
        (gSetI 0 (fC (.int 2)) (fVar 2)))))
        gNx)
      (gSeq (gIf (fT (fBin pGt (fIxO' 0 (fC (.int 2))) (fC (.int 0))))
        (gSeq (gAsg (.nm 3) (fBin pMod (fB bInt (fCons (fIxO' 0 (fC (.int 2))) fNil)) (fVar 1)))
        (gSeq (gSetI 0 (fC (.int 2)) (fBin pDiv (fIxO' 0 (fC (.int 2))) (fVar 1)))
        (gRet (fVar 3))))
        gNx)
      (gSeq (gAsg (.nm 2) (fC (.int 0)))
      (gSeq (gIf (fT (fBin pGt (fB bLen (fCons (fIxO' 0 (fC (.int 0))) fNil)) (fC (.int 0))))
        (gAsg (.nm 2) (fB bAbs (fCons (fBin pIdx (fIxO' 0 (fC (.int 0))) (fBin pMod (fB bInt (fCons (fIxO' 0 (fC (.int 3))) fNil)) (fB bLen (fCons (fIxO' 0 (fC (.int 0))) fNil)))) fNil)))
        gNx)
      (gRet (fBin pMod (fB bInt (fCons (fCall F__law_mixed (aCons (fVar 2) (aCons (fIxO' 0 (fC (.int 3))) aNil))) fNil)) (fVar 1))))))))
def F__law_draw : Fn := defF 4 2 G__law_draw
def L__law_draw : Nat := (max L__law_mixed 0) + 1
theorem okP__law_draw {f : Addr} {fd : FuncData} (F : Fun K "_law_draw" "_law_draw" s__law_draw f fd) (c__law_mixed : CaX P w K mg base L__law_mixed "_law_mixed" (spG K 2 F__law_mixed)) (f_abs : mg "abs" = none) (f_int : mg "int" = none) (f_len : mg "len" = none) : FnOk P w K mg base (L2.CX P w) L__law_draw f fd ["pool", "limit"] (spG K 2 F__law_draw) :=
  ok_pure Ns__law_draw ["pool", "limit"] 4 2 (max L__law_mixed 0) G__law_draw F scs__law_draw rfl rfl (fun cdv A outer s H E hr =>
      (us_cons (us_setI 0 (ps_asg (ue_op po_add (ue_ixO 0 ue_int (fun _ _ => rfl)) ue_int) (pg_sub (pv 0) ue_int set_list)))
      (us_cons (us_if (PW.pt (uw_and (ut_cmp (po_eq hr.units) (ue_ixO 0 ue_int (fun _ _ => rfl)) ue_int (nomark _)) (uw_and1 (ut_cmp (po_lt (Nat.lt_of_le_of_lt (Nat.le_add_right _ 64) hr.units)) (ue_ixO 0 ue_int (fun _ _ => rfl)) (ue_callB pc_len (by rfl) f_len (by decide +kernel) (ua_cons (ue_ixO 0 ue_int (fun _ _ => rfl)) ua_nil)) (nomark _)))))
        (us_cons (us_set (i := 2) scs__law_draw.nd rfl (Or.inl rfl) (ue_callB pc_abs (by rfl) f_abs (by decide +kernel) (ua_cons (ue_ix (ue_ixO 0 ue_int (fun _ _ => rfl)) (ue_ixO 0 ue_int (fun _ _ => rfl)) (fun _ _ => rfl)) ua_nil)))
        (us_cons (us_setI 0 (ps_asg (ue_op po_add (ue_ixO 0 ue_int (fun _ _ => rfl)) ue_int) (pg_sub (pv 0) ue_int set_list)))
        (us_cons (us_if (ut_cmp (po_lt (Nat.lt_of_le_of_lt (Nat.le_add_right _ 64) hr.units)) (ue_var 2) (ue_op po_pow ue_int ue_int) (nomark _))
          (us_one (us_ret (ue_op po_mod (ue_callTy pc_int (by rfl) f_int (by decide +kernel) (ua_cons (ue_call c__law_mixed hr (by decide) (by rfl) (fun σ => passAt (W := fun cls d _ H => E cls d H) (takes_of rfl rfl rfl rfl) σ) (uas_cons (ue_var 2) (uas_cons (ue_ixO 0 ue_int (fun _ _ => rfl)) uas_nil)) (aCons_len (aCons_len (fun _ _ h => aNil_len h)))) ua_nil)) (ue_var 1))))
          us_nil)
        (us_one (us_setI 0 (ps_asg (ue_var 2) (pg_sub (pv 0) ue_int set_list)))))))
        us_nil)
      (us_cons (us_if (ut_cmp po_gt (ue_ixO 0 ue_int (fun _ _ => rfl)) ue_int (nomark _))
        (us_cons (us_set (i := 3) scs__law_draw.nd rfl (Or.inl rfl) (ue_op po_mod (ue_callTy pc_int (by rfl) f_int (by decide +kernel) (ua_cons (ue_ixO 0 ue_int (fun _ _ => rfl)) ua_nil)) (ue_var 1)))
        (us_cons (us_setI 0 (ps_asg (ue_op po_div (ue_ixO 0 ue_int (fun _ _ => rfl)) (ue_var 1)) (pg_sub (pv 0) ue_int set_list)))
        (us_one (us_ret (ue_var 3)))))
        us_nil)
      (us_cons (us_set (i := 2) scs__law_draw.nd rfl (Or.inl rfl) ue_int)
      (us_cons (us_if (ut_cmp po_gt (ue_callB pc_len (by rfl) f_len (by decide +kernel) (ua_cons (ue_ixO 0 ue_int (fun _ _ => rfl)) ua_nil)) ue_int (nomark _))
        (us_one (us_set (i := 2) scs__law_draw.nd rfl (Or.inl rfl) (ue_callB pc_abs (by rfl) f_abs (by decide +kernel) (ua_cons (ue_ix (ue_ixO 0 ue_int (fun _ _ => rfl)) (ue_op po_mod (ue_callTy pc_int (by rfl) f_int (by decide +kernel) (ua_cons (ue_ixO 0 ue_int (fun _ _ => rfl)) ua_nil)) (ue_callB pc_len (by rfl) f_len (by decide +kernel) (ua_cons (ue_ixO 0 ue_int (fun _ _ => rfl)) ua_nil))) (fun _ _ => rfl)) ua_nil))))
        us_nil)
      (us_one (us_ret (ue_op po_mod (ue_callTy pc_int (by rfl) f_int (by decide +kernel) (ua_cons (ue_call c__law_mixed hr (by decide) (by rfl) (fun σ => passAt (W := fun cls d _ H => E cls d H) (takes_of rfl rfl rfl rfl) σ) (uas_cons (ue_var 2) (uas_cons (ue_ixO 0 ue_int (fun _ _ => rfl)) uas_nil)) (aCons_len (aCons_len (fun _ _ h => aNil_len h)))) ua_nil)) (ue_var 1))))))))))
def G__law_edges : FS := (gSeq (gOwn 1 (fLst fNil))
      (gSeq (gFor (fRng1 (fB bLen (fCons (fVar 0) fNil))) (.nm 2)
        (gFor (fRng2 (fBin pAdd (fVar 2) (fC (.int 1))) (fB bLen (fCons (fVar 0) fNil))) (.nm 3)
          (gIf (fT (fBin pEq (fBin pAndB (fBin pShr (fBin pIdx (fVar 0) (fVar 2)) (fVar 3)) (fC (.int 1))) (fC (.int 1))))
            (gApp' 1 (fTup (fCons (fVar 2) (fCons (fVar 3) fNil))))
            gNx)))
      (gFrz 1 (gRet (fB bTuple (fCons (fVar 1) fNil))))))
def F__law_edges : Fn := defF 4 1 G__law_edges
def L__law_edges : Nat := 0 + 1
theorem okP__law_edges {f : Addr} {fd : FuncData} (F : Fun K "_law_edges" "_law_edges" s__law_edges f fd) (f_len : mg "len" = none) (f_range : mg "range" = none) (f_tuple : mg "tuple" = none) : FnOk P w K mg base (L2.CX P w) L__law_edges f fd ["near"] (spG K 1 F__law_edges) :=
  ok_pure Ns__law_edges ["near"] 4 1 0 G__law_edges F scs__law_edges rfl rfl (fun cdv A outer s H E hr =>
      (us_cons (us_ownLst (i := 1) scs__law_edges.nd rfl (Or.inl rfl) ua_nil)
      (us_cons (us_for (passes_of rfl) rfl (ui_rng1 (by rfl) f_range (ue_callB pc_len (by rfl) f_len (by decide +kernel) (ua_cons (ue_var 0) ua_nil))) (ug_nm (i := 2) scs__law_edges.nd rfl (Or.inl rfl))
        (us_one (us_for (passes_of rfl) rfl (ui_rng2 (by rfl) f_range (ue_op po_add (ue_var 2) ue_int) (ue_callB pc_len (by rfl) f_len (by decide +kernel) (ua_cons (ue_var 0) ua_nil))) (ug_nm (i := 3) scs__law_edges.nd rfl (Or.inl rfl))
          (us_one (us_if (ut_cmp (po_eq hr.units) (ue_op po_and (ue_op po_shr (ue_ix (ue_var 0) (ue_var 2) (fun _ _ => rfl)) (ue_var 3)) ue_int) ue_int (nomark _))
            (us_one (us_app 1 (ue_tup (ua_cons (ue_var 2) (ua_cons (ue_var 3) ua_nil)))))
            us_nil)))))
      (us_frz 1 (us_one (us_ret (ue_callTy pc_tuple (by rfl) f_tuple (by decide +kernel) (ua_cons (ue_var 1) ua_nil))))))))
def G__law_shuffled : FS := (gSeq (gOwn 2 (fLst fNil))
      (gSeq (gFor (fRng1 (fVar 1)) (.nm 3)
        (gDrop (fBmO 2 mIns (fCons (fCall F__law_draw (aRef 0 (aCons (fBin pAdd (fVar 3) (fC (.int 1))) aNil))) (fCons (fVar 3) fNil)))))
      (gRetO 2)))
def F__law_shuffled : Fn := defF 4 2 G__law_shuffled
def L__law_shuffled : Nat := (max L__law_draw 0) + 1
theorem okP__law_shuffled {f : Addr} {fd : FuncData} (F : Fun K "_law_shuffled" "_law_shuffled" s__law_shuffled f fd) (c__law_draw : CaX P w K mg base L__law_draw "_law_draw" (spG K 2 F__law_draw)) (f_range : mg "range" = none) : FnOk P w K mg base (L2.CX P w) L__law_shuffled f fd ["pool", "size"] (spG K 2 F__law_shuffled) :=
  ok_pure Ns__law_shuffled ["pool", "size"] 4 2 (max L__law_draw 0) G__law_shuffled F scs__law_shuffled rfl rfl (fun cdv A outer s H E hr =>
      (us_cons (us_ownLst (i := 2) scs__law_shuffled.nd rfl (Or.inl rfl) ua_nil)
      (us_cons (us_for (passes_of rfl) rfl (ui_rng1 (by rfl) f_range (ue_var 1)) (ug_nm (i := 3) scs__law_shuffled.nd rfl (Or.inl rfl))
        (us_one (us_expr (ue_bmO 2 PySem.F.slot_list_insert PySem.F.type_list_insert bm_insert (ua_cons (ue_call c__law_draw hr (by decide) (by rfl) (fun σ => passAt (W := fun cls d _ H => E cls d H) (takes_of rfl rfl rfl rfl) σ) (uas_ref 0 (uas_cons (ue_op po_add (ue_var 3) ue_int) uas_nil)) (aRef_len (aCons_len (fun _ _ h => aNil_len h)))) (ua_cons (ue_var 3) ua_nil))))))
      (us_one (us_retO 2)))))
def G__law_near : FS := (gSeq (gAsg (.nm 2) (fCall F__law_draw (aRef 0 (aCons (fC (.int 6)) aNil))))
      (gSeq (gAsg (.nm 3) (fBin pAdd (fC (.int 1)) (fCall F__law_draw (aRef 0 (aCons (fC (.int 4)) aNil)))))
      (gSeq (gAsg (.nm 4) (fLc (fRng1 (fVar 1)) [10] (.nm 10) fYes (fCall F__law_draw (aRef 0 (aCons (fC (.int 3)) aNil)))))
      (gSeq (gAsg (.nm 5) (fCall F__law_shuffled (aRef 0 (aCons (fVar 1) aNil))))
      (gSeq (gOwn 6 (fBin pMulL (fLst (fCons (fC (.int 0)) fNil)) (fVar 1)))
      (gSeq (gFor (fRng1 (fVar 1)) (.nm 7)
        (gFor (fRng2 (fBin pAdd (fVar 7) (fC (.int 1))) (fVar 1)) (.nm 8)
          (gSeq (gAsg (.nm 9) (fBin pEq (fCall F__law_draw (aRef 0 (aCons (fVar 3) aNil))) (fC (.int 0))))
          (gSeq (gIf (fT (fBin pEq (fVar 2) (fC (.int 0))))
            (gAsg (.nm 9) (fNot (fVar 9)))
            gNx)
          (gSeq (gIf (fT (fBin pEq (fVar 2) (fC (.int 1))))
            (gAsg (.nm 9) (fAnd (fVar 9) (fBin pNe (fBin pIdx (fVar 4) (fVar 7)) (fBin pIdx (fVar 4) (fVar 8)))))
            gNx)
          (gSeq (gIf (fT (fBin pEq (fVar 2) (fC (.int 2))))
            (gAsg (.nm 9) (fAnd (fVar 9) (fBin pEq (fBin pIdx (fVar 4) (fVar 7)) (fBin pIdx (fVar 4) (fVar 8)))))
            gNx)
          (gSeq (gIf (fT (fBin pEq (fVar 2) (fC (.int 3))))
            (gAsg (.nm 9) (fOr (fBin pEq (fVar 8) (fBin pAdd (fVar 7) (fC (.int 1)))) (fOr (fAnd (fBin pEq (fVar 7) (fC (.int 0))) (fBin pEq (fVar 8) (fBin pSub (fVar 1) (fC (.int 1))))) (fAnd (fBin pEq (fVar 3) (fC (.int 3))) (fVar 9)))))
            gNx)
          (gIf (fT (fVar 9))
            (gSeq (gSetI 6 (fBin pIdx (fVar 5) (fVar 7)) (fBin pOrB (fIxO' 6 (fBin pIdx (fVar 5) (fVar 7))) (fBin pShl (fC (.int 1)) (fBin pIdx (fVar 5) (fVar 8)))))
            (gSetI 6 (fBin pIdx (fVar 5) (fVar 8)) (fBin pOrB (fIxO' 6 (fBin pIdx (fVar 5) (fVar 8))) (fBin pShl (fC (.int 1)) (fBin pIdx (fVar 5) (fVar 7))))))
            gNx))))))))
      (gRetO 6)))))))
def F__law_near : Fn := defF 11 2 G__law_near
def L__law_near : Nat := (max L__law_shuffled (max L__law_draw 0)) + 1
theorem okP__law_near {f : Addr} {fd : FuncData} (F : Fun K "_law_near" "_law_near" s__law_near f fd) (c__law_draw : CaX P w K mg base L__law_draw "_law_draw" (spG K 2 F__law_draw)) (c__law_shuffled : CaX P w K mg base L__law_shuffled "_law_shuffled" (spG K 2 F__law_shuffled)) (f_range : mg "range" = none) : FnOk P w K mg base (L2.CX P w) L__law_near f fd ["pool", "size"] (spG K 2 F__law_near) :=
  ok_pure Ns__law_near ["pool", "size"] 11 2 (max L__law_shuffled (max L__law_draw 0)) G__law_near F scs__law_near rfl rfl (fun cdv A outer s H E hr =>
      (us_cons (us_set (i := 2) scs__law_near.nd rfl (Or.inl rfl) (ue_call c__law_draw hr (by decide) (by rfl) (fun σ => passAt (W := fun cls d _ H => E cls d H) (takes_of rfl rfl rfl rfl) σ) (uas_ref 0 (uas_cons ue_int uas_nil)) (aRef_len (aCons_len (fun _ _ h => aNil_len h)))))
      (us_cons (us_set (i := 3) scs__law_near.nd rfl (Or.inl rfl) (ue_op po_add ue_int (ue_call c__law_draw hr (by decide) (by rfl) (fun σ => passAt (W := fun cls d _ H => E cls d H) (takes_of rfl rfl rfl rfl) σ) (uas_ref 0 (uas_cons ue_int uas_nil)) (aRef_len (aCons_len (fun _ _ h => aNil_len h))))))
      (us_cons (us_setLc (i := 4) (own := [("v", 10)]) (t := (.nm 10)) (c := fYes) (f := (fCall F__law_draw (aRef 0 (aCons (fC (.int 3)) aNil)))) rfl scs__law_near.nd rfl rfl (sw_true rfl rfl rfl (by decide +kernel)) (ui_rng1 (by rfl) f_range (ue_var 1)) (blkOk_by (N := Ns__law_near) (sc := defScope s__law_near) (by decide +kernel)) (fun _ _ _ _ _ => by exact (ug_nm (i := 10) scs__law_near.nd rfl (Or.inl rfl))) (fun _ _ _ _ _ => uts_nil) (fun _ _ _ _ _ => by exact (ue_call c__law_draw (by exact hr) (by decide) (by rfl) passS (uas_ref 0 (uas_cons ue_int uas_nil)) (aRef_len (aCons_len (fun _ _ h => aNil_len h))))) (by decide))
      (us_cons (us_set (i := 5) scs__law_near.nd rfl (Or.inl rfl) (ue_call c__law_shuffled hr (by decide) (by rfl) (fun σ => passAt (W := fun cls d _ H => E cls d H) (takes_of rfl rfl rfl rfl) σ) (uas_ref 0 (uas_cons (ue_var 1) uas_nil)) (aRef_len (aCons_len (fun _ _ h => aNil_len h)))))
      (us_cons (us_ownOp (i := 6) scs__law_near.nd rfl (Or.inl rfl) pon_mul (ue_lst (ua_cons ue_int ua_nil)) (ue_var 1))
      (us_cons (us_for (passes_of rfl) rfl (ui_rng1 (by rfl) f_range (ue_var 1)) (ug_nm (i := 7) scs__law_near.nd rfl (Or.inl rfl))
        (us_one (us_for (passes_of rfl) rfl (ui_rng2 (by rfl) f_range (ue_op po_add (ue_var 7) ue_int) (ue_var 1)) (ug_nm (i := 8) scs__law_near.nd rfl (Or.inl rfl))
          (us_cons (us_set (i := 9) scs__law_near.nd rfl (Or.inl rfl) (ue_cmp (po_eq hr.units) (ue_call c__law_draw hr (by decide) (by rfl) (fun σ => passAt (W := fun cls d _ H => E cls d H) (takes_of rfl rfl rfl rfl) σ) (uas_ref 0 (uas_cons (ue_var 3) uas_nil)) (aRef_len (aCons_len (fun _ _ h => aNil_len h)))) ue_int (nomark _)))
          (us_cons (us_if (ut_cmp (po_eq hr.units) (ue_var 2) ue_int (nomark _))
            (us_one (us_set (i := 9) scs__law_near.nd rfl (Or.inl rfl) (ue_not (ue_var 9))))
            us_nil)
          (us_cons (us_if (ut_cmp (po_eq hr.units) (ue_var 2) ue_int (nomark _))
            (us_one (us_set (i := 9) scs__law_near.nd rfl (Or.inl rfl) (ue_and (ue_var 9) (pe_one (ue_cmp (po_ne hr.units) (ue_ix (ue_var 4) (ue_var 7) (fun _ _ => rfl)) (ue_ix (ue_var 4) (ue_var 8) (fun _ _ => rfl)) (nomark _))))))
            us_nil)
          (us_cons (us_if (ut_cmp (po_eq hr.units) (ue_var 2) ue_int (nomark _))
            (us_one (us_set (i := 9) scs__law_near.nd rfl (Or.inl rfl) (ue_and (ue_var 9) (pe_one (ue_cmp (po_eq hr.units) (ue_ix (ue_var 4) (ue_var 7) (fun _ _ => rfl)) (ue_ix (ue_var 4) (ue_var 8) (fun _ _ => rfl)) (nomark _))))))
            us_nil)
          (us_cons (us_if (ut_cmp (po_eq hr.units) (ue_var 2) ue_int (nomark _))
            (us_one (us_set (i := 9) scs__law_near.nd rfl (Or.inl rfl) (ue_or (ue_cmp (po_eq hr.units) (ue_var 8) (ue_op po_add (ue_var 7) ue_int) (nomark _)) (ue_or (ue_and (ue_cmp (po_eq hr.units) (ue_var 7) ue_int (nomark _)) (pe_one (ue_cmp (po_eq hr.units) (ue_var 8) (ue_op po_sub (ue_var 1) ue_int) (nomark _)))) (pe_one (ue_and (ue_cmp (po_eq hr.units) (ue_var 3) ue_int (nomark _)) (pe_one (ue_var 9))))))))
            us_nil)
          (us_one (us_if (ut_val (ue_var 9))
            (us_cons (us_setI 6 (ps_asg (ue_op po_or (ue_ixO 6 (ue_ix (ue_var 5) (ue_var 7) (fun _ _ => rfl)) (fun _ _ => rfl)) (ue_op po_shl ue_int (ue_ix (ue_var 5) (ue_var 8) (fun _ _ => rfl)))) (pg_sub (pv 6) (ue_ix (ue_var 5) (ue_var 7) (fun _ _ => rfl)) set_list)))
            (us_one (us_setI 6 (ps_asg (ue_op po_or (ue_ixO 6 (ue_ix (ue_var 5) (ue_var 8) (fun _ _ => rfl)) (fun _ _ => rfl)) (ue_op po_shl ue_int (ue_ix (ue_var 5) (ue_var 7) (fun _ _ => rfl)))) (pg_sub (pv 6) (ue_ix (ue_var 5) (ue_var 8) (fun _ _ => rfl)) set_list)))))
            us_nil))))))))))
      (us_one (us_retO 6)))))))))
def G__law_coloring : FS := (gSeq (gTry ES "GraphError" true (tellF ES 2 [("TooLarge", "TooLarge", "what")])
        (gSeq (gIf (fT (fVar 1))
          (gRet (fTup (fCons (fC (.str "answer")) (fCons (fCallK F_optimal_coloring 1 [0] (aCons (fVar 0) aNil)) fNil))))
          gNx)
        (gRet (fTup (fCons (fC (.str "answer")) (fCons (fCall F_optimal_coloring (aCons (fVar 0) aNil)) fNil))))))
      (gRet (fTup (fCons (fC (.str "another error")) fNil))))
def F__law_coloring : Fn := defF 3 2 G__law_coloring
def L__law_coloring : Nat := (max L_optimal_coloring (max L_optimal_coloring 0)) + 1
theorem okP__law_coloring {f : Addr} {fd : FuncData} (F : Fun K "_law_coloring" "_law_coloring" s__law_coloring f fd) (c_optimal_coloring : CaX P w K mg base L_optimal_coloring "optimal_coloring" (spG K 1 F_optimal_coloring)) (f_isinstance : mg "isinstance" = none) (g_GraphError : mg "GraphError" = some (.ref (He.ga K "GraphError"))) (g_TooLarge : mg "TooLarge" = some (.ref (He.ga K "TooLarge"))) (k_optimal_coloring_0 : CaKP P w K mg base L_optimal_coloring "optimal_coloring" ["graph"] [0] (spG K 1 F_optimal_coloring)) (x_TooLarge : XcP K "TooLarge" ["what"]) (z_GraphError : ErS K ES "GraphError" true) (zk : ErK K ES) : FnOk P w K mg base (L2.CX P w) L__law_coloring f fd ["graph", "named"] (spG K 2 F__law_coloring) :=
  ok_pure Ns__law_coloring ["graph", "named"] 3 2 (max L_optimal_coloring (max L_optimal_coloring 0)) G__law_coloring F scs__law_coloring rfl rfl (fun cdv A outer s H E hr =>
      (us_cons (us_tell (hs := [("TooLarge", "TooLarge", "what")]) (i := 2) z_GraphError zk rfl rfl scs__law_coloring.nd rfl rfl (by rfl) (by decide) g_GraphError (takes_of rfl rfl rfl rfl) (fun W pn xe tk po =>
        (us_cons (us_if (ut_val (ue_var 1))
          (us_one (us_ret (ue_tup (ua_cons ue_str (ua_cons (ue_callK k_optimal_coloring_0 hr (by decide) (by rfl) (fun σ => passAt tk σ) (uk_cons (ue_var 0) uk_nil) (aCons_len (fun _ _ h => aNil_len h))) ua_nil)))))
          us_nil)
        (us_one (us_ret (ue_tup (ua_cons ue_str (ua_cons (ue_call c_optimal_coloring hr (by decide) (by rfl) (fun σ => passAt tk σ) (uas_cons (ue_var 0) uas_nil) (aCons_len (fun _ _ h => aNil_len h))) ua_nil))))))) (fun a oe cls d pn hz hf => by exact (pss_cons (ps_if (pt_val (by exact pe_callB (call_isX hz hf) (by rfl) f_isinstance (by decide +kernel) (pa_cons (pv 2) (pa_cons (pe_glob rfl g_TooLarge rfl) pa_nil)))) (pss_one (ps_ret (pe_tup (pa_cons pe_str (pa_cons (by exact pe_xf x_TooLarge.xf (x_TooLarge.no _ (by decide)) hz hf (pv 2)) pa_nil))))) pss_nil) pss_nil)))
      (us_one (us_ret (ue_tup (ua_cons ue_str ua_nil))))))
def G__law_fewest : FS := (gSeq (gAsg (.nm 2) (fB bLen (fCons (fVar 0) fNil)))
      (gSeq (gOwn 3 (fBin pMulL (fLst (fCons (fC (.int 0)) fNil)) (fBin pShl (fC (.int 1)) (fVar 2))))
      (gSeq (gFor (fRng2 (fC (.int 1)) (fBin pShl (fC (.int 1)) (fVar 2))) (.nm 4)
        (gSeq (gAsg (.nm 5) (fBin pAndB (fVar 4) (fBin pSub (fVar 4) (fC (.int 1)))))
        (gSeq (gAsg (.nm 6) (fBin pSub (fUn pBits (fBin pAndB (fVar 4) (fUn pNeg (fVar 4)))) (fC (.int 1))))
        (gSeq (gAsg (.nm 7) (fBin pAndB (fVar 5) (fUn pInvI (fBin pIdx (fVar 0) (fVar 6)))))
        (gSeq (gAsg (.nm 8) (fBin pAdd (fC (.int 1)) (fIxO' 3 (fVar 5))))
        (gSeq (gAsg (.nm 9) (fVar 7))
        (gSeq (gFor (fRng1 (fBin pShl (fC (.int 1)) (fVar 2))) (.nm 10)
          (gSeq (gIf (fT (fBin pEq (fVar 9) (fC (.int 0))))
            gBk
            gNx)
          (gSeq (gIf (tAndF (fT (fBin pIdx (fVar 1) (fVar 9))) (fT (fBin pLt (fBin pAdd (fC (.int 1)) (fIxO' 3 (fBin pXorB (fVar 5) (fVar 9)))) (fVar 8))))
            (gAsg (.nm 8) (fBin pAdd (fC (.int 1)) (fIxO' 3 (fBin pXorB (fVar 5) (fVar 9)))))
            gNx)
          (gAsg (.nm 9) (fBin pAndB (fBin pSub (fVar 9) (fC (.int 1))) (fVar 7))))))
        (gSetI 3 (fVar 4) (fVar 8)))))))))
      (gRetO 3))))
def F__law_fewest : Fn := defF 11 2 G__law_fewest
def L__law_fewest : Nat := 0 + 1
theorem okP__law_fewest {f : Addr} {fd : FuncData} (F : Fun K "_law_fewest" "_law_fewest" s__law_fewest f fd) (f_len : mg "len" = none) (f_range : mg "range" = none) : FnOk P w K mg base (L2.CX P w) L__law_fewest f fd ["near", "free"] (spG K 2 F__law_fewest) :=
  ok_pure Ns__law_fewest ["near", "free"] 11 2 0 G__law_fewest F scs__law_fewest rfl rfl (fun cdv A outer s H E hr =>
      (us_cons (us_set (i := 2) scs__law_fewest.nd rfl (Or.inl rfl) (ue_callB pc_len (by rfl) f_len (by decide +kernel) (ua_cons (ue_var 0) ua_nil)))
      (us_cons (us_ownOp (i := 3) scs__law_fewest.nd rfl (Or.inl rfl) pon_mul (ue_lst (ua_cons ue_int ua_nil)) (ue_op po_shl ue_int (ue_var 2)))
      (us_cons (us_for (passes_of rfl) rfl (ui_rng2 (by rfl) f_range ue_int (ue_op po_shl ue_int (ue_var 2))) (ug_nm (i := 4) scs__law_fewest.nd rfl (Or.inl rfl))
        (us_cons (us_set (i := 5) scs__law_fewest.nd rfl (Or.inl rfl) (ue_op po_and (ue_var 4) (ue_op po_sub (ue_var 4) ue_int)))
        (us_cons (us_set (i := 6) scs__law_fewest.nd rfl (Or.inl rfl) (ue_op po_sub (ue_bits (ue_op po_and (ue_var 4) (ue_un pu_neg (ue_var 4)))) ue_int))
        (us_cons (us_set (i := 7) scs__law_fewest.nd rfl (Or.inl rfl) (ue_op po_and (ue_var 5) (ue_un pu_inv (ue_ix (ue_var 0) (ue_var 6) (fun _ _ => rfl)))))
        (us_cons (us_set (i := 8) scs__law_fewest.nd rfl (Or.inl rfl) (ue_op po_add ue_int (ue_ixO 3 (ue_var 5) (fun _ _ => rfl))))
        (us_cons (us_set (i := 9) scs__law_fewest.nd rfl (Or.inl rfl) (ue_var 7))
        (us_cons (us_for (passes_of rfl) rfl (ui_rng1 (by rfl) f_range (ue_op po_shl ue_int (ue_var 2))) (ug_nm (i := 10) scs__law_fewest.nd rfl (Or.inl rfl))
          (us_cons (us_if (ut_cmp (po_eq hr.units) (ue_var 9) ue_int (nomark _))
            (us_one us_break)
            us_nil)
          (us_cons (us_if (PW.pt (uw_and (ut_val (ue_ix (ue_var 1) (ue_var 9) (fun _ _ => rfl))) (uw_and1 (ut_cmp (po_lt (Nat.lt_of_le_of_lt (Nat.le_add_right _ 64) hr.units)) (ue_op po_add ue_int (ue_ixO 3 (ue_op po_xor (ue_var 5) (ue_var 9)) (fun _ _ => rfl))) (ue_var 8) (nomark _)))))
            (us_one (us_set (i := 8) scs__law_fewest.nd rfl (Or.inl rfl) (ue_op po_add ue_int (ue_ixO 3 (ue_op po_xor (ue_var 5) (ue_var 9)) (fun _ _ => rfl)))))
            us_nil)
          (us_one (us_set (i := 9) scs__law_fewest.nd rfl (Or.inl rfl) (ue_op po_and (ue_op po_sub (ue_var 9) ue_int) (ue_var 7)))))))
        (us_one (us_setI 3 (ps_asg (ue_var 8) (pg_sub (pv 3) (ue_var 4) set_list)))))))))))
      (us_one (us_retO 3))))))
def G__law_fits : FS := (gSeq (gIf (tOrF (tNotF (fT (fUn (pIsi CS (.t .tup)) (fVar 1)))) (fT (fBin pNe (fB bLen (fCons (fVar 1) fNil)) (fB bLen (fCons (fVar 0) fNil)))))
        (gRet (fC (.bl false)))
        gNx)
      (gSeq (gAsg (.nm 3) (fC (.int 0)))
      (gSeq (gFor (fRng1 (fB bLen (fCons (fVar 1) fNil))) (.nm 4)
        (gSeq (gAsg (.nm 5) (fBin pIdx (fVar 1) (fVar 4)))
        (gSeq (gIf (tOrF (tNotF (fT (fUn (pIsi CS (.t .int)) (fVar 5)))) (tOrF (fT (fUn (pIsi CS (.t .bl)) (fVar 5))) (tOrF (fT (fBin pLt (fVar 5) (fC (.int 0)))) (fT (fBin pGt (fVar 5) (fVar 3))))))
          (gRet (fC (.bl false)))
          gNx)
        (gSeq (gIf (fT (fBin pEq (fVar 5) (fVar 3)))
          (gAsg (.nm 3) (fBin pAdd (fVar 3) (fC (.int 1))))
          gNx)
        (gFor (fRng1 (fVar 4)) (.nm 6)
          (gIf (tAndF (fT (fBin pEq (fBin pAndB (fBin pShr (fBin pIdx (fVar 0) (fVar 4)) (fVar 6)) (fC (.int 1))) (fC (.int 1)))) (fT (fBin pEq (fBin pIdx (fVar 1) (fVar 6)) (fVar 5))))
            (gRet (fC (.bl false)))
            gNx))))))
      (gRet (fBin pEq (fVar 3) (fVar 2))))))
def F__law_fits : Fn := defF 7 3 G__law_fits
def L__law_fits : Nat := 0 + 1
theorem okP__law_fits {f : Addr} {fd : FuncData} (F : Fun K "_law_fits" "_law_fits" s__law_fits f fd) (CC : Clss K CS) (f_bool : mg "bool" = none) (f_int : mg "int" = none) (f_isinstance : mg "isinstance" = none) (f_len : mg "len" = none) (f_range : mg "range" = none) (f_tuple : mg "tuple" = none) : FnOk P w K mg base (L2.CX P w) L__law_fits f fd ["near", "value", "fewest"] (spG K 3 F__law_fits) :=
  ok_pure Ns__law_fits ["near", "value", "fewest"] 7 3 0 G__law_fits F scs__law_fits rfl rfl (fun cdv A outer s H E hr =>
      (us_cons (us_if (PW.pt (uw_or (ut_not (ut_val (ue_isi (.t .tup) CC (by decide) (by rfl) f_isinstance (by decide +kernel) (ue_var 1) (pe_bltn (v := .ty "tuple") (by rfl) f_tuple (by decide +kernel) rfl)))) (uw_or1 (ut_cmp (po_ne hr.units) (ue_callB pc_len (by rfl) f_len (by decide +kernel) (ua_cons (ue_var 1) ua_nil)) (ue_callB pc_len (by rfl) f_len (by decide +kernel) (ua_cons (ue_var 0) ua_nil)) (nomark _)))))
        (us_one (us_ret ue_bl))
        us_nil)
      (us_cons (us_set (i := 3) scs__law_fits.nd rfl (Or.inl rfl) ue_int)
      (us_cons (us_for (passes_of rfl) rfl (ui_rng1 (by rfl) f_range (ue_callB pc_len (by rfl) f_len (by decide +kernel) (ua_cons (ue_var 1) ua_nil))) (ug_nm (i := 4) scs__law_fits.nd rfl (Or.inl rfl))
        (us_cons (us_set (i := 5) scs__law_fits.nd rfl (Or.inl rfl) (ue_ix (ue_var 1) (ue_var 4) (fun _ _ => rfl)))
        (us_cons (us_if (PW.pt (uw_or (ut_not (ut_val (ue_isi (.t .int) CC (by decide) (by rfl) f_isinstance (by decide +kernel) (ue_var 5) (pe_bltn (v := .ty "int") (by rfl) f_int (by decide +kernel) rfl)))) (uw_or (ut_val (ue_isi (.t .bl) CC (by decide) (by rfl) f_isinstance (by decide +kernel) (ue_var 5) (pe_bltn (v := .ty "bool") (by rfl) f_bool (by decide +kernel) rfl))) (uw_or (ut_cmp (po_lt (Nat.lt_of_le_of_lt (Nat.le_add_right _ 64) hr.units)) (ue_var 5) ue_int (nomark _)) (uw_or1 (ut_cmp po_gt (ue_var 5) (ue_var 3) (nomark _)))))))
          (us_one (us_ret ue_bl))
          us_nil)
        (us_cons (us_if (ut_cmp (po_eq hr.units) (ue_var 5) (ue_var 3) (nomark _))
          (us_one (us_set (i := 3) scs__law_fits.nd rfl (Or.inl rfl) (ue_op po_add (ue_var 3) ue_int)))
          us_nil)
        (us_one (us_for (passes_of rfl) rfl (ui_rng1 (by rfl) f_range (ue_var 4)) (ug_nm (i := 6) scs__law_fits.nd rfl (Or.inl rfl))
          (us_one (us_if (PW.pt (uw_and (ut_cmp (po_eq hr.units) (ue_op po_and (ue_op po_shr (ue_ix (ue_var 0) (ue_var 4) (fun _ _ => rfl)) (ue_var 6)) ue_int) ue_int (nomark _)) (uw_and1 (ut_cmp (po_eq hr.units) (ue_ix (ue_var 1) (ue_var 6) (fun _ _ => rfl)) (ue_var 5) (nomark _)))))
            (us_one (us_ret ue_bl))
            us_nil))))))))
      (us_one (us_ret (ue_cmp (po_eq hr.units) (ue_var 3) (ue_var 2) (nomark _))))))))
def G__law_free : FS := (gSeq (gAsg (.nm 2) (fB bLen (fCons (fVar 0) fNil)))
      (gSeq (gAsg (.nm 3) (fBin pSub (fBin pShl (fC (.int 1)) (fVar 2)) (fC (.int 1))))
      (gSeq (gOwn 4 (fBin pMulL (fLst (fCons (fC (.bl true)) fNil)) (fBin pShl (fC (.int 1)) (fVar 2))))
      (gSeq (gFor (fRng2 (fC (.int 1)) (fBin pShl (fC (.int 1)) (fVar 2))) (.nm 5)
        (gSeq (gAsg (.nm 6) (fBin pAndB (fVar 5) (fBin pSub (fVar 5) (fC (.int 1)))))
        (gSeq (gAsg (.nm 7) (fBin pSub (fUn pBits (fBin pAndB (fVar 5) (fUn pNeg (fVar 5)))) (fC (.int 1))))
        (gSeq (gAsg (.nm 8) (fBin pIdx (fVar 0) (fVar 7)))
        (gSeq (gIf (tNotF (fT (fVar 1)))
          (gAsg (.nm 8) (fBin pAndB (fVar 3) (fUn pInvI (fBin pIdx (fVar 0) (fVar 7)))))
          gNx)
        (gSetI 4 (fVar 5) (fAnd (fIxO' 4 (fVar 6)) (fBin pEq (fBin pAndB (fVar 8) (fVar 6)) (fVar 6)))))))))
      (gRetO 4)))))
def F__law_free : Fn := defF 9 2 G__law_free
def L__law_free : Nat := 0 + 1
theorem okP__law_free {f : Addr} {fd : FuncData} (F : Fun K "_law_free" "_law_free" s__law_free f fd) (f_len : mg "len" = none) (f_range : mg "range" = none) : FnOk P w K mg base (L2.CX P w) L__law_free f fd ["near", "joined"] (spG K 2 F__law_free) :=
  ok_pure Ns__law_free ["near", "joined"] 9 2 0 G__law_free F scs__law_free rfl rfl (fun cdv A outer s H E hr =>
      (us_cons (us_set (i := 2) scs__law_free.nd rfl (Or.inl rfl) (ue_callB pc_len (by rfl) f_len (by decide +kernel) (ua_cons (ue_var 0) ua_nil)))
      (us_cons (us_set (i := 3) scs__law_free.nd rfl (Or.inl rfl) (ue_op po_sub (ue_op po_shl ue_int (ue_var 2)) ue_int))
      (us_cons (us_ownOp (i := 4) scs__law_free.nd rfl (Or.inl rfl) pon_mul (ue_lst (ua_cons ue_bl ua_nil)) (ue_op po_shl ue_int (ue_var 2)))
      (us_cons (us_for (passes_of rfl) rfl (ui_rng2 (by rfl) f_range ue_int (ue_op po_shl ue_int (ue_var 2))) (ug_nm (i := 5) scs__law_free.nd rfl (Or.inl rfl))
        (us_cons (us_set (i := 6) scs__law_free.nd rfl (Or.inl rfl) (ue_op po_and (ue_var 5) (ue_op po_sub (ue_var 5) ue_int)))
        (us_cons (us_set (i := 7) scs__law_free.nd rfl (Or.inl rfl) (ue_op po_sub (ue_bits (ue_op po_and (ue_var 5) (ue_un pu_neg (ue_var 5)))) ue_int))
        (us_cons (us_set (i := 8) scs__law_free.nd rfl (Or.inl rfl) (ue_ix (ue_var 0) (ue_var 7) (fun _ _ => rfl)))
        (us_cons (us_if (ut_not (ut_val (ue_var 1)))
          (us_one (us_set (i := 8) scs__law_free.nd rfl (Or.inl rfl) (ue_op po_and (ue_var 3) (ue_un pu_inv (ue_ix (ue_var 0) (ue_var 7) (fun _ _ => rfl))))))
          us_nil)
        (us_one (us_setI 4 (ps_asg (ue_and (ue_ixO 4 (ue_var 6) (fun _ _ => rfl)) (pe_one (ue_cmp (po_eq hr.units) (ue_op po_and (ue_var 8) (ue_var 6)) (ue_var 6) (nomark _)))) (pg_sub (pv 4) (ue_var 5) set_list)))))))))
      (us_one (us_retO 4)))))))
def G__law_number : FS := (gSeq (gTry ES "GraphError" true (tellF ES 2 [("TooLarge", "TooLarge", "what")])
        (gSeq (gIf (fT (fVar 1))
          (gRet (fTup (fCons (fC (.str "answer")) (fCons (fCallK F_chromatic_number 1 [0] (aCons (fVar 0) aNil)) fNil))))
          gNx)
        (gRet (fTup (fCons (fC (.str "answer")) (fCons (fCall F_chromatic_number (aCons (fVar 0) aNil)) fNil))))))
      (gRet (fTup (fCons (fC (.str "another error")) fNil))))
def F__law_number : Fn := defF 3 2 G__law_number
def L__law_number : Nat := (max L_chromatic_number (max L_chromatic_number 0)) + 1
theorem okP__law_number {f : Addr} {fd : FuncData} (F : Fun K "_law_number" "_law_number" s__law_number f fd) (c_chromatic_number : CaX P w K mg base L_chromatic_number "chromatic_number" (spG K 1 F_chromatic_number)) (f_isinstance : mg "isinstance" = none) (g_GraphError : mg "GraphError" = some (.ref (He.ga K "GraphError"))) (g_TooLarge : mg "TooLarge" = some (.ref (He.ga K "TooLarge"))) (k_chromatic_number_0 : CaKP P w K mg base L_chromatic_number "chromatic_number" ["graph"] [0] (spG K 1 F_chromatic_number)) (x_TooLarge : XcP K "TooLarge" ["what"]) (z_GraphError : ErS K ES "GraphError" true) (zk : ErK K ES) : FnOk P w K mg base (L2.CX P w) L__law_number f fd ["graph", "named"] (spG K 2 F__law_number) :=
  ok_pure Ns__law_number ["graph", "named"] 3 2 (max L_chromatic_number (max L_chromatic_number 0)) G__law_number F scs__law_number rfl rfl (fun cdv A outer s H E hr =>
      (us_cons (us_tell (hs := [("TooLarge", "TooLarge", "what")]) (i := 2) z_GraphError zk rfl rfl scs__law_number.nd rfl rfl (by rfl) (by decide) g_GraphError (takes_of rfl rfl rfl rfl) (fun W pn xe tk po =>
        (us_cons (us_if (ut_val (ue_var 1))
          (us_one (us_ret (ue_tup (ua_cons ue_str (ua_cons (ue_callK k_chromatic_number_0 hr (by decide) (by rfl) (fun σ => passAt tk σ) (uk_cons (ue_var 0) uk_nil) (aCons_len (fun _ _ h => aNil_len h))) ua_nil)))))
          us_nil)
        (us_one (us_ret (ue_tup (ua_cons ue_str (ua_cons (ue_call c_chromatic_number hr (by decide) (by rfl) (fun σ => passAt tk σ) (uas_cons (ue_var 0) uas_nil) (aCons_len (fun _ _ h => aNil_len h))) ua_nil))))))) (fun a oe cls d pn hz hf => by exact (pss_cons (ps_if (pt_val (by exact pe_callB (call_isX hz hf) (by rfl) f_isinstance (by decide +kernel) (pa_cons (pv 2) (pa_cons (pe_glob rfl g_TooLarge rfl) pa_nil)))) (pss_one (ps_ret (pe_tup (pa_cons pe_str (pa_cons (by exact pe_xf x_TooLarge.xf (x_TooLarge.no _ (by decide)) hz hf (pv 2)) pa_nil))))) pss_nil) pss_nil)))
      (us_one (us_ret (ue_tup (ua_cons ue_str ua_nil))))))
def G__law_right : FS := (gSeq (gAsg (.nm 3) (fCall F__law_number (aCons (fVar 1) (aCons (fVar 2) aNil))))
      (gSeq (gAsg (.nm 4) (fCall F__law_coloring (aCons (fVar 1) (aCons (fNot (fVar 2)) aNil))))
      (gSeq (gIf (fT (fBin pGt (fB bLen (fCons (fVar 0) fNil)) (fC (.int 8))))
        (gSeq (gAsg (.nm 5) (fTup (fCons (fC (.str "TooLarge")) (fCons (fC (.str "vertices")) fNil))))
        (gRet (fAnd (fCall (F__law_alike 12) (aCons (fVar 3) (aCons (fVar 5) aNil))) (fCall (F__law_alike 12) (aCons (fVar 4) (aCons (fVar 5) aNil))))))
        gNx)
      (gSeq (gAsg (.nm 6) (fBin pIdx (fCall F__law_fewest (aCons (fVar 0) (aCons (fCall F__law_free (aCons (fVar 0) (aCons (fC (.bl false)) aNil))) aNil))) (fUn pNeg (fC (.int 1)))))
      (gSeq (gIf (tOrF (tNotF (fT (fCall (F__law_alike 12) (aCons (fVar 3) (aCons (fTup (fCons (fC (.str "answer")) (fCons (fVar 6) fNil))) aNil))))) (fT (fBin pNe (fBin pIdx (fVar 4) (fC (.int 0))) (fC (.str "answer")))))
        (gRet (fC (.bl false)))
        gNx)
      (gSeq (gIf (tNotF (fT (fCall F__law_fits (aCons (fVar 0) (aCons (fBin pIdx (fVar 4) (fC (.int 1))) (aCons (fVar 6) aNil))))))
        (gRet (fC (.bl false)))
        gNx)
      (gRet (fAnd (fCall (F__law_alike 12) (aCons (fCall F__law_coloring (aCons (fVar 1) (aCons (fVar 2) aNil))) (aCons (fVar 4) aNil))) (fCall (F__law_alike 12) (aCons (fCall F__law_number (aCons (fVar 1) (aCons (fNot (fVar 2)) aNil))) (aCons (fVar 3) aNil)))))))))))
def F__law_right : Fn := defF 7 3 G__law_right
def L__law_right : Nat := (max L__law_number (max L__law_free (max L__law_fits (max L__law_fewest (max L__law_coloring (max (L__law_alike 12) 0)))))) + 1
theorem okP__law_right {f : Addr} {fd : FuncData} (F : Fun K "_law_right" "_law_right" s__law_right f fd) (c__law_alike : CaX P w K mg base (L__law_alike 12) "_law_alike" (spG K 2 (F__law_alike 12))) (c__law_coloring : CaX P w K mg base L__law_coloring "_law_coloring" (spG K 2 F__law_coloring)) (c__law_fewest : CaX P w K mg base L__law_fewest "_law_fewest" (spG K 2 F__law_fewest)) (c__law_fits : CaX P w K mg base L__law_fits "_law_fits" (spG K 3 F__law_fits)) (c__law_free : CaX P w K mg base L__law_free "_law_free" (spG K 2 F__law_free)) (c__law_number : CaX P w K mg base L__law_number "_law_number" (spG K 2 F__law_number)) (f_len : mg "len" = none) : FnOk P w K mg base (L2.CX P w) L__law_right f fd ["near", "graph", "named"] (spG K 3 F__law_right) :=
  ok_pure Ns__law_right ["near", "graph", "named"] 7 3 (max L__law_number (max L__law_free (max L__law_fits (max L__law_fewest (max L__law_coloring (max (L__law_alike 12) 0)))))) G__law_right F scs__law_right rfl rfl (fun cdv A outer s H E hr =>
      (us_cons (us_set (i := 3) scs__law_right.nd rfl (Or.inl rfl) (ue_call c__law_number hr (by decide) (by rfl) (fun σ => passAt (W := fun cls d _ H => E cls d H) (takes_of rfl rfl rfl rfl) σ) (uas_cons (ue_var 1) (uas_cons (ue_var 2) uas_nil)) (aCons_len (aCons_len (fun _ _ h => aNil_len h)))))
      (us_cons (us_set (i := 4) scs__law_right.nd rfl (Or.inl rfl) (ue_call c__law_coloring hr (by decide) (by rfl) (fun σ => passAt (W := fun cls d _ H => E cls d H) (takes_of rfl rfl rfl rfl) σ) (uas_cons (ue_var 1) (uas_cons (ue_not (ue_var 2)) uas_nil)) (aCons_len (aCons_len (fun _ _ h => aNil_len h)))))
      (us_cons (us_if (ut_cmp po_gt (ue_callB pc_len (by rfl) f_len (by decide +kernel) (ua_cons (ue_var 0) ua_nil)) ue_int (nomark _))
        (us_cons (us_set (i := 5) scs__law_right.nd rfl (Or.inl rfl) (ue_tup (ua_cons ue_str (ua_cons ue_str ua_nil))))
        (us_one (us_ret (ue_and (ue_call c__law_alike hr (by decide) (by rfl) (fun σ => passAt (W := fun cls d _ H => E cls d H) (takes_of rfl rfl rfl rfl) σ) (uas_cons (ue_var 3) (uas_cons (ue_var 5) uas_nil)) (aCons_len (aCons_len (fun _ _ h => aNil_len h)))) (pe_one (ue_call c__law_alike hr (by decide) (by rfl) (fun σ => passAt (W := fun cls d _ H => E cls d H) (takes_of rfl rfl rfl rfl) σ) (uas_cons (ue_var 4) (uas_cons (ue_var 5) uas_nil)) (aCons_len (aCons_len (fun _ _ h => aNil_len h)))))))))
        us_nil)
      (us_cons (us_set (i := 6) scs__law_right.nd rfl (Or.inl rfl) (ue_ix (ue_call c__law_fewest hr (by decide) (by rfl) (fun σ => passAt (W := fun cls d _ H => E cls d H) (takes_of rfl rfl rfl rfl) σ) (uas_cons (ue_var 0) (uas_cons (ue_call c__law_free hr (by decide) (by rfl) (fun σ => passAt (W := fun cls d _ H => E cls d H) (takes_of rfl rfl rfl rfl) σ) (uas_cons (ue_var 0) (uas_cons ue_bl uas_nil)) (aCons_len (aCons_len (fun _ _ h => aNil_len h)))) uas_nil)) (aCons_len (aCons_len (fun _ _ h => aNil_len h)))) (ue_un pu_neg ue_int) (fun _ _ => rfl)))
      (us_cons (us_if (PW.pt (uw_or (ut_not (ut_val (ue_call c__law_alike hr (by decide) (by rfl) (fun σ => passAt (W := fun cls d _ H => E cls d H) (takes_of rfl rfl rfl rfl) σ) (uas_cons (ue_var 3) (uas_cons (ue_tup (ua_cons ue_str (ua_cons (ue_var 6) ua_nil))) uas_nil)) (aCons_len (aCons_len (fun _ _ h => aNil_len h)))))) (uw_or1 (ut_cmp (po_ne hr.units) (ue_ix (ue_var 4) ue_int (fun _ _ => rfl)) ue_str (nomark _)))))
        (us_one (us_ret ue_bl))
        us_nil)
      (us_cons (us_if (ut_not (ut_val (ue_call c__law_fits hr (by decide) (by rfl) (fun σ => passAt (W := fun cls d _ H => E cls d H) (takes_of rfl rfl rfl rfl) σ) (uas_cons (ue_var 0) (uas_cons (ue_ix (ue_var 4) ue_int (fun _ _ => rfl)) (uas_cons (ue_var 6) uas_nil))) (aCons_len (aCons_len (aCons_len (fun _ _ h => aNil_len h)))))))
        (us_one (us_ret ue_bl))
        us_nil)
      (us_one (us_ret (ue_and (ue_call c__law_alike hr (by decide) (by rfl) (fun σ => passAt (W := fun cls d _ H => E cls d H) (takes_of rfl rfl rfl rfl) σ) (uas_cons (ue_call c__law_coloring hr (by decide) (by rfl) (fun σ => passAt (W := fun cls d _ H => E cls d H) (takes_of rfl rfl rfl rfl) σ) (uas_cons (ue_var 1) (uas_cons (ue_var 2) uas_nil)) (aCons_len (aCons_len (fun _ _ h => aNil_len h)))) (uas_cons (ue_var 4) uas_nil)) (aCons_len (aCons_len (fun _ _ h => aNil_len h)))) (pe_one (ue_call c__law_alike hr (by decide) (by rfl) (fun σ => passAt (W := fun cls d _ H => E cls d H) (takes_of rfl rfl rfl rfl) σ) (uas_cons (ue_call c__law_number hr (by decide) (by rfl) (fun σ => passAt (W := fun cls d _ H => E cls d H) (takes_of rfl rfl rfl rfl) σ) (uas_cons (ue_var 1) (uas_cons (ue_not (ue_var 2)) uas_nil)) (aCons_len (aCons_len (fun _ _ h => aNil_len h)))) (uas_cons (ue_var 3) uas_nil)) (aCons_len (aCons_len (fun _ _ h => aNil_len h)))))))))))))))
def G__law_size : FS := (gSeq (gAsg (.nm 1) (fCall F__law_draw (aRef 0 (aCons (fC (.int 12)) aNil))))
      (gSeq (gIf (fT (fBin pEq (fVar 1) (fC (.int 0))))
        (gRet (fBin pAdd (fC (.int 9)) (fCall F__law_draw (aRef 0 (aCons (fC (.int 16)) aNil)))))
        gNx)
      (gSeq (gIf (fT (fBin pEq (fVar 1) (fC (.int 1))))
        (gRet (fBin pAdd (fC (.int 7)) (fCall F__law_draw (aRef 0 (aCons (fC (.int 2)) aNil)))))
        gNx)
      (gSeq (gIf (fT (fBin pLt (fVar 1) (fC (.int 5))))
        (gRet (fBin pAdd (fC (.int 1)) (fCall F__law_draw (aRef 0 (aCons (fC (.int 4)) aNil)))))
        gNx)
      (gRet (fBin pAdd (fC (.int 5)) (fCall F__law_draw (aRef 0 (aCons (fC (.int 2)) aNil)))))))))
def F__law_size : Fn := defF 2 1 G__law_size
def L__law_size : Nat := (max L__law_draw 0) + 1
theorem okP__law_size {f : Addr} {fd : FuncData} (F : Fun K "_law_size" "_law_size" s__law_size f fd) (c__law_draw : CaX P w K mg base L__law_draw "_law_draw" (spG K 2 F__law_draw)) : FnOk P w K mg base (L2.CX P w) L__law_size f fd ["pool"] (spG K 1 F__law_size) :=
  ok_pure Ns__law_size ["pool"] 2 1 (max L__law_draw 0) G__law_size F scs__law_size rfl rfl (fun cdv A outer s H E hr =>
      (us_cons (us_set (i := 1) scs__law_size.nd rfl (Or.inl rfl) (ue_call c__law_draw hr (by decide) (by rfl) (fun σ => passAt (W := fun cls d _ H => E cls d H) (takes_of rfl rfl rfl rfl) σ) (uas_ref 0 (uas_cons ue_int uas_nil)) (aRef_len (aCons_len (fun _ _ h => aNil_len h)))))
      (us_cons (us_if (ut_cmp (po_eq hr.units) (ue_var 1) ue_int (nomark _))
        (us_one (us_ret (ue_op po_add ue_int (ue_call c__law_draw hr (by decide) (by rfl) (fun σ => passAt (W := fun cls d _ H => E cls d H) (takes_of rfl rfl rfl rfl) σ) (uas_ref 0 (uas_cons ue_int uas_nil)) (aRef_len (aCons_len (fun _ _ h => aNil_len h)))))))
        us_nil)
      (us_cons (us_if (ut_cmp (po_eq hr.units) (ue_var 1) ue_int (nomark _))
        (us_one (us_ret (ue_op po_add ue_int (ue_call c__law_draw hr (by decide) (by rfl) (fun σ => passAt (W := fun cls d _ H => E cls d H) (takes_of rfl rfl rfl rfl) σ) (uas_ref 0 (uas_cons ue_int uas_nil)) (aRef_len (aCons_len (fun _ _ h => aNil_len h)))))))
        us_nil)
      (us_cons (us_if (ut_cmp (po_lt (Nat.lt_of_le_of_lt (Nat.le_add_right _ 64) hr.units)) (ue_var 1) ue_int (nomark _))
        (us_one (us_ret (ue_op po_add ue_int (ue_call c__law_draw hr (by decide) (by rfl) (fun σ => passAt (W := fun cls d _ H => E cls d H) (takes_of rfl rfl rfl rfl) σ) (uas_ref 0 (uas_cons ue_int uas_nil)) (aRef_len (aCons_len (fun _ _ h => aNil_len h)))))))
        us_nil)
      (us_one (us_ret (ue_op po_add ue_int (ue_call c__law_draw hr (by decide) (by rfl) (fun σ => passAt (W := fun cls d _ H => E cls d H) (takes_of rfl rfl rfl rfl) σ) (uas_ref 0 (uas_cons ue_int uas_nil)) (aRef_len (aCons_len (fun _ _ h => aNil_len h))))))))))))
def G__law_asked : FS := (gSeq (gOwn 1 (fLst (fCons (fB bList (fCons (fVar 0) fNil)) (fCons (fC (.int 0)) (fCons (fC (.int 0)) (fCons (fC (.int 0)) fNil))))))
      (gSeq (gAsg (.nm 2) (fCall F__law_near (aRef 1 (aCons (fCall F__law_size (aRef 1 aNil)) aNil))))
      (gSeq (gAsg (.nm 3) (fCall F__law_near (aRef 1 (aCons (fBin pAdd (fC (.int 1)) (fCall F__law_draw (aRef 1 (aCons (fC (.int 5)) aNil)))) aNil))))
      (gSeq (gAsg (.nm 4) (fMake "Graph" F_Graph___init__ (fCons (fB bLen (fCons (fVar 2) fNil)) (fCons (fCall F__law_edges (aCons (fVar 2) aNil)) fNil))))
      (gSeq (gAsg (.nm 5) (fMake "Graph" F_Graph___init__ (fCons (fB bLen (fCons (fVar 3) fNil)) (fCons (fB bList (fCons (fCall F__law_edges (aCons (fVar 3) aNil)) fNil)) fNil))))
      (gSeq (gAsg (.nm 6) (fBin pEq (fCall F__law_draw (aRef 1 (aCons (fC (.int 2)) aNil))) (fC (.int 1))))
      (gSeq (gIf (tOrF (tNotF (fT (fCall F__law_right (aCons (fVar 2) (aCons (fVar 4) (aCons (fVar 6) aNil)))))) (tNotF (fT (fCall F__law_right (aCons (fVar 3) (aCons (fVar 5) (aCons (fVar 6) aNil)))))))
        (gRet (fC (.bl false)))
        gNx)
      (gSeq (gIf (tNotF (fT (fCall F__law_right (aCons (fVar 2) (aCons (fVar 4) (aCons (fNot (fVar 6)) aNil))))))
        (gRet (fC (.bl false)))
        gNx)
      (gRet (fCall (F__law_alike 12) (aCons (fTup (fCons (fUn (pFld "Graph" "size") (fVar 4)) (fCons (fUn (pFld "Graph" "edges") (fVar 4)) fNil))) (aCons (fTup (fCons (fB bLen (fCons (fVar 2) fNil)) (fCons (fCall F__law_edges (aCons (fVar 2) aNil)) fNil))) aNil))))))))))))
def F__law_asked : Fn := defF 7 1 G__law_asked
def L__law_asked : Nat := (max (L_Graph___init__ + 1) (max L__law_size (max L__law_right (max L__law_near (max L__law_edges (max L__law_draw (max (L__law_alike 12) 0))))))) + 1
theorem okP__law_asked {f : Addr} {fd : FuncData} (F : Fun K "_law_asked" "_law_asked" s__law_asked f fd) (K_Graph : ClsP K "Graph" ["size", "edges", "_vertices", "_rows"]) (c__law_alike : CaX P w K mg base (L__law_alike 12) "_law_alike" (spG K 2 (F__law_alike 12))) (c__law_draw : CaX P w K mg base L__law_draw "_law_draw" (spG K 2 F__law_draw)) (c__law_edges : CaX P w K mg base L__law_edges "_law_edges" (spG K 1 F__law_edges)) (c__law_near : CaX P w K mg base L__law_near "_law_near" (spG K 2 F__law_near)) (c__law_right : CaX P w K mg base L__law_right "_law_right" (spG K 3 F__law_right)) (c__law_size : CaX P w K mg base L__law_size "_law_size" (spG K 1 F__law_size)) (f_len : mg "len" = none) (f_list : mg "list" = none) (m_Graph : MakP P w K mg base L_Graph___init__ "Graph" (spG K 3 F_Graph___init__)) : FnOk P w K mg base (L2.CX P w) L__law_asked f fd ["script"] (spG K 1 F__law_asked) :=
  ok_pure Ns__law_asked ["script"] 7 1 (max (L_Graph___init__ + 1) (max L__law_size (max L__law_right (max L__law_near (max L__law_edges (max L__law_draw (max (L__law_alike 12) 0))))))) G__law_asked F scs__law_asked rfl rfl (fun cdv A outer s H E hr =>
      (us_cons (us_ownLst (i := 1) scs__law_asked.nd rfl (Or.inl rfl) (ua_cons (ue_callTy pc_list (by rfl) f_list (by decide +kernel) (ua_cons (ue_var 0) ua_nil)) (ua_cons ue_int (ua_cons ue_int (ua_cons ue_int ua_nil)))))
      (us_cons (us_set (i := 2) scs__law_asked.nd rfl (Or.inl rfl) (ue_call c__law_near hr (by decide) (by rfl) (fun σ => passAt (W := fun cls d _ H => E cls d H) (takes_of rfl rfl rfl rfl) σ) (uas_ref 1 (uas_cons (ue_call c__law_size hr (by decide) (by rfl) (fun σ => passAt (W := fun cls d _ H => E cls d H) (takes_of rfl rfl rfl rfl) σ) (uas_ref 1 uas_nil) (aRef_len (fun _ _ h => aNil_len h))) uas_nil)) (aRef_len (aCons_len (fun _ _ h => aNil_len h)))))
      (us_cons (us_set (i := 3) scs__law_asked.nd rfl (Or.inl rfl) (ue_call c__law_near hr (by decide) (by rfl) (fun σ => passAt (W := fun cls d _ H => E cls d H) (takes_of rfl rfl rfl rfl) σ) (uas_ref 1 (uas_cons (ue_op po_add ue_int (ue_call c__law_draw hr (by decide) (by rfl) (fun σ => passAt (W := fun cls d _ H => E cls d H) (takes_of rfl rfl rfl rfl) σ) (uas_ref 1 (uas_cons ue_int uas_nil)) (aRef_len (aCons_len (fun _ _ h => aNil_len h))))) uas_nil)) (aRef_len (aCons_len (fun _ _ h => aNil_len h)))))
      (us_cons (us_set (i := 4) scs__law_asked.nd rfl (Or.inl rfl) (ue_make m_Graph hr (by decide) (by rfl) (fun σ => passAt (W := fun cls d _ H => E cls d H) (takes_of rfl rfl rfl rfl) σ) (ua_cons (ue_callB pc_len (by rfl) f_len (by decide +kernel) (ua_cons (ue_var 2) ua_nil)) (ua_cons (ue_call c__law_edges hr (by decide) (by rfl) (fun σ => passAt (W := fun cls d _ H => E cls d H) (takes_of rfl rfl rfl rfl) σ) (uas_cons (ue_var 2) uas_nil) (aCons_len (fun _ _ h => aNil_len h))) ua_nil)) (fun ρ w h => congrArg Nat.succ ((fCons_len (fCons_len (fun _ _ h => fNil_len h))) ρ w h))))
      (us_cons (us_set (i := 5) scs__law_asked.nd rfl (Or.inl rfl) (ue_make m_Graph hr (by decide) (by rfl) (fun σ => passAt (W := fun cls d _ H => E cls d H) (takes_of rfl rfl rfl rfl) σ) (ua_cons (ue_callB pc_len (by rfl) f_len (by decide +kernel) (ua_cons (ue_var 3) ua_nil)) (ua_cons (ue_callTy pc_list (by rfl) f_list (by decide +kernel) (ua_cons (ue_call c__law_edges hr (by decide) (by rfl) (fun σ => passAt (W := fun cls d _ H => E cls d H) (takes_of rfl rfl rfl rfl) σ) (uas_cons (ue_var 3) uas_nil) (aCons_len (fun _ _ h => aNil_len h))) ua_nil)) ua_nil)) (fun ρ w h => congrArg Nat.succ ((fCons_len (fCons_len (fun _ _ h => fNil_len h))) ρ w h))))
      (us_cons (us_set (i := 6) scs__law_asked.nd rfl (Or.inl rfl) (ue_cmp (po_eq hr.units) (ue_call c__law_draw hr (by decide) (by rfl) (fun σ => passAt (W := fun cls d _ H => E cls d H) (takes_of rfl rfl rfl rfl) σ) (uas_ref 1 (uas_cons ue_int uas_nil)) (aRef_len (aCons_len (fun _ _ h => aNil_len h)))) ue_int (nomark _)))
      (us_cons (us_if (PW.pt (uw_or (ut_not (ut_val (ue_call c__law_right hr (by decide) (by rfl) (fun σ => passAt (W := fun cls d _ H => E cls d H) (takes_of rfl rfl rfl rfl) σ) (uas_cons (ue_var 2) (uas_cons (ue_var 4) (uas_cons (ue_var 6) uas_nil))) (aCons_len (aCons_len (aCons_len (fun _ _ h => aNil_len h))))))) (uw_or1 (ut_not (ut_val (ue_call c__law_right hr (by decide) (by rfl) (fun σ => passAt (W := fun cls d _ H => E cls d H) (takes_of rfl rfl rfl rfl) σ) (uas_cons (ue_var 3) (uas_cons (ue_var 5) (uas_cons (ue_var 6) uas_nil))) (aCons_len (aCons_len (aCons_len (fun _ _ h => aNil_len h))))))))))
        (us_one (us_ret ue_bl))
        us_nil)
      (us_cons (us_if (ut_not (ut_val (ue_call c__law_right hr (by decide) (by rfl) (fun σ => passAt (W := fun cls d _ H => E cls d H) (takes_of rfl rfl rfl rfl) σ) (uas_cons (ue_var 2) (uas_cons (ue_var 4) (uas_cons (ue_not (ue_var 6)) uas_nil))) (aCons_len (aCons_len (aCons_len (fun _ _ h => aNil_len h)))))))
        (us_one (us_ret ue_bl))
        us_nil)
      (us_one (us_ret (ue_call c__law_alike hr (by decide) (by rfl) (fun σ => passAt (W := fun cls d _ H => E cls d H) (takes_of rfl rfl rfl rfl) σ) (uas_cons (ue_tup (ua_cons (ue_fld "Graph" K_Graph (by decide) (ue_var 4) rfl) (ua_cons (ue_fld "Graph" K_Graph (by decide) (ue_var 4) rfl) ua_nil))) (uas_cons (ue_tup (ua_cons (ue_callB pc_len (by rfl) f_len (by decide +kernel) (ua_cons (ue_var 2) ua_nil)) (ua_cons (ue_call c__law_edges hr (by decide) (by rfl) (fun σ => passAt (W := fun cls d _ H => E cls d H) (takes_of rfl rfl rfl rfl) σ) (uas_cons (ue_var 2) uas_nil) (aCons_len (fun _ _ h => aNil_len h))) ua_nil))) uas_nil)) (aCons_len (aCons_len (fun _ _ h => aNil_len h)))))))))))))))
end
end Ev
namespace Ev
open PySem PySem.Spec PyProof.Rows L2
theorem i_add (i j : Int) : pAdd (.int i) (.int j) = some (.int (i + j)) := rfl
theorem i_mul {i j : Int} (h : cMulW i j = true) : pMul (.int i) (.int j) = some (.int (i * j)) := by
  unfold pMul
  dsimp only
  rw [if_pos h]
theorem i_div {i j : Int} (h : cDivW i j = true) : pDiv (.int i) (.int j) = some (.int (i / j)) := by
  unfold pDiv pI2
  dsimp only
  rw [if_pos h]
theorem i_mod {i j : Int} (h : 0 < j) : pMod (.int i) (.int j) = some (.int (i % j)) := by
  unfold pMod pI2
  dsimp only
  rw [if_pos (decide_eq_true h)]
theorem i_lt (i j : Int) : pLt (.int i) (.int j) = some (.bl (decide (i < j))) := rfl
theorem i_gt (i j : Int) : pGt (.int i) (.int j) = some (.bl (decide (j < i))) := rfl
theorem i_eq (i j : Int) : pEq (.int i) (.int j) = some (.bl (decide (i = j))) := by
  have := (dat_I).eq (by decide) i j
  unfold pEq
  rw [show pEqB (.int i) (.int j) = some (decide (i = j)) from this]
  rfl
theorem x_lst (xs : List PV) (i : Int) : pIdx (.lst xs) (.int i) = atI xs i := rfl
theorem n_lst (xs : List PV) : bLen [.lst xs] = some (.int xs.length) := rfl
theorem b_int (i : Int) : bInt [.int i] = some (.int i) := rfl
theorem b_abs (i : Int) : bAbs [.int i] = some (.int (if i < 0 then -i else i)) := rfl
theorem pa0 (a : PV) (xs : List PV) : atI (a :: xs) 0 = some a := by
  unfold atI ixN
  rw [if_pos (Int.le_refl 0), if_pos (by rw [List.length_cons]; omega)]
  rfl
theorem pa1 (a b c d : PV) : atI [a, b, c, d] 1 = some b := rfl
theorem pa2 (a b c d : PV) : atI [a, b, c, d] 2 = some c := rfl
theorem pa3 (a b c d : PV) : atI [a, b, c, d] 3 = some d := rfl
theorem mixed (c t : Int) : ∃ r : Int, F__law_mixed [.fr (.int c), .fr (.int t)] = .ok (.fr (.int r), [.no, .no]) := by
  have m1 := fun i => cMul_small i 48271 (by decide)
  have m2 := fun i => cMul_small i 69621 (by decide)
  have m3 := fun i => cMul_small i 16807 (by decide)
  have m4 := fun i => cMul_small i 7919 (by decide)
  have m5 := fun i => cDiv_small i 65536 (by decide)
  refine ⟨((c * 48271 + t * 69621 + 17) % 2147483647 * 16807 + (c * 48271 + t * 69621 + 17) % 2147483647 / 65536 + t * 7919) % 998244353, ?_⟩
  simp [defF, finF, outsZ, outsC, outE, gSeq, gRet, gRetN, gRetO, gIf, gNx, gAsg, gDrop, gFrz, fAnd, fOr, fNot, fT, tAndF, tOrF, tNotF, fC, fVar, fUn, fBin, fIf, fChain, fTup, fLst, fCons, fNil, fCall, callR, argE, argE1, rfs, back, aCons, aNil, aRef, frz, ofO, asB, asI, asg, asgs, setE, fB, gSetI, ownL, ownP, putE, fIxO', fIxO, F__law_mixed, G__law_mixed, i_add, i_mul, i_div, i_mod, b_int, m1, m2, m3, m4, m5]
def poolP (ns : List Int) (u r t : Int) : PV := .lst [.lst (ns.map .int), .int u, .int r, .int t]
theorem poolP_ok {ns : List Int} {u r t : Int} (h : ns.length ≤ 63) (hu : 0 ≤ u) (hr : 0 ≤ r) (ht : 0 ≤ t) : PoolP (poolP ns u r t) := ⟨ns, u, r, t, rfl, h, hu, hr, ht⟩
theorem draw_ok {p : PV} {m : Int} (h : PoolP p) (h1 : 0 < m) (h2 : m < 2 ^ 64) : ∃ (r : Int) (p' : PV), F__law_draw [.io p, .fr (.int m)] = .ok (.fr (.int r), [.io p', .no]) ∧ 0 ≤ r ∧ r < m ∧ PoolP p' := by
  obtain ⟨ns, u, r, t, rfl, hl, hu0, hr0, ht0⟩ := h
  have hd := fun i => cDiv_small i m ⟨h1, h2⟩
  have hmod : ∀ i : Int, 0 ≤ i % m ∧ i % m < m := fun i => ⟨Int.emod_nonneg _ (by omega), Int.emod_lt_of_pos _ h1⟩
  have hdp : ∀ i : Int, 0 ≤ i → 0 ≤ i / m := fun i hi => Int.ediv_nonneg hi (by omega)
  have atm : ∀ (j : Nat), j < ns.length → ∃ c : Int, atI (ns.map PV.int) (j : Int) = some (.int c) := fun j hj => ⟨ns[j], atI_nat (by rw [List.getElem?_map, List.getElem?_eq_getElem hj]; rfl)⟩
  obtain ⟨u, rfl⟩ : ∃ k : Nat, u = k := ⟨u.toNat, by omega⟩
  -- the last way: a cell by the turn
  have last : ¬ 0 < r → ¬ (r = 0 ∧ u < ns.length) → ∃ (r' : Int) (p' : PV), F__law_draw [.io (poolP ns u r t), .fr (.int m)] = .ok (.fr (.int r'), [.io p', .no]) ∧ 0 ≤ r' ∧ r' < m ∧ PoolP p' := by
    intro hr hru
    have hr0 : r = 0 := by omega
    subst hr0
    have hru' : ns.length ≤ u := Nat.le_of_not_lt fun h' => hru ⟨rfl, h'⟩
    have hux : ¬ u < ns.length := Nat.not_lt.mpr hru'
    by_cases hn : ns.length = 0
    · obtain ⟨x, hx⟩ := mixed 0 (t + 1)
      have hn2 : ns = [] := List.eq_nil_of_length_eq_zero hn
      subst hn2
      refine ⟨x % m, poolP [] u 0 (t + 1), ?_, (hmod x).1, (hmod x).2, poolP_ok hl (by omega) (by omega) (by omega)⟩
      have hux : ¬ (u : Int) < 0 := by omega
      simp [defF, finF, outsZ, outsC, outE, gSeq, gRet, gRetN, gRetO, gIf, gNx, gAsg, gDrop, gFrz, fAnd, fOr, fNot, fT, tAndF, tOrF, tNotF, fC, fVar, fUn, fBin, fIf, fChain, fTup, fLst, fCons, fNil, fCall, callR, argE, argE1, rfs, back, aCons, aNil, aRef, frz, ofO, asB, asI, asg, asgs, setE, fB, gSetI, ownL, ownP, putE, fIxO', fIxO, F__law_draw, G__law_draw, poolP, i_add, i_lt, i_gt, i_eq, i_mod, x_lst, n_lst, b_int, b_abs, pa0, pa1, pa2, pa3, ixN, hx, h1, hux]
    · have hl0 : (0 : Int) < ns.length := by omega
      obtain ⟨c, hc⟩ := atm ((t + 1) % ns.length).toNat (by have := Int.emod_lt_of_pos (t + 1) hl0; have := Int.emod_nonneg (t + 1) (show (ns.length : Int) ≠ 0 by omega); omega)
      rw [Int.toNat_of_nonneg (Int.emod_nonneg _ (by omega))] at hc
      obtain ⟨x, hx⟩ := mixed (if c < 0 then -c else c) (t + 1)
      refine ⟨x % m, poolP ns u 0 (t + 1), ?_, (hmod x).1, (hmod x).2, poolP_ok hl (by omega) (by omega) (by omega)⟩
      have hn0 : 0 < ns.length := Nat.pos_of_ne_zero hn
      simp [defF, finF, outsZ, outsC, outE, gSeq, gRet, gRetN, gRetO, gIf, gNx, gAsg, gDrop, gFrz, fAnd, fOr, fNot, fT, tAndF, tOrF, tNotF, fC, fVar, fUn, fBin, fIf, fChain, fTup, fLst, fCons, fNil, fCall, callR, argE, argE1, rfs, back, aCons, aNil, aRef, frz, ofO, asB, asI, asg, asgs, setE, fB, gSetI, ownL, ownP, putE, fIxO', fIxO, F__law_draw, G__law_draw, poolP, i_add, i_lt, i_gt, i_eq, i_mod, x_lst, n_lst, b_int, b_abs, pa0, pa1, pa2, pa3, ixN, hx, h1, hux, hl0, hc, hn0]
  by_cases hr2 : 0 < r
  · have hr : ¬ r = 0 := by omega
    refine ⟨r % m, poolP ns u (r / m) (t + 1), ?_, (hmod r).1, (hmod r).2, poolP_ok hl (by omega) (hdp r (by omega)) (by omega)⟩
    simp [defF, finF, outsZ, outsC, outE, gSeq, gRet, gRetN, gRetO, gIf, gNx, gAsg, gDrop, gFrz, fAnd, fOr, fNot, fT, tAndF, tOrF, tNotF, fC, fVar, fUn, fBin, fIf, fChain, fTup, fLst, fCons, fNil, fCall, callR, argE, argE1, rfs, back, aCons, aNil, aRef, frz, ofO, asB, asI, asg, asgs, setE, fB, gSetI, ownL, ownP, putE, fIxO', fIxO, F__law_draw, G__law_draw, poolP, i_add, i_lt, i_gt, i_eq, i_mod, i_div, x_lst, n_lst, b_int, b_abs, pa0, pa1, pa2, pa3, ixN, hr, hr2, hd, h1]
  · by_cases hru : r = 0 ∧ u < ns.length
    · obtain ⟨rfl, hu⟩ := hru
      obtain ⟨c, hc⟩ := atm u hu
      have hu2 : (u : Int) < ns.length := by omega
      have hpw : pPow (.int 10) (.int 18) = some (.int 1000000000000000000) := rfl
      by_cases hb : (if c < 0 then -c else c) < 1000000000000000000
      · obtain ⟨x, hx⟩ := mixed (if c < 0 then -c else c) (t + 1)
        generalize hg : (if c < 0 then -c else c) = g at hb hx
        refine ⟨x % m, poolP ns (u + 1) 0 (t + 1), ?_, (hmod x).1, (hmod x).2, poolP_ok hl (by omega) (by omega) (by omega)⟩
        simp [defF, finF, outsZ, outsC, outE, gSeq, gRet, gRetN, gRetO, gIf, gNx, gAsg, gDrop, gFrz, fAnd, fOr, fNot, fT, tAndF, tOrF, tNotF, fC, fVar, fUn, fBin, fIf, fChain, fTup, fLst, fCons, fNil, fCall, callR, argE, argE1, rfs, back, aCons, aNil, aRef, frz, ofO, asB, asI, asg, asgs, setE, fB, gSetI, ownL, ownP, putE, fIxO', fIxO, F__law_draw, G__law_draw, poolP, i_add, i_lt, i_gt, i_eq, i_mod, i_div, x_lst, n_lst, b_int, b_abs, pa0, pa1, pa2, pa3, ixN, hx, h1, hu, hc, hpw, hg, hb]
      · have hcp : 0 < (if c < 0 then -c else c) := by omega
        have hc0 : ¬ (if c < 0 then -c else c) = 0 := by omega
        generalize hg : (if c < 0 then -c else c) = g at hb hcp hc0
        refine ⟨g % m, poolP ns (u + 1) (g / m) (t + 1), ?_, (hmod g).1, (hmod g).2, poolP_ok hl (by omega) (hdp g (by omega)) (by omega)⟩
        simp [defF, finF, outsZ, outsC, outE, gSeq, gRet, gRetN, gRetO, gIf, gNx, gAsg, gDrop, gFrz, fAnd, fOr, fNot, fT, tAndF, tOrF, tNotF, fC, fVar, fUn, fBin, fIf, fChain, fTup, fLst, fCons, fNil, fCall, callR, argE, argE1, rfs, back, aCons, aNil, aRef, frz, ofO, asB, asI, asg, asgs, setE, fB, gSetI, ownL, ownP, putE, fIxO', fIxO, F__law_draw, G__law_draw, poolP, i_add, i_lt, i_gt, i_eq, i_mod, i_div, x_lst, n_lst, b_int, b_abs, pa0, pa1, pa2, pa3, ixN, h1, hu, hc, hpw, hg, hb, hcp, hc0, hd]
    · exact last hr2 hru
def f__law_draw (m : Int) : W Int := W.draw m
theorem t__law_draw : FnW F__law_draw (fun t : Int × Unit => [.pool, .v (eI t.1)]) [.pool, .top] false eI (fun t => f__law_draw t.1) := fun t ρ m Q X q => by
  obtain ⟨_, _, rfl, ⟨p, rfl, hp⟩, _, _, rfl, rfl, rfl⟩ := m
  obtain ⟨h1, h2, h3⟩ := q
  obtain ⟨r, p', e, r0, r1, hp'⟩ := draw_ok hp h1 h2
  exact .inl ⟨r, _, _, e, rfl, ⟨_, _, rfl, ⟨p', rfl, hp'⟩, _, _, rfl, trivial, rfl⟩, h3 r r0 r1⟩
end Ev
namespace Ev
open PySem PySem.Spec PyProof.Rows L2
def f__law_alike : Nat → PV → PV → W Bool
  | 0, _, _ => W.bad
  | n + 1, found', due' => (W.bind (W.bind (W.ret due') fun p => W.bind (W.opt (kindOf CS p)) fun k => W.ret (k.is (.t .lst) || k.is (.t .tup))) fun b => if b = true then (W.bind (W.bind (W.bind (W.ret due') fun p => W.bind (W.opt (kindOf CS p)) fun k => W.ret (k.is (.t .lst))) fun a => if a = true then (W.bind (W.bind (W.ret found') fun p => W.bind (W.opt (kindOf CS p)) fun k => W.ret (k.is (.t .lst))) fun a => W.ret (!a)) else W.ret false) fun b => if b = true then (W.ret false) else (W.bind (W.bind (W.bind (W.ret due') fun p => W.bind (W.opt (kindOf CS p)) fun k => W.ret (k.is (.t .tup))) fun a => if a = true then (W.bind (W.bind (W.ret found') fun p => W.bind (W.opt (kindOf CS p)) fun k => W.ret (k.is (.t .tup))) fun a => W.ret (!a)) else W.ret false) fun b => if b = true then (W.ret false) else (W.bind (W.bind (W.bind (W.ret found') fun a => W.ex fun n => bLen [a] = some (.int n)) fun a => W.bind (W.bind (W.ret due') fun a => W.ex fun n => bLen [a] = some (.int n)) fun b => W.ret (!decide (a = b))) fun b => if b = true then (W.ret false) else (W.bind (W.bind (W.bind (W.ret due') fun a => W.ex fun n => bLen [a] = some (.int n)) W.rng1) fun xs => W.bind (W.forB (fun s1' k' => (W.bind (W.bind (W.bind (W.bind (W.bind (W.ret found') fun a => W.bind (W.ret k') fun b => W.opt (pIdx a (.int b))) fun a => W.bind (W.bind (W.bind (W.ret due') fun a => W.bind (W.ret k') fun b => W.opt (pIdx a (.int b))) fun a => W.bind (W.ret ()) fun b => W.ret (a, b)) fun b => W.ret (a, b)) (fun t => f__law_alike n t.1 t.2.1)) fun a => W.ret (!a)) fun b => if b = true then (W.bind (W.ret false) fun a => W.ret (St.ret a)) else (W.ret (St.go ())))) xs ()) (W.cont (fun _ => (W.ret true)) fun v => W.ret v))))) else (W.bind (W.bind (W.ret due') fun p => W.bind (W.opt (kindOf CS p)) fun k => W.ret (k.is (.c "Graph"))) fun b => if b = true then (W.bind (W.bind (W.ret found') fun p => W.bind (W.opt (kindOf CS p)) fun k => W.ret (k.is (.c "Graph"))) fun a => if a = true then (W.bind (W.bind (W.bind (W.ret found') fun p => W.bind (W.ex fun g => p = eG g) fun g => W.ret (gr_size g)) fun a => W.bind (W.bind (W.ret due') fun p => W.bind (W.ex fun g => p = eG g) fun g => W.ret (gr_size g)) fun b => W.ret (decide (a = b))) fun a => if a = true then (W.bind (W.bind (W.ret found') fun p => W.bind (W.ex fun g => p = eG g) fun g => W.ret (gr_edges g)) fun a => W.bind (W.bind (W.ret due') fun p => W.bind (W.ex fun g => p = eG g) fun g => W.ret (gr_edges g)) fun b => W.ret (decide (a = b))) else W.ret false) else W.ret false) else (W.bind (W.bind (W.ret due') fun p => W.ret (isNonP p)) fun b => if b = true then (W.bind (W.ret found') fun p => W.ret (isNonP p)) else (W.bind (W.bind (W.ret due') fun a => W.bind (W.ret true) fun b => W.ex fun c => pIsB a (.bl b) = some (.bl c)) fun b => if b = true then (W.bind (W.ret found') fun a => W.bind (W.ret true) fun b => W.ex fun c => pIsB a (.bl b) = some (.bl c)) else (W.bind (W.bind (W.ret due') fun a => W.bind (W.ret false) fun b => W.ex fun c => pIsB a (.bl b) = some (.bl c)) fun b => if b = true then (W.bind (W.ret found') fun a => W.bind (W.ret false) fun b => W.ex fun c => pIsB a (.bl b) = some (.bl c)) else (W.bind (W.bind (W.ret due') fun p => W.bind (W.opt (kindOf CS p)) fun k => W.ret (k.is (.t .str))) fun b => if b = true then (W.bind (W.bind (W.ret found') fun p => W.bind (W.opt (kindOf CS p)) fun k => W.ret (k.is (.t .str))) fun a => if a = true then (W.bind (W.ret found') fun a => W.bind (W.ret due') fun b => W.opt (pEqB (eA a) (eA b))) else W.ret false) else (W.bind (W.bind (W.ret found') fun p => W.bind (W.opt (kindOf CS p)) fun k => W.ret (k.is (.t .int))) fun a => if a = true then (W.bind (W.bind (W.bind (W.ret found') fun p => W.bind (W.opt (kindOf CS p)) fun k => W.ret (k.is (.t .bl))) fun a => W.ret (!a)) fun a => if a = true then (W.bind (W.ret found') fun a => W.bind (W.ret due') fun b => W.opt (pEqB (eA a) (eA b))) else W.ret false) else W.ret false)))))))
theorem t__law_alike : ∀ n : Nat, FnW (F__law_alike n) (fun t : PV × PV × Unit => [.v (eA t.1), .v (eA t.2.1)]) [.top, .top] false eB (fun t => f__law_alike n t.1 t.2.1)
  | 0 => fun _ _ _ _ _ q => q.elim
  | n + 1 => by
    have ts := t__law_alike n
    exact fn_of (nN := 3) (n := 2) (G := G__law_alike (F__law_alike n)) (σ := Empty) (Γo := fun _ z => z.elim) (k := fun _ z => z.elim) rfl ⟨trivial, trivial, trivial⟩ (fun t => (show SimC (G__law_alike (F__law_alike n)) [.v (eA t.1), .v (eA t.2.1), .jk] (MtP [.top, .top]) (OF false eB [.top, .top]) _ _ (f__law_alike (n + 1) t.1 t.2.1) from (sc_ifx0 (st_T (se_un us_isi2 (sv_var 1 rfl))) (eP (by exact ⟨trivial, trivial, SubP.nil⟩)) (sc_ifx0 (st_and (st_T (se_un us_isi (sv_var 1 rfl))) (st_not (st_T (se_un us_isi (sv_var 0 rfl))))) (eP (by exact ⟨trivial, trivial, SubP.nil⟩)) (sc_ret (sv_c (ea := eB) (x := false) rfl) (eP (by exact ⟨trivial, trivial, SubP.nil⟩)) (by exact ⟨trivial, trivial, SubP.nil⟩)) (sc_ifx0 (st_and (st_T (se_un us_isi (sv_var 1 rfl))) (st_not (st_T (se_un us_isi (sv_var 0 rfl))))) (eP (by exact ⟨trivial, trivial, SubP.nil⟩)) (sc_ret (sv_c (ea := eB) (x := false) rfl) (eP (by exact ⟨trivial, trivial, SubP.nil⟩)) (by exact ⟨trivial, trivial, SubP.nil⟩)) (sc_ifx0 (st_T (se_bin (os_ne ((dat_I).eq (by decide))) (se_b1 bs_lenA (sv_var 0 rfl)) (se_b1 bs_lenA (sv_var 1 rfl)))) (eP (by exact ⟨trivial, trivial, SubP.nil⟩)) (sc_ret (sv_c (ea := eB) (x := false) rfl) (eP (by exact ⟨trivial, trivial, SubP.nil⟩)) (by exact ⟨trivial, trivial, SubP.nil⟩)) (sc_seq (sc_forB (β := Bool) (Γo := fun (s1' : Unit) => [.v (eA t.1), .v (eA t.2.1), .jk]) (Ob := OF false eB [.top, .top]) (h := fun v => v) (si_rng1 (se_b1 bs_lenA (sv_var 1 rfl))) (eP (by exact ⟨trivial, trivial, SubP.nil⟩)) (by exact ⟨rfl, rfl, trivial, trivial⟩) (fun s1' => (ag_nm 2 rfl (by exact trivial))) oF_id (fun s1' k' => (sc_if (st_not (st_T (se_call ts (sr_cons (se_bin os_idxA (sv_var 0 rfl) (sv_var 2 rfl)) (sr_cons (se_bin os_idxA (sv_var 1 rfl) (sv_var 2 rfl)) sr_nil)) (fun _ => (by exact ⟨⟨rfl, rfl, trivial⟩, trivial, List.nodup_nil⟩))))) (eP (by exact ⟨trivial, trivial, SubP.nil⟩)) (sc_retL (sv_c (ea := eB) (x := false) rfl) (eP (by exact ⟨trivial, trivial, SubP.nil⟩)) (by exact ⟨trivial, trivial, SubP.nil⟩)) (sc_nx (s := ()) (by exact ⟨rfl, rfl, trivial, trivial⟩))))) (fun s1' => (sc_ret (sv_c (ea := eB) (x := true) rfl) (eP (by exact ⟨trivial, trivial, SubP.nil⟩)) (by exact ⟨trivial, trivial, SubP.nil⟩))))))) (sc_ifx0 (st_T (se_un us_isi (sv_var 1 rfl))) (eP (by exact ⟨trivial, trivial, SubP.nil⟩)) (sc_ret (se_and (se_un us_isi (sv_var 0 rfl)) (se_and (se_bin (os_eq ((dat_I).eq (by decide))) (se_un us_grA_size (sv_var 0 rfl)) (se_un us_grA_size (sv_var 1 rfl))) (se_bin (os_eq ((((dat_I).P2 (dat_I)).T).eq (by decide))) (se_un us_grA_edges (sv_var 0 rfl)) (se_un us_grA_edges (sv_var 1 rfl))))) (eP (by exact ⟨trivial, trivial, SubP.nil⟩)) (by exact ⟨trivial, trivial, SubP.nil⟩)) (sc_ifx0 (st_T (se_isNA (sv_var 1 rfl))) (eP (by exact ⟨trivial, trivial, SubP.nil⟩)) (sc_ret (se_isNA (sv_var 0 rfl)) (eP (by exact ⟨trivial, trivial, SubP.nil⟩)) (by exact ⟨trivial, trivial, SubP.nil⟩)) (sc_ifx0 (st_T (se_bin os_isB (sv_var 1 rfl) (sv_c (ea := eB) (x := true) rfl))) (eP (by exact ⟨trivial, trivial, SubP.nil⟩)) (sc_ret (se_bin os_isB (sv_var 0 rfl) (sv_c (ea := eB) (x := true) rfl)) (eP (by exact ⟨trivial, trivial, SubP.nil⟩)) (by exact ⟨trivial, trivial, SubP.nil⟩)) (sc_ifx0 (st_T (se_bin os_isB (sv_var 1 rfl) (sv_c (ea := eB) (x := false) rfl))) (eP (by exact ⟨trivial, trivial, SubP.nil⟩)) (sc_ret (se_bin os_isB (sv_var 0 rfl) (sv_c (ea := eB) (x := false) rfl)) (eP (by exact ⟨trivial, trivial, SubP.nil⟩)) (by exact ⟨trivial, trivial, SubP.nil⟩)) (sc_ifx0 (st_T (se_un us_isi (sv_var 1 rfl))) (eP (by exact ⟨trivial, trivial, SubP.nil⟩)) (sc_ret (se_and (se_un us_isi (sv_var 0 rfl)) (se_bin (os_eqA (ea := eA) (eb := eA)) (sv_var 0 rfl) (sv_var 1 rfl))) (eP (by exact ⟨trivial, trivial, SubP.nil⟩)) (by exact ⟨trivial, trivial, SubP.nil⟩)) (sc_ret (se_and (se_un us_isi (sv_var 0 rfl)) (se_and (se_not (se_un us_isi (sv_var 0 rfl))) (se_bin (os_eqA (ea := eA) (eb := eA)) (sv_var 0 rfl) (sv_var 1 rfl)))) (eP (by exact ⟨trivial, trivial, SubP.nil⟩)) (by exact ⟨trivial, trivial, SubP.nil⟩)))))))))) fn_no
def f__law_edges (near' : (List Int)) : W (List (Int × Int)) := (W.bind (W.bind (W.ret ([] : List (Int × Int))) fun as => W.req (as.length ≤ 1000) as) fun found' => (W.bind (W.bind (W.bind (W.ret near') fun a => W.ret (a.length : Int)) W.rng1) fun xs => W.bind (W.forS (fun s1' a' => (W.bind (W.bind (W.bind (W.ret a') fun a => W.bind (W.ret (1 : Int)) fun b => W.ret (a + b)) fun i => W.bind (W.bind (W.ret near') fun a => W.ret (a.length : Int)) fun j => W.rng2 i j) fun xs => W.bind (W.forS (fun s2' b' => (W.bind (W.bind (W.bind (W.bind (W.bind (W.ret near') fun a => W.bind (W.ret a') fun b => W.opt (atI a b)) fun a => W.bind (W.ret b') fun b => W.req (0 ≤ b) (a / 2 ^ b.toNat)) fun a => W.bind (W.ret (1 : Int)) fun b => W.ret (Builtin.bitAnd a b)) fun a => W.bind (W.ret (1 : Int)) fun b => W.ret (decide (a = b))) fun b => if b = true then (W.bind (W.bind (W.bind (W.ret a') fun a => W.bind (W.ret b') fun b => W.ret (a, b)) fun y => W.app s2' y) fun found' => (W.ret found')) else (W.ret s2'))) xs s1') fun s2' => (W.ret s2'))) xs found') fun s1' => (W.bind (W.ret s1') fun a => W.ret a)))
theorem t__law_edges : FnW F__law_edges (fun t : (List Int) × Unit => [.v ((eL eI) t.1)]) [.top] false (eT (eP2 eI eI)) (fun t => f__law_edges t.1) :=
  fn_of (nN := 4) (n := 1) (G := G__law_edges) (σ := Empty) (Γo := fun _ z => z.elim) (k := fun _ z => z.elim) rfl ⟨trivial, trivial⟩ (fun t => (show SimC G__law_edges [.v ((eL eI) t.1), .jk, .jk, .jk] (MtP [.top]) (OF false (eT (eP2 eI eI)) [.top]) _ _ (f__law_edges t.1) from (sc_seq (sc_own 1 (se_lst (sl_nil (ea := (eP2 eI eI)))) rfl trivial (eP (by exact ⟨trivial, SubP.nil⟩))) (fun found' => (sc_seq (sc_forS (Γo := fun (s1' : (List (Int × Int))) => [.v ((eL eI) t.1), .o ((eL (eP2 eI eI)) s1'), .jk, .jk]) (si_rng1 (se_b1 bs_lenL (sv_var 0 rfl))) (eP (by exact ⟨trivial, SubP.nil⟩)) (by exact ⟨rfl, rfl, trivial, trivial, trivial⟩) (fun s1' => (ag_nm 2 rfl (by exact trivial))) (fun s1' a' => (sc_last (h := fun s2' => s2') (fun s2' => (by exact ⟨rfl, rfl, trivial, trivial, trivial⟩)) (sc_forS (Γo := fun (s2' : (List (Int × Int))) => [.v ((eL eI) t.1), .o ((eL (eP2 eI eI)) s2'), .v (eI a'), .jk]) (si_rng2 (se_bin os_add (sv_var 2 rfl) (sv_c (ea := eI) (x := 1) rfl)) (se_b1 bs_lenL (sv_var 0 rfl))) (eP (by exact ⟨trivial, SubP.nil⟩)) (by exact ⟨rfl, rfl, rfl, trivial, trivial⟩) (fun s2' => (ag_nm 3 rfl (by exact trivial))) (fun s2' b' => (sc_if (st_T (se_bin (os_eq ((dat_I).eq (by decide))) (se_bin os_and (se_bin os_shr (se_bin os_idxL (sv_var 0 rfl) (sv_var 2 rfl)) (sv_var 3 rfl)) (sv_c (ea := eI) (x := 1) rfl)) (sv_c (ea := eI) (x := 1) rfl))) (eP (by exact ⟨trivial, SubP.nil⟩)) (sc_last (h := fun (found' : (List (Int × Int))) => found') (fun found' => (by exact ⟨rfl, rfl, rfl, trivial, trivial⟩)) (sc_app 1 (o := true) rfl (se_tup2 (sv_var 2 rfl) (sv_var 3 rfl)) (eP (by exact ⟨trivial, SubP.nil⟩)))) (sc_nx (s := s2') (by exact ⟨rfl, rfl, rfl, trivial, trivial⟩)))))))) (fun s1' => (sc_frz 1 rfl (sc_ret (se_b1 bs_tupL (sv_var 1 rfl)) (eP (by exact ⟨trivial, SubP.nil⟩)) (by exact ⟨trivial, SubP.nil⟩))))))))) fn_no
def f__law_shuffled (size' : Int) : W (List Int) := (W.bind (W.bind (W.ret ([] : List Int)) fun as => W.req (as.length ≤ 1000) as) fun row' => (W.bind (W.bind (W.ret size') W.rng1) fun xs => W.bind (W.forS (fun s1' v' => (W.bind (W.bind (W.bind (W.bind (W.bind (W.bind (W.ret v') fun a => W.bind (W.ret (1 : Int)) fun b => W.ret (a + b)) fun a => W.bind (W.ret ()) fun b => W.ret (a, b)) (fun t => f__law_draw t.1)) fun a => W.bind (W.bind (W.ret v') fun a => W.bind (W.ret ()) fun b => W.ret (a, b)) fun b => W.ret (a, b)) (fun t => W.req (0 ≤ t.1 ∧ t.1 < 2 ^ 63 ∧ s1'.length < 1000000) ((), s1'.take t.1.toNat ++ [t.2.1] ++ s1'.drop t.1.toNat))) fun r2' => (W.ret r2'.2))) xs row') fun s1' => (W.ret s1')))
theorem t__law_shuffled : FnW F__law_shuffled (fun t : Int × Unit => [.pool, .v (eI t.1)]) [.pool, .top] true (eL eI) (fun t => f__law_shuffled t.1) :=
  fn_of (nN := 4) (n := 2) (G := G__law_shuffled) (σ := Empty) (Γo := fun _ z => z.elim) (k := fun _ z => z.elim) rfl ⟨trivial, trivial, trivial⟩ (fun t => (show SimC G__law_shuffled [.pool, .v (eI t.1), .jk, .jk] (MtP [.pool, .top]) (OF true (eL eI) [.pool, .top]) _ _ (f__law_shuffled t.1) from (sc_seq (sc_own 2 (se_lst (sl_nil (ea := eI))) rfl trivial (eP (by exact ⟨rfl, trivial, SubP.nil⟩))) (fun row' => (sc_seq (sc_forS (Γo := fun (s1' : (List Int)) => [.pool, .v (eI t.1), .o ((eL eI) s1'), .jk]) (si_rng1 (sv_var 1 rfl)) (eP (by exact ⟨rfl, trivial, SubP.nil⟩)) (by exact ⟨rfl, rfl, rfl, trivial, trivial⟩) (fun s1' => (ag_nm 3 rfl (by exact trivial))) (fun s1' v' => (sc_last (h := fun (r2' : Unit × (List Int)) => r2'.2) (fun r2' => (by exact ⟨rfl, rfl, rfl, trivial, trivial⟩)) (sc_bm 2 (o := true) bw_ins rfl (sa_cons (se_call t__law_draw (sr_ref 0 (by exact trivial) (sr_cons (se_bin os_add (sv_var 3 rfl) (sv_c (ea := eI) (x := 1) rfl)) sr_nil)) (fun _ => (by exact ⟨⟨.inl rfl, rfl, trivial⟩, ⟨.inl rfl, trivial⟩, nd1⟩))) (sa_cons (sv_var 3 rfl) sa_nil)) (eP (by exact ⟨rfl, trivial, SubP.nil⟩)))))) (fun s1' => (sc_retO (ea := (eL eI)) (x := s1') 2 rfl (of_own (x := s1') (by exact ⟨rfl, trivial, SubP.nil⟩))))))))) fn_no
def f__law_near (size' : Int) : W (List Int) := (W.bind (W.bind (W.bind (W.ret (6 : Int)) fun a => W.bind (W.ret ()) fun b => W.ret (a, b)) (fun t => f__law_draw t.1)) fun kind' => (W.bind (W.bind (W.ret (1 : Int)) fun a => W.bind (W.bind (W.bind (W.ret (4 : Int)) fun a => W.bind (W.ret ()) fun b => W.ret (a, b)) (fun t => f__law_draw t.1)) fun b => W.ret (a + b)) fun dense' => (W.bind (W.bind (W.bind (W.ret size') W.rng1) fun xs => W.lc (fun v' => (W.ret true)) (fun v' => (W.bind (W.bind (W.ret (3 : Int)) fun a => W.bind (W.ret ()) fun b => W.ret (a, b)) (fun t => f__law_draw t.1))) xs) fun marks' => (W.bind (W.bind (W.bind (W.ret size') fun a => W.bind (W.ret ()) fun b => W.ret (a, b)) (fun t => f__law_shuffled t.1)) fun place' => (W.bind (W.bind (W.bind (W.bind (W.ret (0 : Int)) fun a => W.bind (W.ret []) fun as => W.ret (a :: as)) fun as => W.req (as.length ≤ 1000) as) fun a => W.bind (W.ret size') fun b => W.req (-(2 ^ 63) ≤ b ∧ b < 2 ^ 63 ∧ a.length * b.toNat ≤ sizeLine) (List.replicate b.toNat a).flatten) fun near' => (W.bind (W.bind (W.ret size') W.rng1) fun xs => W.bind (W.forS (fun s1' a' => (W.bind (W.bind (W.bind (W.ret a') fun a => W.bind (W.ret (1 : Int)) fun b => W.ret (a + b)) fun i => W.bind (W.ret size') fun j => W.rng2 i j) fun xs => W.bind (W.forS (fun s2' b' => (W.bind (W.bind (W.bind (W.bind (W.ret dense') fun a => W.bind (W.ret ()) fun b => W.ret (a, b)) (fun t => f__law_draw t.1)) fun a => W.bind (W.ret (0 : Int)) fun b => W.ret (decide (a = b))) fun joined' => (W.bind (W.bind (W.bind (W.ret kind') fun a => W.bind (W.ret (0 : Int)) fun b => W.ret (decide (a = b))) fun b => if b = true then (W.bind (W.bind (W.ret joined') fun a => W.ret (!a)) fun joined' => (W.ret joined')) else (W.ret joined')) fun s3' => (W.bind (W.bind (W.bind (W.ret kind') fun a => W.bind (W.ret (1 : Int)) fun b => W.ret (decide (a = b))) fun b => if b = true then (W.bind (W.bind (W.ret s3') fun a => if a = true then (W.bind (W.bind (W.ret marks') fun a => W.bind (W.ret a') fun b => W.opt (atI a b)) fun a => W.bind (W.bind (W.ret marks') fun a => W.bind (W.ret b') fun b => W.opt (atI a b)) fun b => W.ret (!decide (a = b))) else W.ret false) fun joined' => (W.ret joined')) else (W.ret s3')) fun s4' => (W.bind (W.bind (W.bind (W.ret kind') fun a => W.bind (W.ret (2 : Int)) fun b => W.ret (decide (a = b))) fun b => if b = true then (W.bind (W.bind (W.ret s4') fun a => if a = true then (W.bind (W.bind (W.ret marks') fun a => W.bind (W.ret a') fun b => W.opt (atI a b)) fun a => W.bind (W.bind (W.ret marks') fun a => W.bind (W.ret b') fun b => W.opt (atI a b)) fun b => W.ret (decide (a = b))) else W.ret false) fun joined' => (W.ret joined')) else (W.ret s4')) fun s5' => (W.bind (W.bind (W.bind (W.ret kind') fun a => W.bind (W.ret (3 : Int)) fun b => W.ret (decide (a = b))) fun b => if b = true then (W.bind (W.bind (W.bind (W.ret b') fun a => W.bind (W.bind (W.ret a') fun a => W.bind (W.ret (1 : Int)) fun b => W.ret (a + b)) fun b => W.ret (decide (a = b))) fun a => if a = true then W.ret true else (W.bind (W.bind (W.bind (W.ret a') fun a => W.bind (W.ret (0 : Int)) fun b => W.ret (decide (a = b))) fun a => if a = true then (W.bind (W.ret b') fun a => W.bind (W.bind (W.ret size') fun a => W.bind (W.ret (1 : Int)) fun b => W.ret (a - b)) fun b => W.ret (decide (a = b))) else W.ret false) fun a => if a = true then W.ret true else (W.bind (W.bind (W.ret dense') fun a => W.bind (W.ret (3 : Int)) fun b => W.ret (decide (a = b))) fun a => if a = true then (W.ret s5') else W.ret false))) fun joined' => (W.ret joined')) else (W.ret s5')) fun s6' => (W.bind (W.ret s6') fun b => if b = true then (W.bind (W.bind (W.bind (W.bind (W.bind (W.ret place') fun a => W.bind (W.ret a') fun b => W.opt (atI a b)) fun k => W.opt (atI s2' k)) fun a => W.bind (W.bind (W.ret (1 : Int)) fun a => W.bind (W.bind (W.ret place') fun a => W.bind (W.ret b') fun b => W.opt (atI a b)) fun b => W.req (cPow a b = true) (a * 2 ^ b.toNat)) fun b => W.ret (Builtin.bitOr a b)) fun y => W.bind (W.bind (W.ret place') fun a => W.bind (W.ret a') fun b => W.opt (atI a b)) fun k => W.setI s2' k y) fun near' => (W.bind (W.bind (W.bind (W.bind (W.bind (W.ret place') fun a => W.bind (W.ret b') fun b => W.opt (atI a b)) fun k => W.opt (atI near' k)) fun a => W.bind (W.bind (W.ret (1 : Int)) fun a => W.bind (W.bind (W.ret place') fun a => W.bind (W.ret a') fun b => W.opt (atI a b)) fun b => W.req (cPow a b = true) (a * 2 ^ b.toNat)) fun b => W.ret (Builtin.bitOr a b)) fun y => W.bind (W.bind (W.ret place') fun a => W.bind (W.ret b') fun b => W.opt (atI a b)) fun k => W.setI near' k y) fun near' => (W.ret near'))) else (W.ret s2')))))))) xs s1') fun s2' => (W.ret s2'))) xs near') fun s1' => (W.ret s1')))))))
theorem t__law_near : FnW F__law_near (fun t : Int × Unit => [.pool, .v (eI t.1)]) [.pool, .top] true (eL eI) (fun t => f__law_near t.1) :=
  fn_of (nN := 11) (n := 2) (G := G__law_near) (σ := Empty) (Γo := fun _ z => z.elim) (k := fun _ z => z.elim) rfl ⟨trivial, trivial, trivial⟩ (fun t => (show SimC G__law_near [.pool, .v (eI t.1), .jk, .jk, .jk, .jk, .jk, .jk, .jk, .jk, .jk] (MtP [.pool, .top]) (OF true (eL eI) [.pool, .top]) _ _ (f__law_near t.1) from (sc_seq (sc_asg (se_call t__law_draw (sr_ref 0 (by exact trivial) (sr_cons (sv_c (ea := eI) (x := 6) rfl) sr_nil)) (fun _ => (by exact ⟨⟨.inl rfl, rfl, trivial⟩, ⟨.inl rfl, trivial⟩, nd1⟩))) (ag_nm 2 rfl (by exact trivial)) (eP (by exact ⟨rfl, trivial, SubP.nil⟩))) (fun kind' => (sc_seq (sc_asg (se_bin os_add (sv_c (ea := eI) (x := 1) rfl) (se_call t__law_draw (sr_ref 0 (by exact trivial) (sr_cons (sv_c (ea := eI) (x := 4) rfl) sr_nil)) (fun _ => (by exact ⟨⟨.inl rfl, rfl, trivial⟩, ⟨.inl rfl, trivial⟩, nd1⟩)))) (ag_nm 3 rfl (by exact trivial)) (eP (by exact ⟨rfl, trivial, SubP.nil⟩))) (fun dense' => (sc_seq (sc_asg (se_lc (vs := [10]) (si_rng1 (sv_var 1 rfl)) ⟨trivial, trivial⟩ (ag_nm 10 rfl (by exact trivial)) (fun _ => ⟨trivial, trivial⟩) (fun _ => rfl) (fun v' => st_yes) (fun v' => (se_call t__law_draw (sr_ref 0 (by exact trivial) (sr_cons (sv_c (ea := eI) (x := 3) rfl) sr_nil)) (fun _ => (by exact ⟨⟨.inl rfl, rfl, trivial⟩, ⟨.inl rfl, trivial⟩, nd1⟩))))) (ag_nm 4 rfl (by exact trivial)) (eP (by exact ⟨rfl, trivial, SubP.nil⟩))) (fun marks' => (sc_seq (sc_asg (se_call t__law_shuffled (sr_ref 0 (by exact trivial) (sr_cons (sv_var 1 rfl) sr_nil)) (fun _ => (by exact ⟨⟨.inl rfl, rfl, trivial⟩, ⟨.inl rfl, trivial⟩, nd1⟩))) (ag_nm 5 rfl (by exact trivial)) (eP (by exact ⟨rfl, trivial, SubP.nil⟩))) (fun place' => (sc_seq (sc_own 6 (se_bin os_mulLL (se_lst (sl_cons (sv_c (ea := eI) (x := 0) rfl) sl_nil)) (sv_var 1 rfl)) rfl trivial (eP (by exact ⟨rfl, trivial, SubP.nil⟩))) (fun near' => (sc_seq (sc_forS (Γo := fun (s1' : (List Int)) => [.pool, .v (eI t.1), .v (eI kind'), .v (eI dense'), .v ((eL eI) marks'), .v ((eL eI) place'), .o ((eL eI) s1'), .jk, .jk, .jk, .jk]) (si_rng1 (sv_var 1 rfl)) (eP (by exact ⟨rfl, trivial, SubP.nil⟩)) (by exact ⟨rfl, rfl, rfl, rfl, rfl, rfl, rfl, trivial, trivial, trivial, trivial, trivial⟩) (fun s1' => (ag_nm 7 rfl (by exact trivial))) (fun s1' a' => (sc_last (h := fun s2' => s2') (fun s2' => (by exact ⟨rfl, rfl, rfl, rfl, rfl, rfl, rfl, trivial, trivial, trivial, trivial, trivial⟩)) (sc_forS (Γo := fun (s2' : (List Int)) => [.pool, .v (eI t.1), .v (eI kind'), .v (eI dense'), .v ((eL eI) marks'), .v ((eL eI) place'), .o ((eL eI) s2'), .v (eI a'), .jk, .jk, .jk]) (si_rng2 (se_bin os_add (sv_var 7 rfl) (sv_c (ea := eI) (x := 1) rfl)) (sv_var 1 rfl)) (eP (by exact ⟨rfl, trivial, SubP.nil⟩)) (by exact ⟨rfl, rfl, rfl, rfl, rfl, rfl, rfl, rfl, trivial, trivial, trivial, trivial⟩) (fun s2' => (ag_nm 8 rfl (by exact trivial))) (fun s2' b' => (sc_seq (sc_asg (se_bin (os_eq ((dat_I).eq (by decide))) (se_call t__law_draw (sr_ref 0 (by exact trivial) (sr_cons (sv_var 3 rfl) sr_nil)) (fun _ => (by exact ⟨⟨.inl rfl, rfl, trivial⟩, ⟨.inl rfl, trivial⟩, nd1⟩))) (sv_c (ea := eI) (x := 0) rfl)) (ag_nm 9 rfl (by exact trivial)) (eP (by exact ⟨rfl, trivial, SubP.nil⟩))) (fun joined' => (sc_seq (sc_cut (Γo := fun (s3' : Bool) => [.pool, .v (eI t.1), .v (eI kind'), .v (eI dense'), .v ((eL eI) marks'), .v ((eL eI) place'), .o ((eL eI) s2'), .v (eI a'), .v (eI b'), .v (eB s3'), .jk]) (sc_if (st_T (se_bin (os_eq ((dat_I).eq (by decide))) (sv_var 2 rfl) (sv_c (ea := eI) (x := 0) rfl))) (eP (by exact ⟨rfl, trivial, SubP.nil⟩)) (sc_last (h := fun (joined' : Bool) => joined') (fun joined' => (by exact ⟨rfl, rfl, rfl, rfl, rfl, rfl, rfl, rfl, rfl, rfl, trivial, trivial⟩)) (sc_asg (se_not (sv_var 9 rfl)) (ag_nm 9 rfl (by exact trivial)) (eP (by exact ⟨rfl, trivial, SubP.nil⟩)))) (sc_nx (s := joined') (by exact ⟨rfl, rfl, rfl, rfl, rfl, rfl, rfl, rfl, rfl, rfl, trivial, trivial⟩)))) (fun s3' => (sc_seq (sc_cut (Γo := fun (s4' : Bool) => [.pool, .v (eI t.1), .v (eI kind'), .v (eI dense'), .v ((eL eI) marks'), .v ((eL eI) place'), .o ((eL eI) s2'), .v (eI a'), .v (eI b'), .v (eB s4'), .jk]) (sc_if (st_T (se_bin (os_eq ((dat_I).eq (by decide))) (sv_var 2 rfl) (sv_c (ea := eI) (x := 1) rfl))) (eP (by exact ⟨rfl, trivial, SubP.nil⟩)) (sc_last (h := fun (joined' : Bool) => joined') (fun joined' => (by exact ⟨rfl, rfl, rfl, rfl, rfl, rfl, rfl, rfl, rfl, rfl, trivial, trivial⟩)) (sc_asg (se_and (sv_var 9 rfl) (se_bin (os_ne ((dat_I).eq (by decide))) (se_bin os_idxL (sv_var 4 rfl) (sv_var 7 rfl)) (se_bin os_idxL (sv_var 4 rfl) (sv_var 8 rfl)))) (ag_nm 9 rfl (by exact trivial)) (eP (by exact ⟨rfl, trivial, SubP.nil⟩)))) (sc_nx (s := s3') (by exact ⟨rfl, rfl, rfl, rfl, rfl, rfl, rfl, rfl, rfl, rfl, trivial, trivial⟩)))) (fun s4' => (sc_seq (sc_cut (Γo := fun (s5' : Bool) => [.pool, .v (eI t.1), .v (eI kind'), .v (eI dense'), .v ((eL eI) marks'), .v ((eL eI) place'), .o ((eL eI) s2'), .v (eI a'), .v (eI b'), .v (eB s5'), .jk]) (sc_if (st_T (se_bin (os_eq ((dat_I).eq (by decide))) (sv_var 2 rfl) (sv_c (ea := eI) (x := 2) rfl))) (eP (by exact ⟨rfl, trivial, SubP.nil⟩)) (sc_last (h := fun (joined' : Bool) => joined') (fun joined' => (by exact ⟨rfl, rfl, rfl, rfl, rfl, rfl, rfl, rfl, rfl, rfl, trivial, trivial⟩)) (sc_asg (se_and (sv_var 9 rfl) (se_bin (os_eq ((dat_I).eq (by decide))) (se_bin os_idxL (sv_var 4 rfl) (sv_var 7 rfl)) (se_bin os_idxL (sv_var 4 rfl) (sv_var 8 rfl)))) (ag_nm 9 rfl (by exact trivial)) (eP (by exact ⟨rfl, trivial, SubP.nil⟩)))) (sc_nx (s := s4') (by exact ⟨rfl, rfl, rfl, rfl, rfl, rfl, rfl, rfl, rfl, rfl, trivial, trivial⟩)))) (fun s5' => (sc_seq (sc_cut (Γo := fun (s6' : Bool) => [.pool, .v (eI t.1), .v (eI kind'), .v (eI dense'), .v ((eL eI) marks'), .v ((eL eI) place'), .o ((eL eI) s2'), .v (eI a'), .v (eI b'), .v (eB s6'), .jk]) (sc_if (st_T (se_bin (os_eq ((dat_I).eq (by decide))) (sv_var 2 rfl) (sv_c (ea := eI) (x := 3) rfl))) (eP (by exact ⟨rfl, trivial, SubP.nil⟩)) (sc_last (h := fun (joined' : Bool) => joined') (fun joined' => (by exact ⟨rfl, rfl, rfl, rfl, rfl, rfl, rfl, rfl, rfl, rfl, trivial, trivial⟩)) (sc_asg (se_or (se_bin (os_eq ((dat_I).eq (by decide))) (sv_var 8 rfl) (se_bin os_add (sv_var 7 rfl) (sv_c (ea := eI) (x := 1) rfl))) (se_or (se_and (se_bin (os_eq ((dat_I).eq (by decide))) (sv_var 7 rfl) (sv_c (ea := eI) (x := 0) rfl)) (se_bin (os_eq ((dat_I).eq (by decide))) (sv_var 8 rfl) (se_bin os_sub (sv_var 1 rfl) (sv_c (ea := eI) (x := 1) rfl)))) (se_and (se_bin (os_eq ((dat_I).eq (by decide))) (sv_var 3 rfl) (sv_c (ea := eI) (x := 3) rfl)) (sv_var 9 rfl)))) (ag_nm 9 rfl (by exact trivial)) (eP (by exact ⟨rfl, trivial, SubP.nil⟩)))) (sc_nx (s := s5') (by exact ⟨rfl, rfl, rfl, rfl, rfl, rfl, rfl, rfl, rfl, rfl, trivial, trivial⟩)))) (fun s6' => (sc_if (st_T (sv_var 9 rfl)) (eP (by exact ⟨rfl, trivial, SubP.nil⟩)) (sc_seq (sc_setI 6 (o := true) rfl (se_bin os_or (se_ixO 6 (.inl rfl) (se_bin os_idxL (sv_var 5 rfl) (sv_var 7 rfl))) (se_bin os_shl (sv_c (ea := eI) (x := 1) rfl) (se_bin os_idxL (sv_var 5 rfl) (sv_var 8 rfl)))) (se_bin os_idxL (sv_var 5 rfl) (sv_var 7 rfl)) (eP (by exact ⟨rfl, trivial, SubP.nil⟩))) (fun near' => (sc_last (h := fun (near' : (List Int)) => near') (fun near' => (by exact ⟨rfl, rfl, rfl, rfl, rfl, rfl, rfl, rfl, trivial, trivial, trivial, trivial⟩)) (sc_setI 6 (o := true) rfl (se_bin os_or (se_ixO 6 (.inl rfl) (se_bin os_idxL (sv_var 5 rfl) (sv_var 8 rfl))) (se_bin os_shl (sv_c (ea := eI) (x := 1) rfl) (se_bin os_idxL (sv_var 5 rfl) (sv_var 7 rfl)))) (se_bin os_idxL (sv_var 5 rfl) (sv_var 8 rfl)) (eP (by exact ⟨rfl, trivial, SubP.nil⟩)))))) (sc_nx (s := s2') (by exact ⟨rfl, rfl, rfl, rfl, rfl, rfl, rfl, rfl, trivial, trivial, trivial, trivial⟩)))))))))))))))))) (fun s1' => (sc_retO (ea := (eL eI)) (x := s1') 6 rfl (of_own (x := s1') (by exact ⟨rfl, trivial, SubP.nil⟩))))))))))))))))) fn_no
def f__law_coloring (graph' : Gr) (named' : Bool) : W PV := (W.bind (W.tryC ES "GraphError" true (W.bind (W.ret named') fun b => if b = true then (W.bind (W.bind (W.bind (W.ret ("answer" : Str)) fun a => W.bind (W.bind (W.bind (W.ret graph') fun a => W.bind (W.ret ()) fun b => W.ret (a, b)) (fun t => f_optimal_coloring t.1)) fun b => W.ret (a, b)) fun a => W.ret ((eP2 eS (eT eI)) a)) fun a => W.ret (St.ret a)) else (W.bind (W.bind (W.bind (W.ret ("answer" : Str)) fun a => W.bind (W.bind (W.bind (W.ret graph') fun a => W.bind (W.ret ()) fun b => W.ret (a, b)) (fun t => f_optimal_coloring t.1)) fun b => W.ret (a, b)) fun a => W.ret ((eP2 eS (eT eI)) a)) fun a => W.ret (St.ret a))) (tellW ES [("TooLarge", "TooLarge", "what")])) (W.cont (fun _ => (W.bind (W.ret ("another error" : Str)) fun a => W.ret ((eP1 eS) a))) fun v => W.ret v))
theorem t__law_coloring : FnW F__law_coloring (fun t : Gr × Bool × Unit => [.v (eG t.1), .v (eB t.2.1)]) [.top, .top] false eA (fun t => f__law_coloring t.1 t.2.1) :=
  fn_of (nN := 3) (n := 2) (G := G__law_coloring) (σ := Empty) (Γo := fun _ z => z.elim) (k := fun _ z => z.elim) rfl ⟨trivial, trivial, trivial⟩ (fun t => (show SimC G__law_coloring [.v (eG t.1), .v (eB t.2.1), .jk] (MtP [.top, .top]) (OF false eA [.top, .top]) _ _ (f__law_coloring t.1 t.2.1) from (sc_seq (sc_try (β := PV) (Γe := [.v (eG t.1), .v (eB t.2.1), .jk]) (Γo := fun (s1' : Unit) => [.v (eG t.1), .v (eB t.2.1), .jk]) (Ob := OF false eA [.top, .top]) (hh := fun v => v) (sc_ifx0 (st_T (sv_var 1 rfl)) (eM (by exact ⟨rfl, rfl, trivial, trivial⟩)) (sc_retT (sim_co (R' := eA) (eP2 eS (eT eI)) (fun _ => rfl) (se_tup2 (sv_c (ea := eS) (x := "answer") rfl) (se_callK t_optimal_coloring (sr_cons (sv_var 0 rfl) sr_nil) (fun _ => (by exact ⟨⟨rfl, trivial⟩, trivial, List.nodup_nil⟩)) (fun _ => rfl)))) (eM (by exact ⟨rfl, rfl, trivial, trivial⟩)) (by exact ⟨trivial, trivial, SubP.nil⟩)) (sc_retT (sim_co (R' := eA) (eP2 eS (eT eI)) (fun _ => rfl) (se_tup2 (sv_c (ea := eS) (x := "answer") rfl) (se_call t_optimal_coloring (sr_cons (sv_var 0 rfl) sr_nil) (fun _ => (by exact ⟨⟨rfl, trivial⟩, trivial, List.nodup_nil⟩))))) (eM (by exact ⟨rfl, rfl, trivial, trivial⟩)) (by exact ⟨trivial, trivial, SubP.nil⟩))) oF_id (eP (by exact ⟨trivial, trivial, SubP.nil⟩)) (fun e => sc_tell (i := 2) (by exact rfl) (by exact trivial) (by exact ⟨rfl, rfl, trivial, trivial⟩) (by exact ⟨trivial, trivial, SubP.nil⟩) (by exact rfl) _ e)) (fun s1' => (sc_ret (sim_co (R' := eA) (eP1 eS) (fun _ => rfl) (se_tup1 (sv_c (ea := eS) (x := "another error") rfl))) (eP (by exact ⟨trivial, trivial, SubP.nil⟩)) (by exact ⟨trivial, trivial, SubP.nil⟩)))))) fn_no
def f__law_fewest (near' : (List Int)) (free' : (List Bool)) : W (List Int) := (W.bind (W.bind (W.ret near') fun a => W.ret (a.length : Int)) fun size' => (W.bind (W.bind (W.bind (W.bind (W.ret (0 : Int)) fun a => W.bind (W.ret []) fun as => W.ret (a :: as)) fun as => W.req (as.length ≤ 1000) as) fun a => W.bind (W.bind (W.ret (1 : Int)) fun a => W.bind (W.ret size') fun b => W.req (cPow a b = true) (a * 2 ^ b.toNat)) fun b => W.req (-(2 ^ 63) ≤ b ∧ b < 2 ^ 63 ∧ a.length * b.toNat ≤ sizeLine) (List.replicate b.toNat a).flatten) fun fewest' => (W.bind (W.bind (W.ret (1 : Int)) fun i => W.bind (W.bind (W.ret (1 : Int)) fun a => W.bind (W.ret size') fun b => W.req (cPow a b = true) (a * 2 ^ b.toNat)) fun j => W.rng2 i j) fun xs => W.bind (W.forS (fun s1' mask' => (W.bind (W.bind (W.ret mask') fun a => W.bind (W.bind (W.ret mask') fun a => W.bind (W.ret (1 : Int)) fun b => W.ret (a - b)) fun b => W.ret (Builtin.bitAnd a b)) fun rest' => (W.bind (W.bind (W.bind (W.bind (W.ret mask') fun a => W.bind (W.bind (W.ret mask') fun a => W.ret (-a)) fun b => W.ret (Builtin.bitAnd a b)) fun a => W.ret ((Builtin.Int.intBits a : Nat) : Int)) fun a => W.bind (W.ret (1 : Int)) fun b => W.ret (a - b)) fun v' => (W.bind (W.bind (W.ret rest') fun a => W.bind (W.bind (W.bind (W.ret near') fun a => W.bind (W.ret v') fun b => W.opt (atI a b)) fun a => W.ret (Builtin.bitNot a)) fun b => W.ret (Builtin.bitAnd a b)) fun beside' => (W.bind (W.bind (W.ret (1 : Int)) fun a => W.bind (W.bind (W.ret rest') fun k => W.opt (atI s1' k)) fun b => W.ret (a + b)) fun best' => (W.bind (W.ret beside') fun part' => (W.bind (W.bind (W.bind (W.ret (1 : Int)) fun a => W.bind (W.ret size') fun b => W.req (cPow a b = true) (a * 2 ^ b.toNat)) W.rng1) fun xs => W.bind (W.forB (fun s2' k' => (W.bind (W.bind (W.ret s2'.2) fun a => W.bind (W.ret (0 : Int)) fun b => W.ret (decide (a = b))) fun b => if b = true then (W.ret (St.brk (s2'.1, s2'.2))) else (W.bind (W.bind (W.bind (W.bind (W.ret free') fun a => W.bind (W.ret s2'.2) fun b => W.opt (atI a b)) fun a => if a = true then (W.bind (W.bind (W.ret (1 : Int)) fun a => W.bind (W.bind (W.bind (W.ret rest') fun a => W.bind (W.ret s2'.2) fun b => W.ret (Builtin.bitXor a b)) fun k => W.opt (atI s1' k)) fun b => W.ret (a + b)) fun a => W.bind (W.ret s2'.1) fun b => W.ret (decide (a < b))) else W.ret false) fun b => if b = true then (W.bind (W.bind (W.ret (1 : Int)) fun a => W.bind (W.bind (W.bind (W.ret rest') fun a => W.bind (W.ret s2'.2) fun b => W.ret (Builtin.bitXor a b)) fun k => W.opt (atI s1' k)) fun b => W.ret (a + b)) fun best' => (W.ret best')) else (W.ret s2'.1)) fun s3' => (W.bind (W.bind (W.bind (W.ret s2'.2) fun a => W.bind (W.ret (1 : Int)) fun b => W.ret (a - b)) fun a => W.bind (W.ret beside') fun b => W.ret (Builtin.bitAnd a b)) fun part' => (W.ret (St.go (s3', part'))))))) xs (best', part')) (W.cont (fun s2' => (W.bind (W.bind (W.ret s2'.1) fun y => W.bind (W.ret mask') fun k => W.setI s1' k y) fun fewest' => (W.ret fewest'))) fun v => W.ret v)))))))) xs fewest') fun s1' => (W.ret s1'))))
theorem t__law_fewest : FnW F__law_fewest (fun t : (List Int) × (List Bool) × Unit => [.v ((eL eI) t.1), .v ((eL eB) t.2.1)]) [.top, .top] true (eL eI) (fun t => f__law_fewest t.1 t.2.1) :=
  fn_of (nN := 11) (n := 2) (G := G__law_fewest) (σ := Empty) (Γo := fun _ z => z.elim) (k := fun _ z => z.elim) rfl ⟨trivial, trivial, trivial⟩ (fun t => (show SimC G__law_fewest [.v ((eL eI) t.1), .v ((eL eB) t.2.1), .jk, .jk, .jk, .jk, .jk, .jk, .jk, .jk, .jk] (MtP [.top, .top]) (OF true (eL eI) [.top, .top]) _ _ (f__law_fewest t.1 t.2.1) from (sc_seq (sc_asg (se_b1 bs_lenL (sv_var 0 rfl)) (ag_nm 2 rfl (by exact trivial)) (eP (by exact ⟨trivial, trivial, SubP.nil⟩))) (fun size' => (sc_seq (sc_own 3 (se_bin os_mulLL (se_lst (sl_cons (sv_c (ea := eI) (x := 0) rfl) sl_nil)) (se_bin os_shl (sv_c (ea := eI) (x := 1) rfl) (sv_var 2 rfl))) rfl trivial (eP (by exact ⟨trivial, trivial, SubP.nil⟩))) (fun fewest' => (sc_seq (sc_forS (Γo := fun (s1' : (List Int)) => [.v ((eL eI) t.1), .v ((eL eB) t.2.1), .v (eI size'), .o ((eL eI) s1'), .jk, .jk, .jk, .jk, .jk, .jk, .jk]) (si_rng2 (sv_c (ea := eI) (x := 1) rfl) (se_bin os_shl (sv_c (ea := eI) (x := 1) rfl) (sv_var 2 rfl))) (eP (by exact ⟨trivial, trivial, SubP.nil⟩)) (by exact ⟨rfl, rfl, rfl, rfl, trivial, trivial, trivial, trivial, trivial, trivial, trivial, trivial⟩) (fun s1' => (ag_nm 4 rfl (by exact trivial))) (fun s1' mask' => (sc_seq (sc_asg (se_bin os_and (sv_var 4 rfl) (se_bin os_sub (sv_var 4 rfl) (sv_c (ea := eI) (x := 1) rfl))) (ag_nm 5 rfl (by exact trivial)) (eP (by exact ⟨trivial, trivial, SubP.nil⟩))) (fun rest' => (sc_seq (sc_asg (se_bin os_sub (se_un us_bits (se_bin os_and (sv_var 4 rfl) (se_un us_neg (sv_var 4 rfl)))) (sv_c (ea := eI) (x := 1) rfl)) (ag_nm 6 rfl (by exact trivial)) (eP (by exact ⟨trivial, trivial, SubP.nil⟩))) (fun v' => (sc_seq (sc_asg (se_bin os_and (sv_var 5 rfl) (se_un us_inv (se_bin os_idxL (sv_var 0 rfl) (sv_var 6 rfl)))) (ag_nm 7 rfl (by exact trivial)) (eP (by exact ⟨trivial, trivial, SubP.nil⟩))) (fun beside' => (sc_seq (sc_asg (se_bin os_add (sv_c (ea := eI) (x := 1) rfl) (se_ixO 3 (.inl rfl) (sv_var 5 rfl))) (ag_nm 8 rfl (by exact trivial)) (eP (by exact ⟨trivial, trivial, SubP.nil⟩))) (fun best' => (sc_seq (sc_asg (sv_var 7 rfl) (ag_nm 9 rfl (by exact trivial)) (eP (by exact ⟨trivial, trivial, SubP.nil⟩))) (fun part' => (sc_seq (sc_forB (β := (List Int)) (Γo := fun (s2' : Int × Int) => [.v ((eL eI) t.1), .v ((eL eB) t.2.1), .v (eI size'), .o ((eL eI) s1'), .v (eI mask'), .v (eI rest'), .v (eI v'), .v (eI beside'), .v (eI s2'.1), .v (eI s2'.2), .jk]) (Ob := ON) (h := fun v => v) (si_rng1 (se_bin os_shl (sv_c (ea := eI) (x := 1) rfl) (sv_var 2 rfl))) (eP (by exact ⟨trivial, trivial, SubP.nil⟩)) (by exact ⟨rfl, rfl, rfl, rfl, rfl, rfl, rfl, rfl, rfl, rfl, trivial, trivial⟩) (fun s2' => (ag_nm 10 rfl (by exact trivial))) oF_id (fun s2' k' => (sc_ifx0 (st_T (se_bin (os_eq ((dat_I).eq (by decide))) (sv_var 9 rfl) (sv_c (ea := eI) (x := 0) rfl))) (eP (by exact ⟨trivial, trivial, SubP.nil⟩)) (sc_bk (by exact ⟨rfl, rfl, rfl, rfl, rfl, rfl, rfl, rfl, rfl, rfl, trivial, trivial⟩)) (sc_seq (sc_cut (Γo := fun (s3' : Int) => [.v ((eL eI) t.1), .v ((eL eB) t.2.1), .v (eI size'), .o ((eL eI) s1'), .v (eI mask'), .v (eI rest'), .v (eI v'), .v (eI beside'), .v (eI s3'), .v (eI s2'.2), .v (eI k')]) (sc_if (st_and (st_T (se_bin os_idxL (sv_var 1 rfl) (sv_var 9 rfl))) (st_T (se_bin os_lt (se_bin os_add (sv_c (ea := eI) (x := 1) rfl) (se_ixO 3 (.inl rfl) (se_bin os_xor (sv_var 5 rfl) (sv_var 9 rfl)))) (sv_var 8 rfl)))) (eP (by exact ⟨trivial, trivial, SubP.nil⟩)) (sc_last (h := fun (best' : Int) => best') (fun best' => (by exact ⟨rfl, rfl, rfl, rfl, rfl, rfl, rfl, rfl, rfl, rfl, rfl, trivial⟩)) (sc_asg (se_bin os_add (sv_c (ea := eI) (x := 1) rfl) (se_ixO 3 (.inl rfl) (se_bin os_xor (sv_var 5 rfl) (sv_var 9 rfl)))) (ag_nm 8 rfl (by exact trivial)) (eP (by exact ⟨trivial, trivial, SubP.nil⟩)))) (sc_nx (s := s2'.1) (by exact ⟨rfl, rfl, rfl, rfl, rfl, rfl, rfl, rfl, rfl, rfl, rfl, trivial⟩)))) (fun s3' => (sc_last (h := fun (part' : Int) => (s3', part')) (fun part' => (by exact ⟨rfl, rfl, rfl, rfl, rfl, rfl, rfl, rfl, rfl, rfl, trivial, trivial⟩)) (sc_asg (se_bin os_and (se_bin os_sub (sv_var 9 rfl) (sv_c (ea := eI) (x := 1) rfl)) (sv_var 7 rfl)) (ag_nm 9 rfl (by exact trivial)) (eP (by exact ⟨trivial, trivial, SubP.nil⟩))))))))) (fun s2' => (sc_last (h := fun (fewest' : (List Int)) => fewest') (fun fewest' => (by exact ⟨rfl, rfl, rfl, rfl, trivial, trivial, trivial, trivial, trivial, trivial, trivial, trivial⟩)) (sc_setI 3 (o := true) rfl (sv_var 8 rfl) (sv_var 4 rfl) (eP (by exact ⟨trivial, trivial, SubP.nil⟩)))))))))))))))))) (fun s1' => (sc_retO (ea := (eL eI)) (x := s1') 3 rfl (of_own (x := s1') (by exact ⟨trivial, trivial, SubP.nil⟩))))))))))) fn_no
def f__law_fits (near' : (List Int)) (value' : PV) (fewest' : Int) : W Bool := (W.bind (W.bind (W.bind (W.bind (W.ret value') fun p => W.bind (W.opt (kindOf CS p)) fun k => W.ret (k.is (.t .tup))) fun a => W.ret (!a)) fun a => if a = true then W.ret true else (W.bind (W.bind (W.ret value') fun a => W.ex fun n => bLen [a] = some (.int n)) fun a => W.bind (W.bind (W.ret near') fun a => W.ret (a.length : Int)) fun b => W.ret (!decide (a = b)))) fun b => if b = true then (W.ret false) else (W.bind (W.ret (0 : Int)) fun count' => (W.bind (W.bind (W.bind (W.ret value') fun a => W.ex fun n => bLen [a] = some (.int n)) W.rng1) fun xs => W.bind (W.forB (fun s1' v' => (W.bind (W.bind (W.ret value') fun a => W.bind (W.ret v') fun b => W.opt (pIdx a (.int b))) fun color' => (W.bind (W.bind (W.bind (W.bind (W.ret color') fun p => W.bind (W.opt (kindOf CS p)) fun k => W.ret (k.is (.t .int))) fun a => W.ret (!a)) fun a => if a = true then W.ret true else (W.bind (W.bind (W.ret color') fun p => W.bind (W.opt (kindOf CS p)) fun k => W.ret (k.is (.t .bl))) fun a => if a = true then W.ret true else (W.bind (W.bind (W.bind (W.ret color') fun p => W.opt (pyI p)) fun a => W.bind (W.ret (0 : Int)) fun b => W.ret (decide (a < b))) fun a => if a = true then W.ret true else (W.bind (W.bind (W.ret color') fun p => W.opt (pyI p)) fun a => W.bind (W.ret s1') fun b => W.ret (decide (b < a)))))) fun b => if b = true then (W.bind (W.ret false) fun a => W.ret (St.ret a)) else (W.bind (W.bind (W.bind (W.ret color') fun a => W.bind (W.ret s1') fun b => W.opt (pEqB (eA a) (eI b))) fun b => if b = true then (W.bind (W.bind (W.ret s1') fun a => W.bind (W.ret (1 : Int)) fun b => W.ret (a + b)) fun count' => (W.ret count')) else (W.ret s1')) fun s2' => (W.bind (W.bind (W.ret v') W.rng1) fun xs => W.bind (W.forB (fun s3' w' => (W.bind (W.bind (W.bind (W.bind (W.bind (W.bind (W.ret near') fun a => W.bind (W.ret v') fun b => W.opt (atI a b)) fun a => W.bind (W.ret w') fun b => W.req (0 ≤ b) (a / 2 ^ b.toNat)) fun a => W.bind (W.ret (1 : Int)) fun b => W.ret (Builtin.bitAnd a b)) fun a => W.bind (W.ret (1 : Int)) fun b => W.ret (decide (a = b))) fun a => if a = true then (W.bind (W.bind (W.ret value') fun a => W.bind (W.ret w') fun b => W.opt (pIdx a (.int b))) fun a => W.bind (W.ret color') fun b => W.opt (pEqB (eA a) (eA b))) else W.ret false) fun b => if b = true then (W.bind (W.ret false) fun a => W.ret (St.ret a)) else (W.ret (St.go ())))) xs ()) (W.cont (fun _ => (W.ret (St.go s2'))) fun v => W.ret (St.ret v))))))) xs count') (W.cont (fun s1' => (W.bind (W.ret s1') fun a => W.bind (W.ret fewest') fun b => W.ret (decide (a = b)))) fun v => W.ret v))))
theorem t__law_fits : FnW F__law_fits (fun t : (List Int) × PV × Int × Unit => [.v ((eL eI) t.1), .v (eA t.2.1), .v (eI t.2.2.1)]) [.top, .top, .top] false eB (fun t => f__law_fits t.1 t.2.1 t.2.2.1) :=
  fn_of (nN := 7) (n := 3) (G := G__law_fits) (σ := Empty) (Γo := fun _ z => z.elim) (k := fun _ z => z.elim) rfl ⟨trivial, trivial, trivial, trivial⟩ (fun t => (show SimC G__law_fits [.v ((eL eI) t.1), .v (eA t.2.1), .v (eI t.2.2.1), .jk, .jk, .jk, .jk] (MtP [.top, .top, .top]) (OF false eB [.top, .top, .top]) _ _ (f__law_fits t.1 t.2.1 t.2.2.1) from (sc_ifx0 (st_or (st_not (st_T (se_un us_isi (sv_var 1 rfl)))) (st_T (se_bin (os_ne ((dat_I).eq (by decide))) (se_b1 bs_lenA (sv_var 1 rfl)) (se_b1 bs_lenL (sv_var 0 rfl))))) (eP (by exact ⟨trivial, trivial, trivial, SubP.nil⟩)) (sc_ret (sv_c (ea := eB) (x := false) rfl) (eP (by exact ⟨trivial, trivial, trivial, SubP.nil⟩)) (by exact ⟨trivial, trivial, trivial, SubP.nil⟩)) (sc_seq (sc_asg (sv_c (ea := eI) (x := 0) rfl) (ag_nm 3 rfl (by exact trivial)) (eP (by exact ⟨trivial, trivial, trivial, SubP.nil⟩))) (fun count' => (sc_seq (sc_forB (β := Bool) (Γo := fun (s1' : Int) => [.v ((eL eI) t.1), .v (eA t.2.1), .v (eI t.2.2.1), .v (eI s1'), .jk, .jk, .jk]) (Ob := OF false eB [.top, .top, .top]) (h := fun v => v) (si_rng1 (se_b1 bs_lenA (sv_var 1 rfl))) (eP (by exact ⟨trivial, trivial, trivial, SubP.nil⟩)) (by exact ⟨rfl, rfl, rfl, rfl, trivial, trivial, trivial, trivial⟩) (fun s1' => (ag_nm 4 rfl (by exact trivial))) oF_id (fun s1' v' => (sc_seq (sc_asg (se_bin os_idxA (sv_var 1 rfl) (sv_var 4 rfl)) (ag_nm 5 rfl (by exact trivial)) (eP (by exact ⟨trivial, trivial, trivial, SubP.nil⟩))) (fun color' => (sc_ifx0 (st_or (st_not (st_T (se_un us_isi (sv_var 5 rfl)))) (st_or (st_T (se_un us_isi (sv_var 5 rfl))) (st_or (st_T (se_bin os_lt (sim_cox (R' := eI) co_I (sv_var 5 rfl)) (sv_c (ea := eI) (x := 0) rfl))) (st_T (se_bin os_gt (sim_cox (R' := eI) co_I (sv_var 5 rfl)) (sv_var 3 rfl)))))) (eP (by exact ⟨trivial, trivial, trivial, SubP.nil⟩)) (sc_retL (sv_c (ea := eB) (x := false) rfl) (eP (by exact ⟨trivial, trivial, trivial, SubP.nil⟩)) (by exact ⟨trivial, trivial, trivial, SubP.nil⟩)) (sc_seq (sc_cut (Γo := fun (s2' : Int) => [.v ((eL eI) t.1), .v (eA t.2.1), .v (eI t.2.2.1), .v (eI s2'), .v (eI v'), .v (eA color'), .jk]) (sc_if (st_T (se_bin (os_eqA (ea := eA) (eb := eI)) (sv_var 5 rfl) (sv_var 3 rfl))) (eP (by exact ⟨trivial, trivial, trivial, SubP.nil⟩)) (sc_last (h := fun (count' : Int) => count') (fun count' => (by exact ⟨rfl, rfl, rfl, rfl, rfl, rfl, trivial, trivial⟩)) (sc_asg (se_bin os_add (sv_var 3 rfl) (sv_c (ea := eI) (x := 1) rfl)) (ag_nm 3 rfl (by exact trivial)) (eP (by exact ⟨trivial, trivial, trivial, SubP.nil⟩)))) (sc_nx (s := s1') (by exact ⟨rfl, rfl, rfl, rfl, rfl, rfl, trivial, trivial⟩)))) (fun s2' => (sc_last (h := fun s3' => s2') (fun s3' => (by exact ⟨rfl, rfl, rfl, rfl, trivial, trivial, trivial, trivial⟩)) (sc_forB (β := Bool) (Γo := fun (s3' : Unit) => [.v ((eL eI) t.1), .v (eA t.2.1), .v (eI t.2.2.1), .v (eI s2'), .v (eI v'), .v (eA color'), .jk]) (Ob := OF false eB [.top, .top, .top]) (h := fun v => St.ret v) (si_rng1 (sv_var 4 rfl)) (eP (by exact ⟨trivial, trivial, trivial, SubP.nil⟩)) (by exact ⟨rfl, rfl, rfl, rfl, rfl, rfl, trivial, trivial⟩) (fun s3' => (ag_nm 6 rfl (by exact trivial))) oF_ret (fun s3' w' => (sc_if (st_and (st_T (se_bin (os_eq ((dat_I).eq (by decide))) (se_bin os_and (se_bin os_shr (se_bin os_idxL (sv_var 0 rfl) (sv_var 4 rfl)) (sv_var 6 rfl)) (sv_c (ea := eI) (x := 1) rfl)) (sv_c (ea := eI) (x := 1) rfl))) (st_T (se_bin (os_eqA (ea := eA) (eb := eA)) (se_bin os_idxA (sv_var 1 rfl) (sv_var 6 rfl)) (sv_var 5 rfl)))) (eP (by exact ⟨trivial, trivial, trivial, SubP.nil⟩)) (sc_retL (sv_c (ea := eB) (x := false) rfl) (eP (by exact ⟨trivial, trivial, trivial, SubP.nil⟩)) (by exact ⟨trivial, trivial, trivial, SubP.nil⟩)) (sc_nx (s := ()) (by exact ⟨rfl, rfl, rfl, rfl, rfl, rfl, trivial, trivial⟩))))))))))))) (fun s1' => (sc_ret (se_bin (os_eq ((dat_I).eq (by decide))) (sv_var 3 rfl) (sv_var 2 rfl)) (eP (by exact ⟨trivial, trivial, trivial, SubP.nil⟩)) (by exact ⟨trivial, trivial, trivial, SubP.nil⟩))))))))) fn_no
def f__law_free (near' : (List Int)) (joined' : Bool) : W (List Bool) := (W.bind (W.bind (W.ret near') fun a => W.ret (a.length : Int)) fun size' => (W.bind (W.bind (W.bind (W.ret (1 : Int)) fun a => W.bind (W.ret size') fun b => W.req (cPow a b = true) (a * 2 ^ b.toNat)) fun a => W.bind (W.ret (1 : Int)) fun b => W.ret (a - b)) fun whole' => (W.bind (W.bind (W.bind (W.bind (W.ret true) fun a => W.bind (W.ret []) fun as => W.ret (a :: as)) fun as => W.req (as.length ≤ 1000) as) fun a => W.bind (W.bind (W.ret (1 : Int)) fun a => W.bind (W.ret size') fun b => W.req (cPow a b = true) (a * 2 ^ b.toNat)) fun b => W.req (-(2 ^ 63) ≤ b ∧ b < 2 ^ 63 ∧ a.length * b.toNat ≤ sizeLine) (List.replicate b.toNat a).flatten) fun free' => (W.bind (W.bind (W.ret (1 : Int)) fun i => W.bind (W.bind (W.ret (1 : Int)) fun a => W.bind (W.ret size') fun b => W.req (cPow a b = true) (a * 2 ^ b.toNat)) fun j => W.rng2 i j) fun xs => W.bind (W.forS (fun s1' mask' => (W.bind (W.bind (W.ret mask') fun a => W.bind (W.bind (W.ret mask') fun a => W.bind (W.ret (1 : Int)) fun b => W.ret (a - b)) fun b => W.ret (Builtin.bitAnd a b)) fun rest' => (W.bind (W.bind (W.bind (W.bind (W.ret mask') fun a => W.bind (W.bind (W.ret mask') fun a => W.ret (-a)) fun b => W.ret (Builtin.bitAnd a b)) fun a => W.ret ((Builtin.Int.intBits a : Nat) : Int)) fun a => W.bind (W.ret (1 : Int)) fun b => W.ret (a - b)) fun v' => (W.bind (W.bind (W.ret near') fun a => W.bind (W.ret v') fun b => W.opt (atI a b)) fun beside' => (W.bind (W.bind (W.bind (W.ret joined') fun a => W.ret (!a)) fun b => if b = true then (W.bind (W.bind (W.ret whole') fun a => W.bind (W.bind (W.bind (W.ret near') fun a => W.bind (W.ret v') fun b => W.opt (atI a b)) fun a => W.ret (Builtin.bitNot a)) fun b => W.ret (Builtin.bitAnd a b)) fun beside' => (W.ret beside')) else (W.ret beside')) fun s2' => (W.bind (W.bind (W.bind (W.bind (W.ret rest') fun k => W.opt (atI s1' k)) fun a => if a = true then (W.bind (W.bind (W.ret s2') fun a => W.bind (W.ret rest') fun b => W.ret (Builtin.bitAnd a b)) fun a => W.bind (W.ret rest') fun b => W.ret (decide (a = b))) else W.ret false) fun y => W.bind (W.ret mask') fun k => W.setI s1' k y) fun free' => (W.ret free'))))))) xs free') fun s1' => (W.ret s1')))))
theorem t__law_free : FnW F__law_free (fun t : (List Int) × Bool × Unit => [.v ((eL eI) t.1), .v (eB t.2.1)]) [.top, .top] true (eL eB) (fun t => f__law_free t.1 t.2.1) :=
  fn_of (nN := 9) (n := 2) (G := G__law_free) (σ := Empty) (Γo := fun _ z => z.elim) (k := fun _ z => z.elim) rfl ⟨trivial, trivial, trivial⟩ (fun t => (show SimC G__law_free [.v ((eL eI) t.1), .v (eB t.2.1), .jk, .jk, .jk, .jk, .jk, .jk, .jk] (MtP [.top, .top]) (OF true (eL eB) [.top, .top]) _ _ (f__law_free t.1 t.2.1) from (sc_seq (sc_asg (se_b1 bs_lenL (sv_var 0 rfl)) (ag_nm 2 rfl (by exact trivial)) (eP (by exact ⟨trivial, trivial, SubP.nil⟩))) (fun size' => (sc_seq (sc_asg (se_bin os_sub (se_bin os_shl (sv_c (ea := eI) (x := 1) rfl) (sv_var 2 rfl)) (sv_c (ea := eI) (x := 1) rfl)) (ag_nm 3 rfl (by exact trivial)) (eP (by exact ⟨trivial, trivial, SubP.nil⟩))) (fun whole' => (sc_seq (sc_own 4 (se_bin os_mulLL (se_lst (sl_cons (sv_c (ea := eB) (x := true) rfl) sl_nil)) (se_bin os_shl (sv_c (ea := eI) (x := 1) rfl) (sv_var 2 rfl))) rfl trivial (eP (by exact ⟨trivial, trivial, SubP.nil⟩))) (fun free' => (sc_seq (sc_forS (Γo := fun (s1' : (List Bool)) => [.v ((eL eI) t.1), .v (eB t.2.1), .v (eI size'), .v (eI whole'), .o ((eL eB) s1'), .jk, .jk, .jk, .jk]) (si_rng2 (sv_c (ea := eI) (x := 1) rfl) (se_bin os_shl (sv_c (ea := eI) (x := 1) rfl) (sv_var 2 rfl))) (eP (by exact ⟨trivial, trivial, SubP.nil⟩)) (by exact ⟨rfl, rfl, rfl, rfl, rfl, trivial, trivial, trivial, trivial, trivial⟩) (fun s1' => (ag_nm 5 rfl (by exact trivial))) (fun s1' mask' => (sc_seq (sc_asg (se_bin os_and (sv_var 5 rfl) (se_bin os_sub (sv_var 5 rfl) (sv_c (ea := eI) (x := 1) rfl))) (ag_nm 6 rfl (by exact trivial)) (eP (by exact ⟨trivial, trivial, SubP.nil⟩))) (fun rest' => (sc_seq (sc_asg (se_bin os_sub (se_un us_bits (se_bin os_and (sv_var 5 rfl) (se_un us_neg (sv_var 5 rfl)))) (sv_c (ea := eI) (x := 1) rfl)) (ag_nm 7 rfl (by exact trivial)) (eP (by exact ⟨trivial, trivial, SubP.nil⟩))) (fun v' => (sc_seq (sc_asg (se_bin os_idxL (sv_var 0 rfl) (sv_var 7 rfl)) (ag_nm 8 rfl (by exact trivial)) (eP (by exact ⟨trivial, trivial, SubP.nil⟩))) (fun beside' => (sc_seq (sc_cut (Γo := fun (s2' : Int) => [.v ((eL eI) t.1), .v (eB t.2.1), .v (eI size'), .v (eI whole'), .o ((eL eB) s1'), .v (eI mask'), .v (eI rest'), .v (eI v'), .v (eI s2')]) (sc_if (st_not (st_T (sv_var 1 rfl))) (eP (by exact ⟨trivial, trivial, SubP.nil⟩)) (sc_last (h := fun (beside' : Int) => beside') (fun beside' => (by exact ⟨rfl, rfl, rfl, rfl, rfl, rfl, rfl, rfl, rfl, trivial⟩)) (sc_asg (se_bin os_and (sv_var 3 rfl) (se_un us_inv (se_bin os_idxL (sv_var 0 rfl) (sv_var 7 rfl)))) (ag_nm 8 rfl (by exact trivial)) (eP (by exact ⟨trivial, trivial, SubP.nil⟩)))) (sc_nx (s := beside') (by exact ⟨rfl, rfl, rfl, rfl, rfl, rfl, rfl, rfl, rfl, trivial⟩)))) (fun s2' => (sc_last (h := fun (free' : (List Bool)) => free') (fun free' => (by exact ⟨rfl, rfl, rfl, rfl, rfl, trivial, trivial, trivial, trivial, trivial⟩)) (sc_setI 4 (o := true) rfl (se_and (se_ixO 4 (.inl rfl) (sv_var 6 rfl)) (se_bin (os_eq ((dat_I).eq (by decide))) (se_bin os_and (sv_var 8 rfl) (sv_var 6 rfl)) (sv_var 6 rfl))) (sv_var 5 rfl) (eP (by exact ⟨trivial, trivial, SubP.nil⟩)))))))))))))) (fun s1' => (sc_retO (ea := (eL eB)) (x := s1') 4 rfl (of_own (x := s1') (by exact ⟨trivial, trivial, SubP.nil⟩))))))))))))) fn_no
def f__law_number (graph' : Gr) (named' : Bool) : W PV := (W.bind (W.tryC ES "GraphError" true (W.bind (W.ret named') fun b => if b = true then (W.bind (W.bind (W.bind (W.ret ("answer" : Str)) fun a => W.bind (W.bind (W.bind (W.ret graph') fun a => W.bind (W.ret ()) fun b => W.ret (a, b)) (fun t => f_chromatic_number t.1)) fun b => W.ret (a, b)) fun a => W.ret ((eP2 eS eI) a)) fun a => W.ret (St.ret a)) else (W.bind (W.bind (W.bind (W.ret ("answer" : Str)) fun a => W.bind (W.bind (W.bind (W.ret graph') fun a => W.bind (W.ret ()) fun b => W.ret (a, b)) (fun t => f_chromatic_number t.1)) fun b => W.ret (a, b)) fun a => W.ret ((eP2 eS eI) a)) fun a => W.ret (St.ret a))) (tellW ES [("TooLarge", "TooLarge", "what")])) (W.cont (fun _ => (W.bind (W.ret ("another error" : Str)) fun a => W.ret ((eP1 eS) a))) fun v => W.ret v))
theorem t__law_number : FnW F__law_number (fun t : Gr × Bool × Unit => [.v (eG t.1), .v (eB t.2.1)]) [.top, .top] false eA (fun t => f__law_number t.1 t.2.1) :=
  fn_of (nN := 3) (n := 2) (G := G__law_number) (σ := Empty) (Γo := fun _ z => z.elim) (k := fun _ z => z.elim) rfl ⟨trivial, trivial, trivial⟩ (fun t => (show SimC G__law_number [.v (eG t.1), .v (eB t.2.1), .jk] (MtP [.top, .top]) (OF false eA [.top, .top]) _ _ (f__law_number t.1 t.2.1) from (sc_seq (sc_try (β := PV) (Γe := [.v (eG t.1), .v (eB t.2.1), .jk]) (Γo := fun (s1' : Unit) => [.v (eG t.1), .v (eB t.2.1), .jk]) (Ob := OF false eA [.top, .top]) (hh := fun v => v) (sc_ifx0 (st_T (sv_var 1 rfl)) (eM (by exact ⟨rfl, rfl, trivial, trivial⟩)) (sc_retT (sim_co (R' := eA) (eP2 eS eI) (fun _ => rfl) (se_tup2 (sv_c (ea := eS) (x := "answer") rfl) (se_callK t_chromatic_number (sr_cons (sv_var 0 rfl) sr_nil) (fun _ => (by exact ⟨⟨rfl, trivial⟩, trivial, List.nodup_nil⟩)) (fun _ => rfl)))) (eM (by exact ⟨rfl, rfl, trivial, trivial⟩)) (by exact ⟨trivial, trivial, SubP.nil⟩)) (sc_retT (sim_co (R' := eA) (eP2 eS eI) (fun _ => rfl) (se_tup2 (sv_c (ea := eS) (x := "answer") rfl) (se_call t_chromatic_number (sr_cons (sv_var 0 rfl) sr_nil) (fun _ => (by exact ⟨⟨rfl, trivial⟩, trivial, List.nodup_nil⟩))))) (eM (by exact ⟨rfl, rfl, trivial, trivial⟩)) (by exact ⟨trivial, trivial, SubP.nil⟩))) oF_id (eP (by exact ⟨trivial, trivial, SubP.nil⟩)) (fun e => sc_tell (i := 2) (by exact rfl) (by exact trivial) (by exact ⟨rfl, rfl, trivial, trivial⟩) (by exact ⟨trivial, trivial, SubP.nil⟩) (by exact rfl) _ e)) (fun s1' => (sc_ret (sim_co (R' := eA) (eP1 eS) (fun _ => rfl) (se_tup1 (sv_c (ea := eS) (x := "another error") rfl))) (eP (by exact ⟨trivial, trivial, SubP.nil⟩)) (by exact ⟨trivial, trivial, SubP.nil⟩)))))) fn_no
def f__law_right (near' : (List Int)) (graph' : Gr) (named' : Bool) : W Bool := (W.bind (W.bind (W.bind (W.ret graph') fun a => W.bind (W.bind (W.ret named') fun a => W.bind (W.ret ()) fun b => W.ret (a, b)) fun b => W.ret (a, b)) (fun t => f__law_number t.1 t.2.1)) fun told' => (W.bind (W.bind (W.bind (W.ret graph') fun a => W.bind (W.bind (W.bind (W.ret named') fun a => W.ret (!a)) fun a => W.bind (W.ret ()) fun b => W.ret (a, b)) fun b => W.ret (a, b)) (fun t => f__law_coloring t.1 t.2.1)) fun found' => (W.bind (W.bind (W.bind (W.ret near') fun a => W.ret (a.length : Int)) fun a => W.bind (W.ret (8 : Int)) fun b => W.ret (decide (b < a))) fun b => if b = true then (W.bind (W.bind (W.ret ("TooLarge" : Str)) fun a => W.bind (W.ret ("vertices" : Str)) fun b => W.ret (a, b)) fun due' => (W.bind (W.bind (W.bind (W.ret told') fun a => W.bind (W.bind (W.bind (W.ret due') fun a => W.ret ((eP2 eS eS) a)) fun a => W.bind (W.ret ()) fun b => W.ret (a, b)) fun b => W.ret (a, b)) (fun t => f__law_alike 12 t.1 t.2.1)) fun a => if a = true then (W.bind (W.bind (W.ret found') fun a => W.bind (W.bind (W.bind (W.ret due') fun a => W.ret ((eP2 eS eS) a)) fun a => W.bind (W.ret ()) fun b => W.ret (a, b)) fun b => W.ret (a, b)) (fun t => f__law_alike 12 t.1 t.2.1)) else W.ret false)) else (W.bind (W.bind (W.bind (W.bind (W.ret near') fun a => W.bind (W.bind (W.bind (W.bind (W.ret near') fun a => W.bind (W.bind (W.ret false) fun a => W.bind (W.ret ()) fun b => W.ret (a, b)) fun b => W.ret (a, b)) (fun t => f__law_free t.1 t.2.1)) fun a => W.bind (W.ret ()) fun b => W.ret (a, b)) fun b => W.ret (a, b)) (fun t => f__law_fewest t.1 t.2.1)) fun a => W.bind (W.bind (W.ret (1 : Int)) fun a => W.ret (-a)) fun b => W.opt (atI a b)) fun fewest' => (W.bind (W.bind (W.bind (W.bind (W.bind (W.ret told') fun a => W.bind (W.bind (W.bind (W.bind (W.ret ("answer" : Str)) fun a => W.bind (W.ret fewest') fun b => W.ret (a, b)) fun a => W.ret ((eP2 eS eI) a)) fun a => W.bind (W.ret ()) fun b => W.ret (a, b)) fun b => W.ret (a, b)) (fun t => f__law_alike 12 t.1 t.2.1)) fun a => W.ret (!a)) fun a => if a = true then W.ret true else (W.bind (W.bind (W.ret found') fun a => W.bind (W.ret (0 : Int)) fun b => W.opt (pIdx a (.int b))) fun a => W.bind (W.ret ("answer" : Str)) fun b => W.bind (W.opt (pEqB (eA a) (eS b))) fun c => W.ret (!c))) fun b => if b = true then (W.ret false) else (W.bind (W.bind (W.bind (W.bind (W.ret near') fun a => W.bind (W.bind (W.bind (W.ret found') fun a => W.bind (W.ret (1 : Int)) fun b => W.opt (pIdx a (.int b))) fun a => W.bind (W.bind (W.ret fewest') fun a => W.bind (W.ret ()) fun b => W.ret (a, b)) fun b => W.ret (a, b)) fun b => W.ret (a, b)) (fun t => f__law_fits t.1 t.2.1 t.2.2.1)) fun a => W.ret (!a)) fun b => if b = true then (W.ret false) else (W.bind (W.bind (W.bind (W.bind (W.bind (W.ret graph') fun a => W.bind (W.bind (W.ret named') fun a => W.bind (W.ret ()) fun b => W.ret (a, b)) fun b => W.ret (a, b)) (fun t => f__law_coloring t.1 t.2.1)) fun a => W.bind (W.bind (W.ret found') fun a => W.bind (W.ret ()) fun b => W.ret (a, b)) fun b => W.ret (a, b)) (fun t => f__law_alike 12 t.1 t.2.1)) fun a => if a = true then (W.bind (W.bind (W.bind (W.bind (W.ret graph') fun a => W.bind (W.bind (W.bind (W.ret named') fun a => W.ret (!a)) fun a => W.bind (W.ret ()) fun b => W.ret (a, b)) fun b => W.ret (a, b)) (fun t => f__law_number t.1 t.2.1)) fun a => W.bind (W.bind (W.ret told') fun a => W.bind (W.ret ()) fun b => W.ret (a, b)) fun b => W.ret (a, b)) (fun t => f__law_alike 12 t.1 t.2.1)) else W.ret false)))))))
theorem t__law_right : FnW F__law_right (fun t : (List Int) × Gr × Bool × Unit => [.v ((eL eI) t.1), .v (eG t.2.1), .v (eB t.2.2.1)]) [.top, .top, .top] false eB (fun t => f__law_right t.1 t.2.1 t.2.2.1) :=
  fn_of (nN := 7) (n := 3) (G := G__law_right) (σ := Empty) (Γo := fun _ z => z.elim) (k := fun _ z => z.elim) rfl ⟨trivial, trivial, trivial, trivial⟩ (fun t => (show SimC G__law_right [.v ((eL eI) t.1), .v (eG t.2.1), .v (eB t.2.2.1), .jk, .jk, .jk, .jk] (MtP [.top, .top, .top]) (OF false eB [.top, .top, .top]) _ _ (f__law_right t.1 t.2.1 t.2.2.1) from (sc_seq (sc_asg (se_call t__law_number (sr_cons (sv_var 1 rfl) (sr_cons (sv_var 2 rfl) sr_nil)) (fun _ => (by exact ⟨⟨rfl, rfl, trivial⟩, trivial, List.nodup_nil⟩))) (ag_nm 3 rfl (by exact trivial)) (eP (by exact ⟨trivial, trivial, trivial, SubP.nil⟩))) (fun told' => (sc_seq (sc_asg (se_call t__law_coloring (sr_cons (sv_var 1 rfl) (sr_cons (se_not (sv_var 2 rfl)) sr_nil)) (fun _ => (by exact ⟨⟨rfl, rfl, trivial⟩, trivial, List.nodup_nil⟩))) (ag_nm 4 rfl (by exact trivial)) (eP (by exact ⟨trivial, trivial, trivial, SubP.nil⟩))) (fun found' => (sc_ifx0 (st_T (se_bin os_gt (se_b1 bs_lenL (sv_var 0 rfl)) (sv_c (ea := eI) (x := 8) rfl))) (eP (by exact ⟨trivial, trivial, trivial, SubP.nil⟩)) (sc_seq (sc_asg (se_tup2 (sv_c (ea := eS) (x := "TooLarge") rfl) (sv_c (ea := eS) (x := "vertices") rfl)) (ag_nm 5 rfl (by exact trivial)) (eP (by exact ⟨trivial, trivial, trivial, SubP.nil⟩))) (fun due' => (sc_ret (se_and (se_call (t__law_alike 12) (sr_cons (sv_var 3 rfl) (sr_cons (sim_co (R' := eA) (eP2 eS eS) (fun _ => rfl) (sv_var 5 rfl)) sr_nil)) (fun _ => (by exact ⟨⟨rfl, rfl, trivial⟩, trivial, List.nodup_nil⟩))) (se_call (t__law_alike 12) (sr_cons (sv_var 4 rfl) (sr_cons (sim_co (R' := eA) (eP2 eS eS) (fun _ => rfl) (sv_var 5 rfl)) sr_nil)) (fun _ => (by exact ⟨⟨rfl, rfl, trivial⟩, trivial, List.nodup_nil⟩)))) (eP (by exact ⟨trivial, trivial, trivial, SubP.nil⟩)) (by exact ⟨trivial, trivial, trivial, SubP.nil⟩)))) (sc_seq (sc_asg (se_bin os_idxL (se_call t__law_fewest (sr_cons (sv_var 0 rfl) (sr_cons (se_call t__law_free (sr_cons (sv_var 0 rfl) (sr_cons (sv_c (ea := eB) (x := false) rfl) sr_nil)) (fun _ => (by exact ⟨⟨rfl, rfl, trivial⟩, trivial, List.nodup_nil⟩))) sr_nil)) (fun _ => (by exact ⟨⟨rfl, rfl, trivial⟩, trivial, List.nodup_nil⟩))) (se_un us_neg (sv_c (ea := eI) (x := 1) rfl))) (ag_nm 6 rfl (by exact trivial)) (eP (by exact ⟨trivial, trivial, trivial, SubP.nil⟩))) (fun fewest' => (sc_ifx0 (st_or (st_not (st_T (se_call (t__law_alike 12) (sr_cons (sv_var 3 rfl) (sr_cons (sim_co (R' := eA) (eP2 eS eI) (fun _ => rfl) (se_tup2 (sv_c (ea := eS) (x := "answer") rfl) (sv_var 6 rfl))) sr_nil)) (fun _ => (by exact ⟨⟨rfl, rfl, trivial⟩, trivial, List.nodup_nil⟩))))) (st_T (se_bin (os_neA (ea := eA) (eb := eS)) (se_bin os_idxA (sv_var 4 rfl) (sv_c (ea := eI) (x := 0) rfl)) (sv_c (ea := eS) (x := "answer") rfl)))) (eP (by exact ⟨trivial, trivial, trivial, SubP.nil⟩)) (sc_ret (sv_c (ea := eB) (x := false) rfl) (eP (by exact ⟨trivial, trivial, trivial, SubP.nil⟩)) (by exact ⟨trivial, trivial, trivial, SubP.nil⟩)) (sc_ifx0 (st_not (st_T (se_call t__law_fits (sr_cons (sv_var 0 rfl) (sr_cons (se_bin os_idxA (sv_var 4 rfl) (sv_c (ea := eI) (x := 1) rfl)) (sr_cons (sv_var 6 rfl) sr_nil))) (fun _ => (by exact ⟨⟨rfl, rfl, rfl, trivial⟩, trivial, List.nodup_nil⟩))))) (eP (by exact ⟨trivial, trivial, trivial, SubP.nil⟩)) (sc_ret (sv_c (ea := eB) (x := false) rfl) (eP (by exact ⟨trivial, trivial, trivial, SubP.nil⟩)) (by exact ⟨trivial, trivial, trivial, SubP.nil⟩)) (sc_ret (se_and (se_call (t__law_alike 12) (sr_cons (se_call t__law_coloring (sr_cons (sv_var 1 rfl) (sr_cons (sv_var 2 rfl) sr_nil)) (fun _ => (by exact ⟨⟨rfl, rfl, trivial⟩, trivial, List.nodup_nil⟩))) (sr_cons (sv_var 4 rfl) sr_nil)) (fun _ => (by exact ⟨⟨rfl, rfl, trivial⟩, trivial, List.nodup_nil⟩))) (se_call (t__law_alike 12) (sr_cons (se_call t__law_number (sr_cons (sv_var 1 rfl) (sr_cons (se_not (sv_var 2 rfl)) sr_nil)) (fun _ => (by exact ⟨⟨rfl, rfl, trivial⟩, trivial, List.nodup_nil⟩))) (sr_cons (sv_var 3 rfl) sr_nil)) (fun _ => (by exact ⟨⟨rfl, rfl, trivial⟩, trivial, List.nodup_nil⟩)))) (eP (by exact ⟨trivial, trivial, trivial, SubP.nil⟩)) (by exact ⟨trivial, trivial, trivial, SubP.nil⟩))))))))))))) fn_no
def f__law_size  : W Int := (W.bind (W.bind (W.bind (W.ret (12 : Int)) fun a => W.bind (W.ret ()) fun b => W.ret (a, b)) (fun t => f__law_draw t.1)) fun kind' => (W.bind (W.bind (W.ret kind') fun a => W.bind (W.ret (0 : Int)) fun b => W.ret (decide (a = b))) fun b => if b = true then (W.bind (W.ret (9 : Int)) fun a => W.bind (W.bind (W.bind (W.ret (16 : Int)) fun a => W.bind (W.ret ()) fun b => W.ret (a, b)) (fun t => f__law_draw t.1)) fun b => W.ret (a + b)) else (W.bind (W.bind (W.ret kind') fun a => W.bind (W.ret (1 : Int)) fun b => W.ret (decide (a = b))) fun b => if b = true then (W.bind (W.ret (7 : Int)) fun a => W.bind (W.bind (W.bind (W.ret (2 : Int)) fun a => W.bind (W.ret ()) fun b => W.ret (a, b)) (fun t => f__law_draw t.1)) fun b => W.ret (a + b)) else (W.bind (W.bind (W.ret kind') fun a => W.bind (W.ret (5 : Int)) fun b => W.ret (decide (a < b))) fun b => if b = true then (W.bind (W.ret (1 : Int)) fun a => W.bind (W.bind (W.bind (W.ret (4 : Int)) fun a => W.bind (W.ret ()) fun b => W.ret (a, b)) (fun t => f__law_draw t.1)) fun b => W.ret (a + b)) else (W.bind (W.ret (5 : Int)) fun a => W.bind (W.bind (W.bind (W.ret (2 : Int)) fun a => W.bind (W.ret ()) fun b => W.ret (a, b)) (fun t => f__law_draw t.1)) fun b => W.ret (a + b))))))
theorem t__law_size : FnW F__law_size (fun t : Unit => [.pool]) [.pool] false eI (fun t => f__law_size ) :=
  fn_of (nN := 2) (n := 1) (G := G__law_size) (σ := Empty) (Γo := fun _ z => z.elim) (k := fun _ z => z.elim) rfl ⟨trivial, trivial⟩ (fun t => (show SimC G__law_size [.pool, .jk] (MtP [.pool]) (OF false eI [.pool]) _ _ (f__law_size ) from (sc_seq (sc_asg (se_call t__law_draw (sr_ref 0 (by exact trivial) (sr_cons (sv_c (ea := eI) (x := 12) rfl) sr_nil)) (fun _ => (by exact ⟨⟨.inl rfl, rfl, trivial⟩, ⟨.inl rfl, trivial⟩, nd1⟩))) (ag_nm 1 rfl (by exact trivial)) (eP (by exact ⟨rfl, SubP.nil⟩))) (fun kind' => (sc_ifx0 (st_T (se_bin (os_eq ((dat_I).eq (by decide))) (sv_var 1 rfl) (sv_c (ea := eI) (x := 0) rfl))) (eP (by exact ⟨rfl, SubP.nil⟩)) (sc_ret (se_bin os_add (sv_c (ea := eI) (x := 9) rfl) (se_call t__law_draw (sr_ref 0 (by exact trivial) (sr_cons (sv_c (ea := eI) (x := 16) rfl) sr_nil)) (fun _ => (by exact ⟨⟨.inl rfl, rfl, trivial⟩, ⟨.inl rfl, trivial⟩, nd1⟩)))) (eP (by exact ⟨rfl, SubP.nil⟩)) (by exact ⟨rfl, SubP.nil⟩)) (sc_ifx0 (st_T (se_bin (os_eq ((dat_I).eq (by decide))) (sv_var 1 rfl) (sv_c (ea := eI) (x := 1) rfl))) (eP (by exact ⟨rfl, SubP.nil⟩)) (sc_ret (se_bin os_add (sv_c (ea := eI) (x := 7) rfl) (se_call t__law_draw (sr_ref 0 (by exact trivial) (sr_cons (sv_c (ea := eI) (x := 2) rfl) sr_nil)) (fun _ => (by exact ⟨⟨.inl rfl, rfl, trivial⟩, ⟨.inl rfl, trivial⟩, nd1⟩)))) (eP (by exact ⟨rfl, SubP.nil⟩)) (by exact ⟨rfl, SubP.nil⟩)) (sc_ifx0 (st_T (se_bin os_lt (sv_var 1 rfl) (sv_c (ea := eI) (x := 5) rfl))) (eP (by exact ⟨rfl, SubP.nil⟩)) (sc_ret (se_bin os_add (sv_c (ea := eI) (x := 1) rfl) (se_call t__law_draw (sr_ref 0 (by exact trivial) (sr_cons (sv_c (ea := eI) (x := 4) rfl) sr_nil)) (fun _ => (by exact ⟨⟨.inl rfl, rfl, trivial⟩, ⟨.inl rfl, trivial⟩, nd1⟩)))) (eP (by exact ⟨rfl, SubP.nil⟩)) (by exact ⟨rfl, SubP.nil⟩)) (sc_ret (se_bin os_add (sv_c (ea := eI) (x := 5) rfl) (se_call t__law_draw (sr_ref 0 (by exact trivial) (sr_cons (sv_c (ea := eI) (x := 2) rfl) sr_nil)) (fun _ => (by exact ⟨⟨.inl rfl, rfl, trivial⟩, ⟨.inl rfl, trivial⟩, nd1⟩)))) (eP (by exact ⟨rfl, SubP.nil⟩)) (by exact ⟨rfl, SubP.nil⟩))))))))) fn_no
def f__law_asked (script' : (List Int)) : W Bool := (W.bind (W.req (script'.length ≤ 63) ()) fun _ => (W.bind (W.bind (W.bind (W.bind (W.ret ()) (fun _ => f__law_size)) fun a => W.bind (W.ret ()) fun b => W.ret (a, b)) (fun t => f__law_near t.1)) fun near' => (W.bind (W.bind (W.bind (W.bind (W.ret (1 : Int)) fun a => W.bind (W.bind (W.bind (W.ret (5 : Int)) fun a => W.bind (W.ret ()) fun b => W.ret (a, b)) (fun t => f__law_draw t.1)) fun b => W.ret (a + b)) fun a => W.bind (W.ret ()) fun b => W.ret (a, b)) (fun t => f__law_near t.1)) fun other' => (W.bind (W.bind (W.bind (W.ret near') fun a => W.ret (a.length : Int)) fun n => W.bind (W.bind (W.bind (W.ret near') fun a => W.bind (W.ret ()) fun b => W.ret (a, b)) (fun t => f__law_edges t.1)) fun qs => W.graph n qs) fun graph' => (W.bind (W.bind (W.bind (W.ret other') fun a => W.ret (a.length : Int)) fun n => W.bind (W.bind (W.bind (W.bind (W.ret other') fun a => W.bind (W.ret ()) fun b => W.ret (a, b)) (fun t => f__law_edges t.1)) fun a => W.ret a) fun qs => W.graph n qs) fun beside' => (W.bind (W.bind (W.bind (W.bind (W.ret (2 : Int)) fun a => W.bind (W.ret ()) fun b => W.ret (a, b)) (fun t => f__law_draw t.1)) fun a => W.bind (W.ret (1 : Int)) fun b => W.ret (decide (a = b))) fun named' => (W.bind (W.bind (W.bind (W.bind (W.bind (W.ret near') fun a => W.bind (W.bind (W.ret graph') fun a => W.bind (W.bind (W.ret named') fun a => W.bind (W.ret ()) fun b => W.ret (a, b)) fun b => W.ret (a, b)) fun b => W.ret (a, b)) (fun t => f__law_right t.1 t.2.1 t.2.2.1)) fun a => W.ret (!a)) fun a => if a = true then W.ret true else (W.bind (W.bind (W.bind (W.ret other') fun a => W.bind (W.bind (W.ret beside') fun a => W.bind (W.bind (W.ret named') fun a => W.bind (W.ret ()) fun b => W.ret (a, b)) fun b => W.ret (a, b)) fun b => W.ret (a, b)) (fun t => f__law_right t.1 t.2.1 t.2.2.1)) fun a => W.ret (!a))) fun b => if b = true then (W.ret false) else (W.bind (W.bind (W.bind (W.bind (W.ret near') fun a => W.bind (W.bind (W.ret graph') fun a => W.bind (W.bind (W.bind (W.ret named') fun a => W.ret (!a)) fun a => W.bind (W.ret ()) fun b => W.ret (a, b)) fun b => W.ret (a, b)) fun b => W.ret (a, b)) (fun t => f__law_right t.1 t.2.1 t.2.2.1)) fun a => W.ret (!a)) fun b => if b = true then (W.ret false) else (W.bind (W.bind (W.bind (W.bind (W.bind (W.ret graph') fun g => W.ret (gr_size g)) fun a => W.bind (W.bind (W.ret graph') fun g => W.ret (gr_edges g)) fun b => W.ret (a, b)) fun a => W.ret ((eP2 eI (eT (eP2 eI eI))) a)) fun a => W.bind (W.bind (W.bind (W.bind (W.bind (W.ret near') fun a => W.ret (a.length : Int)) fun a => W.bind (W.bind (W.bind (W.ret near') fun a => W.bind (W.ret ()) fun b => W.ret (a, b)) (fun t => f__law_edges t.1)) fun b => W.ret (a, b)) fun a => W.ret ((eP2 eI (eT (eP2 eI eI))) a)) fun a => W.bind (W.ret ()) fun b => W.ret (a, b)) fun b => W.ret (a, b)) (fun t => f__law_alike 12 t.1 t.2.1))))))))))
theorem t__law_asked : FnW F__law_asked (fun t : (List Int) × Unit => [.v ((eC eI) t.1)]) [.top] false eB (fun t => f__law_asked t.1) :=
  fn_of (nN := 7) (n := 1) (G := G__law_asked) (σ := Empty) (Γo := fun _ z => z.elim) (k := fun _ z => z.elim) rfl ⟨trivial, trivial⟩ (fun t => (show SimC G__law_asked [.v ((eC eI) t.1), .jk, .jk, .jk, .jk, .jk, .jk] (MtP [.top]) (OF false eB [.top]) _ _ (f__law_asked t.1) from (sc_seq (sc_pool 1 rfl rfl trivial) (fun _ => (sc_seq (sc_asg (se_call t__law_near (sr_ref 1 (by exact trivial) (sr_cons (se_call t__law_size (sr_ref 1 (by exact trivial) sr_nil) (fun _ => (by exact ⟨⟨.inr rfl, trivial⟩, ⟨.inr rfl, trivial⟩, nd1⟩))) sr_nil)) (fun _ => (by exact ⟨⟨.inr rfl, rfl, trivial⟩, ⟨.inr rfl, trivial⟩, nd1⟩))) (ag_nm 2 rfl (by exact trivial)) (eP (by exact ⟨trivial, SubP.nil⟩))) (fun near' => (sc_seq (sc_asg (se_call t__law_near (sr_ref 1 (by exact trivial) (sr_cons (se_bin os_add (sv_c (ea := eI) (x := 1) rfl) (se_call t__law_draw (sr_ref 1 (by exact trivial) (sr_cons (sv_c (ea := eI) (x := 5) rfl) sr_nil)) (fun _ => (by exact ⟨⟨.inr rfl, rfl, trivial⟩, ⟨.inr rfl, trivial⟩, nd1⟩)))) sr_nil)) (fun _ => (by exact ⟨⟨.inr rfl, rfl, trivial⟩, ⟨.inr rfl, trivial⟩, nd1⟩))) (ag_nm 3 rfl (by exact trivial)) (eP (by exact ⟨trivial, SubP.nil⟩))) (fun other' => (sc_seq (sc_asg (se_graphT (se_b1 bs_lenL (sv_var 2 rfl)) (se_call t__law_edges (sr_cons (sv_var 2 rfl) sr_nil) (fun _ => (by exact ⟨⟨rfl, trivial⟩, trivial, List.nodup_nil⟩)))) (ag_nm 4 rfl (by exact trivial)) (eP (by exact ⟨trivial, SubP.nil⟩))) (fun graph' => (sc_seq (sc_asg (se_graphL (se_b1 bs_lenL (sv_var 3 rfl)) (se_b1 bs_listT (se_call t__law_edges (sr_cons (sv_var 3 rfl) sr_nil) (fun _ => (by exact ⟨⟨rfl, trivial⟩, trivial, List.nodup_nil⟩))))) (ag_nm 5 rfl (by exact trivial)) (eP (by exact ⟨trivial, SubP.nil⟩))) (fun beside' => (sc_seq (sc_asg (se_bin (os_eq ((dat_I).eq (by decide))) (se_call t__law_draw (sr_ref 1 (by exact trivial) (sr_cons (sv_c (ea := eI) (x := 2) rfl) sr_nil)) (fun _ => (by exact ⟨⟨.inr rfl, rfl, trivial⟩, ⟨.inr rfl, trivial⟩, nd1⟩))) (sv_c (ea := eI) (x := 1) rfl)) (ag_nm 6 rfl (by exact trivial)) (eP (by exact ⟨trivial, SubP.nil⟩))) (fun named' => (sc_ifx0 (st_or (st_not (st_T (se_call t__law_right (sr_cons (sv_var 2 rfl) (sr_cons (sv_var 4 rfl) (sr_cons (sv_var 6 rfl) sr_nil))) (fun _ => (by exact ⟨⟨rfl, rfl, rfl, trivial⟩, trivial, List.nodup_nil⟩))))) (st_not (st_T (se_call t__law_right (sr_cons (sv_var 3 rfl) (sr_cons (sv_var 5 rfl) (sr_cons (sv_var 6 rfl) sr_nil))) (fun _ => (by exact ⟨⟨rfl, rfl, rfl, trivial⟩, trivial, List.nodup_nil⟩)))))) (eP (by exact ⟨trivial, SubP.nil⟩)) (sc_ret (sv_c (ea := eB) (x := false) rfl) (eP (by exact ⟨trivial, SubP.nil⟩)) (by exact ⟨trivial, SubP.nil⟩)) (sc_ifx0 (st_not (st_T (se_call t__law_right (sr_cons (sv_var 2 rfl) (sr_cons (sv_var 4 rfl) (sr_cons (se_not (sv_var 6 rfl)) sr_nil))) (fun _ => (by exact ⟨⟨rfl, rfl, rfl, trivial⟩, trivial, List.nodup_nil⟩))))) (eP (by exact ⟨trivial, SubP.nil⟩)) (sc_ret (sv_c (ea := eB) (x := false) rfl) (eP (by exact ⟨trivial, SubP.nil⟩)) (by exact ⟨trivial, SubP.nil⟩)) (sc_ret (se_call (t__law_alike 12) (sr_cons (sim_co (R' := eA) (eP2 eI (eT (eP2 eI eI))) (fun _ => rfl) (se_tup2 (se_un us_gr_size (sv_var 4 rfl)) (se_un us_gr_edges (sv_var 4 rfl)))) (sr_cons (sim_co (R' := eA) (eP2 eI (eT (eP2 eI eI))) (fun _ => rfl) (se_tup2 (se_b1 bs_lenL (sv_var 2 rfl)) (se_call t__law_edges (sr_cons (sv_var 2 rfl) sr_nil) (fun _ => (by exact ⟨⟨rfl, trivial⟩, trivial, List.nodup_nil⟩))))) sr_nil)) (fun _ => (by exact ⟨⟨rfl, rfl, trivial⟩, trivial, List.nodup_nil⟩))) (eP (by exact ⟨trivial, SubP.nil⟩)) (by exact ⟨trivial, SubP.nil⟩)))))))))))))))))) fn_no
end Ev
namespace Ev
open PySem PySem.Spec PyProof.Rows L2
theorem at_last : ∀ {xs : List Int} {v : Int}, xs.getLast? = some v → atI xs (-1) = some v := fun {xs v} h => by
  have hne : xs ≠ [] := fun z => by rw [z] at h; cases h
  have hl : 0 < xs.length := List.length_pos_iff.mpr hne
  have : atI xs (-1) = xs[xs.length - 1]? := by
    unfold atI ixN
    rw [if_neg (by omega), if_pos (by omega)]
    show xs[(_ : Int).toNat]? = _
    congr 1
    omega
  rw [this, ← List.getLast?_eq_getElem?]
  exact h
end Ev
namespace Ev
open PySem PySem.Spec PyProof.Rows L2
end Ev
namespace Ev
open PySem PySem.Spec PyProof.Rows L2
theorem nbr_mem {ps : List (Int × Int)} {i j : Int} : j ∈ nbr ps i ↔ (i, j) ∈ ps ∨ (j, i) ∈ ps := by
  unfold nbr
  rw [List.mem_flatMap]
  constructor
  · rintro ⟨⟨a, b⟩, hq, h⟩
    rcases List.mem_append.mp h with h | h
    · by_cases e : a = i
      · rw [if_pos e] at h
        have h2 := List.mem_singleton.mp h
        dsimp only at e h2
        rw [h2, ← e]
        exact .inl hq
      · rw [if_neg e] at h
        cases h
    · by_cases e : b = i
      · rw [if_pos e] at h
        have h2 := List.mem_singleton.mp h
        dsimp only at e h2
        rw [h2, ← e]
        exact .inr hq
      · rw [if_neg e] at h
        cases h
  · rintro (h | h)
    · exact ⟨_, h, List.mem_append_left _ (by rw [if_pos rfl]; exact List.mem_singleton.mpr rfl)⟩
    · exact ⟨_, h, List.mem_append_right _ (by rw [if_pos rfl]; exact List.mem_singleton.mpr rfl)⟩
end Ev
namespace Ev
open PySem PySem.Spec PyProof.Rows L2
theorem nbr_asc {n : Nat} {qs : List (Int × Int)} (g : GoodE n qs) (i : Int) : (nbr qs i).Pairwise (· < ·) := by
  unfold nbr
  rw [List.pairwise_flatMap]
  have mem : ∀ (q : Int × Int) (x : Int), x ∈ (if q.1 = i then [q.2] else []) ++ (if q.2 = i then [q.1] else []) → (q.1 = i ∧ x = q.2) ∨ (q.2 = i ∧ x = q.1) := fun q x h => by
    rcases List.mem_append.mp h with h | h
    · by_cases e : q.1 = i
      · rw [if_pos e] at h; exact .inl ⟨e, List.mem_singleton.mp h⟩
      · rw [if_neg e] at h; cases h
    · by_cases e : q.2 = i
      · rw [if_pos e] at h; exact .inr ⟨e, List.mem_singleton.mp h⟩
      · rw [if_neg e] at h; cases h
  refine ⟨fun q hq => ?_, g.s.imp_of_mem fun {p q} hp hq h x hx y hy => ?_⟩
  · have := g.b q hq
    by_cases e : q.1 = i
    · rw [if_pos e, if_neg (by omega)]; exact List.pairwise_singleton _ _
    · rw [if_neg e, List.nil_append]
      split
      · exact List.pairwise_singleton _ _
      · exact List.Pairwise.nil
  · have h1 := g.b p hp
    have h2 := g.b q hq
    rcases mem p x hx with ⟨a, rfl⟩ | ⟨a, rfl⟩ <;> rcases mem q y hy with ⟨b, rfl⟩ | ⟨b, rfl⟩ <;> omega
theorem nbr_lt {n : Nat} {qs : List (Int × Int)} (g : GoodE n qs) {i x : Int} (h : x ∈ nbr qs i) : 0 ≤ x ∧ x < n ∧ 0 ≤ i ∧ i < n ∧ x ≠ i := by
  rcases nbr_mem.mp h with h | h
  · have := g.b _ h; dsimp only at this; omega
  · have := g.b _ h; dsimp only at this; omega
theorem rows_at {g : Gr} {v : Int} (h0 : 0 ≤ v) (h1 : v < g.n) : atI (gr_rows g) v = some (nbr g.qs v) := by
  refine atI_some h0 ?_
  unfold gr_rows
  rw [List.getElem?_map, List.getElem?_range (by omega)]
  show some (nbr g.qs ((v.toNat : Nat) : Int)) = _
  rw [Int.toNat_of_nonneg h0]
theorem neighbors_ok {g : Gr} {v : Int} (h0 : 0 ≤ v) (h1 : v < g.n) : f_Graph_neighbors g (.int v) = W.ret (nbr g.qs v) := by
  unfold f_Graph_neighbors
  simp only [W.ret_bind, W.bind_bind, W.req_T, List.length_cons, List.length_nil, Nat.reduceAdd, Nat.reduceLeDiff, W.opt_some, W.no_ret, W.no_bind, W.no_opt, W.no_req, W.no_no, W.ite_ret, W.cont_go, W.cont_ret, W.cont_brk, if_true, if_false, Bool.false_eq_true, Bool.not_true, Bool.not_false, pyI_int, pyB_bl, py2_tup, gsz, kind_non, kind_bl, kind_int, kind_str, kind_tup, kind_lst, is_tt, is_tc, is_ct, cc_G, Bool.or_false, Bool.or_true, Bool.and_true, Bool.and_false, Bool.true_and, Bool.false_and, Bool.true_or, Bool.false_or, tg_non_non, tg_non_bl, tg_non_int, tg_non_str, tg_non_tup, tg_non_lst, tg_bl_non, tg_bl_bl, tg_bl_int, tg_bl_str, tg_bl_tup, tg_bl_lst, tg_int_non, tg_int_bl, tg_int_int, tg_int_str, tg_int_tup, tg_int_lst, tg_str_non, tg_str_bl, tg_str_int, tg_str_str, tg_str_tup, tg_str_lst, tg_tup_non, tg_tup_bl, tg_tup_int, tg_tup_str, tg_tup_tup, tg_tup_lst, tg_lst_non, tg_lst_bl, tg_lst_int, tg_lst_str, tg_lst_tup, tg_lst_lst, between_I, decide_eq_true (show 0 ≤ v ∧ v ≤ (g.n : Int) - 1 by omega), rows_at h0 h1]
end Ev
namespace Ev
open PySem PySem.Spec PyProof.Rows
theorem b_and (a b : Nat) : Builtin.bitAnd (a : Int) (b : Int) = ((a &&& b : Nat) : Int) := by
  rw [bitAnd_pp (Int.natCast_nonneg a) (Int.natCast_nonneg b), Int.toNat_natCast, Int.toNat_natCast]
theorem b_not (a : Nat) : ¬ 0 ≤ Builtin.bitNot (a : Int) := by unfold Builtin.bitNot; omega
theorem b_nn (a : Int) : Builtin.bitNot (Builtin.bitNot a) = a := by unfold Builtin.bitNot; omega
theorem b_or (a b : Nat) : Builtin.bitOr (a : Int) (b : Int) = ((a ||| b : Nat) : Int) := by
  unfold Builtin.bitOr
  rw [bitAnd_nn (b_not a) (b_not b), b_nn, b_nn, b_nn, Int.toNat_natCast, Int.toNat_natCast]
theorem b_m1 (a b : Nat) : Builtin.bitAnd ((a : Int) / 2 ^ b) 1 = if a.testBit b = true then 1 else 0 := by
  rw [bitAnd_m1, Nat.testBit_eq_decide_div_mod_eq]
  have e : ((a : Int) / 2 ^ b) % 2 = ((a / 2 ^ b % 2 : Nat) : Int) := by
    rw [Int.natCast_emod, Int.natCast_ediv, Int.natCast_pow]
    rfl
  rw [e]
  rcases Nat.mod_two_eq_zero_or_one (a / 2 ^ b) with h | h <;> rw [h] <;> rfl
theorem b_low : ∀ m : Fin 256, m.val ≠ 0 → Builtin.bitAnd (m.val : Int) ((m.val : Int) - 1) = ((m.val &&& (m.val - 1) : Nat) : Int) ∧ 0 ≤ ((Builtin.Int.intBits (Builtin.bitAnd (m.val : Int) (-(m.val : Int))) : Nat) : Int) - 1 ∧ (((Builtin.Int.intBits (Builtin.bitAnd (m.val : Int) (-(m.val : Int))) : Nat) : Int) - 1).toNat < 8 ∧
    m.val.testBit (((Builtin.Int.intBits (Builtin.bitAnd (m.val : Int) (-(m.val : Int))) : Nat) : Int) - 1).toNat = true ∧ (m.val &&& (m.val - 1)) = m.val - 2 ^ (((Builtin.Int.intBits (Builtin.bitAnd (m.val : Int) (-(m.val : Int))) : Nat) : Int) - 1).toNat := by decide +kernel
/-- the lowest bit -/
theorem low_bit {m : Nat} (h : m < 256) (h0 : m ≠ 0) : ∃ v : Nat, v < 8 ∧ m.testBit v = true ∧ Builtin.bitAnd (m : Int) ((m : Int) - 1) = ((m - 2 ^ v : Nat) : Int) ∧ ((Builtin.Int.intBits (Builtin.bitAnd (m : Int) (-(m : Int))) : Nat) : Int) - 1 = (v : Int) := by
  obtain ⟨h1, h2, h3, h4, h5⟩ := b_low ⟨m, h⟩ h0
  refine ⟨_, h3, h4, ?_, (Int.toNat_of_nonneg h2).symm⟩
  rw [← h5]
  exact h1
theorem b_high : ∀ m : Fin 256, m.val ≠ 0 → 0 ≤ ((Builtin.Int.intBits (m.val : Int) : Nat) : Int) - 1 ∧ (((Builtin.Int.intBits (m.val : Int) : Nat) : Int) - 1).toNat < 8 ∧
    m.val.testBit (((Builtin.Int.intBits (m.val : Int) : Nat) : Int) - 1).toNat = true ∧ Builtin.bitXor (m.val : Int) (2 ^ (((Builtin.Int.intBits (m.val : Int) : Nat) : Int) - 1).toNat) = ((m.val - 2 ^ (((Builtin.Int.intBits (m.val : Int) : Nat) : Int) - 1).toNat : Nat) : Int) := by decide +kernel
/-- the highest bit -/
theorem high_bit {m : Nat} (h : m < 256) (h0 : m ≠ 0) : ∃ v : Nat, v < 8 ∧ m.testBit v = true ∧ Builtin.bitXor (m : Int) (2 ^ v) = ((m - 2 ^ v : Nat) : Int) ∧ ((Builtin.Int.intBits (m : Int) : Nat) : Int) - 1 = (v : Int) := by
  obtain ⟨h1, h2, h3, h4⟩ := b_high ⟨m, h⟩ h0
  exact ⟨_, h2, h3, h4, (Int.toNat_of_nonneg h1).symm⟩
theorem bit_lt {m v k : Nat} (h : m < 2 ^ k) (hb : m.testBit v = true) : v < k := by
  refine Nat.lt_of_not_le fun hk => ?_
  have := Nat.testBit_lt_two_pow (Nat.lt_of_lt_of_le h (Nat.pow_le_pow_right (by decide) hk))
  rw [this] at hb
  cases hb
theorem bit_le {m v : Nat} (hb : m.testBit v = true) : 2 ^ v ≤ m := by
  refine Nat.le_of_not_lt fun h => ?_
  rw [Nat.testBit_lt_two_pow h] at hb
  cases hb
theorem b_rest : ∀ m : Fin 256, ∀ v : Fin 8, m.val.testBit v.val = true → ∀ j : Fin 8, (m.val - 2 ^ v.val).testBit j.val = (m.val.testBit j.val && decide (j ≠ v)) := by decide +kernel
theorem rest_bit {m v : Nat} (h : m < 256) (hb : m.testBit v = true) (j : Nat) : (m - 2 ^ v).testBit j = (m.testBit j && decide (j ≠ v)) := by
  have hv : v < 8 := bit_lt (k := 8) h hb
  by_cases hj : j < 8
  · have := b_rest ⟨m, h⟩ ⟨v, hv⟩ hb ⟨j, hj⟩
    simpa [Fin.ext_iff] using this
  · have e1 : m.testBit j = false := Nat.testBit_lt_two_pow (Nat.lt_of_lt_of_le (show m < 2 ^ 8 from h) (Nat.pow_le_pow_right (by decide) (by omega)))
    have e2 : (m - 2 ^ v).testBit j = false := Nat.testBit_lt_two_pow (Nat.lt_of_lt_of_le (show m - 2 ^ v < 2 ^ 8 from Nat.lt_of_le_of_lt (Nat.sub_le _ _) h) (Nat.pow_le_pow_right (by decide) (by omega)))
    rw [e1, e2]
    rfl
theorem b_add : ∀ m : Fin 256, ∀ v : Fin 8, m.val.testBit v.val = false → m.val + 2 ^ v.val < 256 ∧ ∀ j : Fin 8, (m.val + 2 ^ v.val).testBit j.val = (m.val.testBit j.val || decide (j = v)) := by decide +kernel
theorem add_bit {m v : Nat} (h : m < 256) (hv : v < 8) (hb : m.testBit v = false) : m + 2 ^ v < 256 ∧ ∀ j, (m + 2 ^ v).testBit j = (m.testBit j || decide (j = v)) := by
  obtain ⟨h1, h2⟩ := b_add ⟨m, h⟩ ⟨v, hv⟩ hb
  refine ⟨h1, fun j => ?_⟩
  by_cases hj : j < 8
  · have := h2 ⟨j, hj⟩
    simpa [Fin.ext_iff] using this
  · have e1 : m.testBit j = false := Nat.testBit_lt_two_pow (Nat.lt_of_lt_of_le (show m < 2 ^ 8 from h) (Nat.pow_le_pow_right (by decide) (by omega)))
    have e2 : (m + 2 ^ v).testBit j = false := Nat.testBit_lt_two_pow (Nat.lt_of_lt_of_le (show m + 2 ^ v < 2 ^ 8 from h1) (Nat.pow_le_pow_right (by decide) (by omega)))
    rw [e1, e2, decide_eq_false (by omega)]
    rfl
/-- how many bits -/
def pc (m : Nat) : Nat := (List.range 8).countP m.testBit
theorem pc_rest {m v : Nat} (h : m < 256) (hb : m.testBit v = true) : pc m = pc (m - 2 ^ v) + 1 := by
  have : ∀ m : Fin 256, ∀ v : Fin 8, m.val.testBit v.val = true → pc m.val = pc (m.val - 2 ^ v.val) + 1 := by decide +kernel
  exact this ⟨m, h⟩ ⟨v, bit_lt (k := 8) h hb⟩ hb
def Sb (c m : Nat) : Prop := ∀ j, c.testBit j = true → m.testBit j = true
theorem Sb.refl (m : Nat) : Sb m m := fun _ h => h
theorem Sb.trans {a b c : Nat} (h : Sb a b) (h' : Sb b c) : Sb a c := fun j hj => h' j (h j hj)
theorem Sb.pcle {c m : Nat} (h : Sb c m) : pc c ≤ pc m := List.countP_mono_left fun j _ hj => h j hj
theorem Sb.lt {c m : Nat} (h : Sb c m) (hm : m < 256) : c < 256 := by
  refine Nat.lt_of_not_le fun hc => ?_
  obtain ⟨j, hj, hb⟩ := Nat.exists_ge_and_testBit_of_ge_two_pow (show c ≥ 2 ^ 8 from hc)
  have := bit_lt (k := 8) hm (h j hb)
  omega
theorem sb_rest {m v : Nat} (h : m < 256) (hb : m.testBit v = true) : Sb (m - 2 ^ v) m := fun j hj => by
  rw [rest_bit h hb, Bool.and_eq_true] at hj
  exact hj.1
theorem Sb.rest {c m v : Nat} (hm : m < 256) (hb : m.testBit v = true) (s : Sb c m) (hc : c.testBit v = false) : Sb c (m - 2 ^ v) := fun j hj => by
  rw [rest_bit hm hb, s j hj, Bool.true_and, decide_eq_true_eq]
  intro z
  rw [z, hc] at hj
  cases hj
theorem Sb.eq {c m : Nat} (hm : m < 256) (s : Sb c m) (h : pc m ≤ pc c) : c = m := by
  refine Nat.eq_of_testBit_eq fun j => ?_
  cases hj : m.testBit j with
  | false =>
    cases hc : c.testBit j with
    | false => rfl
    | true => rw [s j hc] at hj; cases hj
  | true =>
    cases hc : c.testBit j with
    | true => rfl
    | false =>
      have := (s.rest hm hj hc).pcle
      have := pc_rest hm hj
      omega
def Cl (A : Nat → Nat → Bool) (m : Nat) : Prop := ∀ i j, i ≠ j → m.testBit i = true → m.testBit j = true → A i j = true
def clB (A : Nat → Nat → Bool) (m : Nat) : Bool := (List.range 8).all fun i => (List.range 8).all fun j => decide (i = j) || (!m.testBit i) || (!m.testBit j) || A i j
theorem clB_iff {A : Nat → Nat → Bool} {m : Nat} (h : m < 256) : clB A m = true ↔ Cl A m := by
  unfold clB Cl
  rw [List.all_eq_true]
  constructor
  · intro q i j ne hi hj
    have q1 := List.all_eq_true.mp (q i (List.mem_range.mpr (bit_lt (k := 8) h hi))) j (List.mem_range.mpr (bit_lt (k := 8) h hj))
    rw [decide_eq_false ne, hi, hj] at q1
    simpa using q1
  · intro q i _
    rw [List.all_eq_true]
    intro j _
    by_cases ne : i = j
    · rw [decide_eq_true ne]; rfl
    · cases hi : m.testBit i with
      | false => simp
      | true =>
        cases hj : m.testBit j with
        | false => simp
        | true => rw [q i j ne hi hj]; simp
theorem Cl.sb {A : Nat → Nat → Bool} {c m : Nat} (h : Cl A m) (s : Sb c m) : Cl A c := fun i j ne hi hj => h i j ne (s i hi) (s j hj)
theorem cl_zero (A : Nat → Nat → Bool) : Cl A 0 := fun i j _ h => by rw [Nat.zero_testBit] at h; cases h
theorem cl_rest {A : Nat → Nat → Bool} (sy : ∀ i j, A i j = A j i) {m v : Nat} (h : m < 256) (hb : m.testBit v = true) : Cl A m ↔ Cl A (m - 2 ^ v) ∧ ∀ j, (m - 2 ^ v).testBit j = true → A v j = true := by
  constructor
  · refine fun q => ⟨q.sb (sb_rest h hb), fun j hj => ?_⟩
    rw [rest_bit h hb, Bool.and_eq_true, decide_eq_true_eq] at hj
    exact q v j (Ne.symm hj.2) hb hj.1
  · rintro ⟨q1, q2⟩ i j ne hi hj
    by_cases ei : i = v
    · subst ei
      exact q2 j (by rw [rest_bit h hb, hj, Bool.true_and, decide_eq_true_eq]; exact Ne.symm ne)
    · by_cases ej : j = v
      · subst ej
        rw [sy]
        exact q2 i (by rw [rest_bit h hb, hi, Bool.true_and, decide_eq_true_eq]; exact ei)
      · exact q1 i j ne (by rw [rest_bit h hb, hi, Bool.true_and, decide_eq_true_eq]; exact ei) (by rw [rest_bit h hb, hj, Bool.true_and, decide_eq_true_eq]; exact ej)
/-- the greatest number of vertices of a clique within a mask -/
structure IsOm (A : Nat → Nat → Bool) (m k : Nat) : Prop where
  ex : ∃ c, Sb c m ∧ Cl A c ∧ pc c = k
  up : ∀ c, Sb c m → Cl A c → pc c ≤ k
theorem IsOm.uniq {A : Nat → Nat → Bool} {m k l : Nat} (h : IsOm A m k) (h' : IsOm A m l) : k = l := by
  obtain ⟨c, s, q, rfl⟩ := h.ex
  obtain ⟨d, s', q', rfl⟩ := h'.ex
  have := h.up d s' q'
  have := h'.up c s q
  omega
theorem sb_and {c m : Nat} : (c &&& m == c) = true ↔ Sb c m := by
  rw [beq_iff_eq]
  constructor
  · intro e j hj
    rw [← e, Nat.testBit_and, Bool.and_eq_true] at hj
    exact hj.2
  · intro s
    refine Nat.eq_of_testBit_eq fun j => ?_
    rw [Nat.testBit_and]
    cases hj : c.testBit j with
    | false => rfl
    | true => rw [s j hj]; rfl
end Ev
namespace Ev
open PySem PySem.Spec PyProof.Rows
def msk (xs : List Int) : Nat := (xs.map fun v => 2 ^ v.toNat).sum
def rowM (n m : Nat) : List Int := ((List.range n).filter m.testBit).map fun (i : Nat) => (i : Int)
theorem msk_bit : ∀ {xs : List Int}, xs.Nodup → (∀ v ∈ xs, 0 ≤ v ∧ v < 8) → msk xs < 256 ∧ ∀ j : Nat, (msk xs).testBit j = decide ((j : Int) ∈ xs)
  | [], _, _ => ⟨by decide, fun j => by rw [show msk [] = 0 from rfl, Nat.zero_testBit, decide_eq_false (by simp)]⟩
  | x :: xs, nd, h => by
    obtain ⟨n1, n2⟩ := List.nodup_cons.mp nd
    obtain ⟨h1, h2⟩ := msk_bit n2 fun v hv => h v (List.mem_cons_of_mem _ hv)
    obtain ⟨x0, x1⟩ := h x List.mem_cons_self
    have ex : ((x.toNat : Nat) : Int) = x := Int.toNat_of_nonneg x0
    have hb : (msk xs).testBit x.toNat = false := by rw [h2, ex, decide_eq_false n1]
    obtain ⟨a1, a2⟩ := add_bit h1 (show x.toNat < 8 by omega) hb
    have e : msk (x :: xs) = msk xs + 2 ^ x.toNat := by
      unfold msk
      rw [List.map_cons, List.sum_cons, Nat.add_comm]
    rw [e]
    refine ⟨a1, fun j => ?_⟩
    rw [a2, h2]
    have : (decide ((j : Int) ∈ xs) || decide (j = x.toNat)) = decide ((j : Int) ∈ x :: xs) := by
      rw [← Bool.decide_or]
      refine decide_eq_decide.mpr ?_
      rw [List.mem_cons]
      constructor
      · rintro (z | z)
        · exact .inr z
        · exact .inl (by omega)
      · rintro (z | z)
        · exact .inr (by omega)
        · exact .inl z
    exact this
theorem row_mem {n m : Nat} {v : Int} : v ∈ rowM n m ↔ ∃ i : Nat, v = i ∧ i < n ∧ m.testBit i = true := by
  unfold rowM
  rw [List.mem_map]
  constructor
  · rintro ⟨i, hi, rfl⟩
    rw [List.mem_filter, List.mem_range] at hi
    exact ⟨i, rfl, hi.1, hi.2⟩
  · rintro ⟨i, rfl, h1, h2⟩
    exact ⟨i, by rw [List.mem_filter, List.mem_range]; exact ⟨h1, h2⟩, rfl⟩
theorem row_len {n m : Nat} (hn : n ≤ 8) (hm : m < 2 ^ n) : (rowM n m).length = pc m := by
  have : ∀ n : Fin 9, ∀ m : Fin (2 ^ n.val), (rowM n.val m.val).length = pc m.val := by decide +kernel
  exact this ⟨n, by omega⟩ ⟨m, hm⟩
theorem row_msk {n m : Nat} (hn : n ≤ 8) (hm : m < 2 ^ n) : msk (rowM n m) = m := by
  have : ∀ n : Fin 9, ∀ m : Fin (2 ^ n.val), msk (rowM n.val m.val) = m.val := by decide +kernel
  exact this ⟨n, by omega⟩ ⟨m, hm⟩
theorem pow_le8 {n : Nat} (hn : n ≤ 8) : 2 ^ n ≤ 256 := Nat.pow_le_pow_right (n := 2) (by decide) hn
end Ev
namespace Ev
open PySem PySem.Spec PyProof.Rows L2
/-- whether two vertices are joined -/
def ad (g : Gr) : Nat → Nat → Bool := fun v w => decide ((w : Int) ∈ nbr g.qs (v : Int))
theorem ad_sy {g : Gr} (v w : Nat) : ad g v w = ad g w v := by
  unfold ad
  refine decide_eq_decide.mpr ?_
  rw [nbr_mem, nbr_mem]
  exact Or.comm
theorem nbr_nd {n : Nat} {qs : List (Int × Int)} (h : GoodE n qs) (v : Int) : (nbr qs v).Nodup := (nbr_asc h v).imp fun {a b} h e => by omega
theorem nbr_msk {g : Gr} (h : GoodE g.n g.qs) (hn : g.n ≤ 8) (v : Nat) : msk (nbr g.qs (v : Int)) < 256 ∧ ∀ j : Nat, (msk (nbr g.qs (v : Int))).testBit j = ad g v j :=
  msk_bit (nbr_nd h v) fun x hx => by have := nbr_lt h hx; omega
theorem pw_ok {v : Int} (h0 : 0 ≤ v) (h1 : v ≤ 1000000) : W.req (cPow 1 v = true) ((1 : Int) * 2 ^ v.toNat) = W.ret ((2 ^ v.toNat : Nat) : Int) := by
  have := W.shl1 (j := v.toNat) (by omega)
  rw [Int.toNat_of_nonneg h0] at this
  exact this
theorem sum_cast : ∀ (xs : List Int), (xs.map fun v => ((2 ^ v.toNat : Nat) : Int)).sum = ((msk xs : Nat) : Int)
  | [] => rfl
  | x :: xs => by
    have ih := sum_cast xs
    unfold msk at ih ⊢
    rw [List.map_cons, List.sum_cons, List.map_cons, List.sum_cons, ih, Int.natCast_add]
theorem mask_ok {xs : List Int} (h : ∀ v ∈ xs, 0 ≤ v ∧ v ≤ 1000000) : f_mask_of xs = W.ret ((msk xs : Nat) : Int) := by
  unfold f_mask_of
  simp only [W.ret_bind, W.bind_bind, W.req_T, List.length_cons, List.length_nil, Nat.reduceAdd, Nat.reduceLeDiff, W.opt_some, W.no_ret, W.no_bind, W.no_opt, W.no_req, W.no_no, W.ite_ret, W.cont_go, W.cont_ret, W.cont_brk, if_true, if_false, Bool.false_eq_true, Bool.not_true, Bool.not_false, pyI_int, pyB_bl, py2_tup, gsz, kind_non, kind_bl, kind_int, kind_str, kind_tup, kind_lst, is_tt, is_tc, is_ct, cc_G, Bool.or_false, Bool.or_true, Bool.and_true, Bool.and_false, Bool.true_and, Bool.false_and, Bool.true_or, Bool.false_or, tg_non_non, tg_non_bl, tg_non_int, tg_non_str, tg_non_tup, tg_non_lst, tg_bl_non, tg_bl_bl, tg_bl_int, tg_bl_str, tg_bl_tup, tg_bl_lst, tg_int_non, tg_int_bl, tg_int_int, tg_int_str, tg_int_tup, tg_int_lst, tg_str_non, tg_str_bl, tg_str_int, tg_str_str, tg_str_tup, tg_str_lst, tg_tup_non, tg_tup_bl, tg_tup_int, tg_tup_str, tg_tup_tup, tg_tup_lst, tg_lst_non, tg_lst_bl, tg_lst_int, tg_lst_str, tg_lst_tup, tg_lst_lst, ]
  rw [W.lc_map (fun v : Int => ((2 ^ v.toNat : Nat) : Int)) fun v hv => ?_]
  · simp only [W.ret_bind, W.bind_bind, W.req_T, List.length_cons, List.length_nil, Nat.reduceAdd, Nat.reduceLeDiff, W.opt_some, W.no_ret, W.no_bind, W.no_opt, W.no_req, W.no_no, W.ite_ret, W.cont_go, W.cont_ret, W.cont_brk, if_true, if_false, Bool.false_eq_true, Bool.not_true, Bool.not_false, pyI_int, pyB_bl, py2_tup, gsz, kind_non, kind_bl, kind_int, kind_str, kind_tup, kind_lst, is_tt, is_tc, is_ct, cc_G, Bool.or_false, Bool.or_true, Bool.and_true, Bool.and_false, Bool.true_and, Bool.false_and, Bool.true_or, Bool.false_or, tg_non_non, tg_non_bl, tg_non_int, tg_non_str, tg_non_tup, tg_non_lst, tg_bl_non, tg_bl_bl, tg_bl_int, tg_bl_str, tg_bl_tup, tg_bl_lst, tg_int_non, tg_int_bl, tg_int_int, tg_int_str, tg_int_tup, tg_int_lst, tg_str_non, tg_str_bl, tg_str_int, tg_str_str, tg_str_tup, tg_str_lst, tg_tup_non, tg_tup_bl, tg_tup_int, tg_tup_str, tg_tup_tup, tg_tup_lst, tg_lst_non, tg_lst_bl, tg_lst_int, tg_lst_str, tg_lst_tup, tg_lst_lst, sum_cast]
  · exact pw_ok (h v hv).1 (h v hv).2
theorem row_bd {n m : Nat} {v : Int} (h : v ∈ rowM n m) : 0 ≤ v ∧ v < n := by
  obtain ⟨i, rfl, h1, _⟩ := row_mem.mp h
  omega
/-- whether a vertex is joined to all of a mask -/
def grB (A : Nat → Nat → Bool) (n m : Nat) : Bool := (List.range n).any fun v => (List.range n).all fun u => !m.testBit u || A u v
end Ev
namespace Ev
open PySem PySem.Spec PyProof.Rows L2
structure NrOk (n : Nat) (ms : List Nat) : Prop where
  len : ms.length = n
  bd : ∀ v w, (ms.getD v 0).testBit w = true → v < n ∧ w < n ∧ v ≠ w
  sy : ∀ v w, (ms.getD v 0).testBit w = true → (ms.getD w 0).testBit v = true
def nI (ms : List Nat) : List Int := ms.map fun (m : Nat) => (m : Int)
theorem perm_ins {α : Type} (xs : List α) (x : α) (k : Nat) : (xs.take k ++ [x] ++ xs.drop k).Perm (x :: xs) := by
  have h : (xs.take k ++ [x] ++ xs.drop k).Perm ([x] ++ xs.take k ++ xs.drop k) := List.Perm.append_right _ List.perm_append_comm
  rw [List.append_assoc [x], List.take_append_drop] at h
  exact h
theorem vtx_ln (i : Nat) : (vtx i).length = i := by
  unfold vtx
  rw [List.length_map, List.length_range]
theorem vtx_succ (i : Nat) : vtx (i + 1) = vtx i ++ [(i : Int)] := by
  unfold vtx
  rw [List.range_succ, List.map_append]
  rfl
theorem shuffled_ok {n : Nat} (hn : n ≤ 1000) {K : List Int → Prop} {X : PErr → Prop} (h : ∀ row : List Int, row.Perm (vtx n) → K row) : f__law_shuffled (n : Int) K X := by
  unfold f__law_shuffled
  simp only [W.ret_bind, W.bind_bind, W.req_T, List.length_cons, List.length_nil, Nat.reduceAdd, Nat.reduceLeDiff, W.opt_some, W.no_ret, W.no_bind, W.no_opt, W.no_req, W.no_no, W.ite_ret, W.cont_go, W.cont_ret, W.cont_brk, if_true, if_false, Bool.false_eq_true, Bool.not_true, Bool.not_false, pyI_int, pyB_bl, py2_tup, gsz, kind_non, kind_bl, kind_int, kind_str, kind_tup, kind_lst, is_tt, is_tc, is_ct, cc_G, Bool.or_false, Bool.or_true, Bool.and_true, Bool.and_false, Bool.true_and, Bool.false_and, Bool.true_or, Bool.false_or, tg_non_non, tg_non_bl, tg_non_int, tg_non_str, tg_non_tup, tg_non_lst, tg_bl_non, tg_bl_bl, tg_bl_int, tg_bl_str, tg_bl_tup, tg_bl_lst, tg_int_non, tg_int_bl, tg_int_int, tg_int_str, tg_int_tup, tg_int_lst, tg_str_non, tg_str_bl, tg_str_int, tg_str_str, tg_str_tup, tg_str_lst, tg_tup_non, tg_tup_bl, tg_tup_int, tg_tup_str, tg_tup_tup, tg_tup_lst, tg_lst_non, tg_lst_bl, tg_lst_int, tg_lst_str, tg_lst_tup, tg_lst_lst, f__law_draw, W.rng1_nat (show n ≤ 1000000 by omega)]
  refine W.forS_inv (fun i s => s.Perm (vtx i)) (List.Perm.refl _) (fun i x s hx hi K hK => ?_) fun s hs => ?_
  · obtain ⟨rfl, hlt⟩ := rng_get hx
    have hl := hi.length_eq
    rw [vtx_ln] at hl
    refine W.draw_bind (by omega) (by omega) fun r r0 r1 => ?_
    refine ⟨⟨r0, by omega, by omega⟩, hK _ ?_⟩
    rw [vtx_succ, Int.zero_add]
    exact (perm_ins s (i : Int) r.toNat).trans ((hi.cons _).trans (List.perm_append_comm (l₁ := [(i : Int)])))
  · rw [rng_len, Int.sub_zero, Int.toNat_natCast] at hs
    exact h s hs
theorem size_ok {K : Int → Prop} {X : PErr → Prop} (h : ∀ n : Nat, 1 ≤ n → n ≤ 24 → K (n : Int)) : f__law_size K X := by
  have h' : ∀ r : Int, 1 ≤ r → r ≤ 24 → K r := fun r h1 h2 => by
    have := h r.toNat (by omega) (by omega)
    rwa [Int.toNat_of_nonneg (by omega)] at this
  unfold f__law_size
  simp only [W.ret_bind, W.bind_bind, W.req_T, List.length_cons, List.length_nil, Nat.reduceAdd, Nat.reduceLeDiff, W.opt_some, W.no_ret, W.no_bind, W.no_opt, W.no_req, W.no_no, W.ite_ret, W.cont_go, W.cont_ret, W.cont_brk, if_true, if_false, Bool.false_eq_true, Bool.not_true, Bool.not_false, pyI_int, pyB_bl, py2_tup, gsz, kind_non, kind_bl, kind_int, kind_str, kind_tup, kind_lst, is_tt, is_tc, is_ct, cc_G, Bool.or_false, Bool.or_true, Bool.and_true, Bool.and_false, Bool.true_and, Bool.false_and, Bool.true_or, Bool.false_or, tg_non_non, tg_non_bl, tg_non_int, tg_non_str, tg_non_tup, tg_non_lst, tg_bl_non, tg_bl_bl, tg_bl_int, tg_bl_str, tg_bl_tup, tg_bl_lst, tg_int_non, tg_int_bl, tg_int_int, tg_int_str, tg_int_tup, tg_int_lst, tg_str_non, tg_str_bl, tg_str_int, tg_str_str, tg_str_tup, tg_str_lst, tg_tup_non, tg_tup_bl, tg_tup_int, tg_tup_str, tg_tup_tup, tg_tup_lst, tg_lst_non, tg_lst_bl, tg_lst_int, tg_lst_str, tg_lst_tup, tg_lst_lst, f__law_draw]
  refine W.draw_bind (by decide) (by decide) fun k k0 k1 => ?_
  refine W.if_ap (fun _ => W.draw_bind (by decide) (by decide) fun r r0 r1 => h' _ (by omega) (by omega)) fun _ => ?_
  refine W.if_ap (fun _ => W.draw_bind (by decide) (by decide) fun r r0 r1 => h' _ (by omega) (by omega)) fun _ => ?_
  exact W.if_ap (fun _ => W.draw_bind (by decide) (by decide) fun r r0 r1 => h' _ (by omega) (by omega)) fun _ => W.draw_bind (by decide) (by decide) fun r r0 r1 => h' _ (by omega) (by omega)
theorem getD_set {ms : List Nat} {p x v : Nat} (hp : p < ms.length) : (ms.set p x).getD v 0 = if v = p then x else ms.getD v 0 := by
  rw [List.getD_eq_getElem?_getD, List.getD_eq_getElem?_getD, List.getElem?_set]
  by_cases e : p = v
  · subst e
    rw [if_pos rfl, if_pos rfl, if_pos hp]
    rfl
  · rw [if_neg e, if_neg (Ne.symm e)]
theorem NrOk.join {n : Nat} {ms : List Nat} (h : NrOk n ms) {p q : Nat} (hp : p < n) (hq : q < n) (hpq : p ≠ q) : NrOk n ((ms.set p (ms.getD p 0 ||| 2 ^ q)).set q (ms.getD q 0 ||| 2 ^ p)) := by
  have l1 : (ms.set p (ms.getD p 0 ||| 2 ^ q)).length = n := by rw [List.length_set, h.len]
  have e : ∀ v, ((ms.set p (ms.getD p 0 ||| 2 ^ q)).set q (ms.getD q 0 ||| 2 ^ p)).getD v 0 = if v = q then ms.getD q 0 ||| 2 ^ p else if v = p then ms.getD p 0 ||| 2 ^ q else ms.getD v 0 := fun v => by
    rw [getD_set (by omega), getD_set (by rw [h.len]; exact hp)]
  have tb : ∀ v w, (((ms.set p (ms.getD p 0 ||| 2 ^ q)).set q (ms.getD q 0 ||| 2 ^ p)).getD v 0).testBit w = true ↔ (ms.getD v 0).testBit w = true ∨ (v = q ∧ w = p) ∨ (v = p ∧ w = q) := fun v w => by
    rw [e]
    by_cases h1 : v = q
    · subst h1
      rw [if_pos rfl, Nat.testBit_or, Bool.or_eq_true, Nat.testBit_two_pow, decide_eq_true_eq]
      constructor
      · rintro (z | z)
        · exact .inl z
        · exact .inr (.inl ⟨rfl, z.symm⟩)
      · rintro (z | ⟨_, z⟩ | ⟨z, _⟩)
        · exact .inl z
        · exact .inr z.symm
        · exact absurd z.symm hpq
    · rw [if_neg h1]
      by_cases h2 : v = p
      · subst h2
        rw [if_pos rfl, Nat.testBit_or, Bool.or_eq_true, Nat.testBit_two_pow, decide_eq_true_eq]
        constructor
        · rintro (z | z)
          · exact .inl z
          · exact .inr (.inr ⟨rfl, z.symm⟩)
        · rintro (z | ⟨z, _⟩ | ⟨_, z⟩)
          · exact .inl z
          · exact absurd z h1
          · exact .inr z.symm
      · rw [if_neg h2]
        exact ⟨.inl, fun z => z.elim id fun z => z.elim (fun z => absurd z.1 h1) fun z => absurd z.1 h2⟩
  refine ⟨by rw [List.length_set, l1], fun v w z => ?_, fun v w z => ?_⟩
  · rcases (tb v w).mp z with z | ⟨rfl, rfl⟩ | ⟨rfl, rfl⟩
    · exact h.bd v w z
    · exact ⟨hq, hp, Ne.symm hpq⟩
    · exact ⟨hp, hq, hpq⟩
  · rcases (tb v w).mp z with z | ⟨rfl, rfl⟩ | ⟨rfl, rfl⟩
    · exact (tb w v).mpr (.inl (h.sy v w z))
    · exact (tb _ _).mpr (.inr (.inr ⟨rfl, rfl⟩))
    · exact (tb _ _).mpr (.inr (.inl ⟨rfl, rfl⟩))
theorem NrOk.zero (n : Nat) : NrOk n (List.replicate n 0) := by
  have e : ∀ v, (List.replicate n 0).getD v 0 = 0 := fun v => by
    rw [List.getD_eq_getElem?_getD, List.getElem?_replicate]
    split <;> rfl
  refine ⟨List.length_replicate, fun v w z => ?_, fun v w z => ?_⟩
  · rw [e, Nat.zero_testBit] at z; cases z
  · rw [e, Nat.zero_testBit] at z; cases z
theorem nI_at {ms : List Nat} {p : Nat} (h : p < ms.length) : W.opt (atI (nI ms) (p : Int)) = W.ret ((ms.getD p 0 : Nat) : Int) := W.idxN (by
  unfold nI
  rw [List.getElem?_map, List.getElem?_eq_getElem h, List.getD_eq_getElem?_getD, List.getElem?_eq_getElem h]
  rfl)
theorem nI_set {ms : List Nat} {p x : Nat} (h : p < ms.length) : W.setI (nI ms) (p : Int) (x : Int) = W.ret (nI (ms.set p x)) := by
  rw [W.setN (by unfold nI; rw [List.length_map]; exact h)]
  unfold nI
  rw [List.map_set]
theorem rep_flat {α : Type} (n : Nat) (x : α) : (List.replicate n [x]).flatten = List.replicate n x := by
  induction n with
  | zero => rfl
  | succ n ih => rw [List.replicate_succ, List.replicate_succ, List.flatten_cons, ih]; rfl
theorem filt_flat {α β : Type} (p : α → Bool) (f : α → β) : ∀ xs : List α, (xs.filter p).map f = xs.flatMap fun x => if p x = true then [f x] else []
  | [] => rfl
  | x :: xs => by
    rw [List.flatMap_cons, ← filt_flat p f xs]
    by_cases hx : p x = true
    · rw [List.filter_cons_of_pos hx, if_pos hx]; rfl
    · rw [List.filter_cons_of_neg hx, if_neg hx]; rfl
theorem near_ok {n : Nat} (hn : n ≤ 24) {K : List Int → Prop} {X : PErr → Prop} (h : ∀ ms : List Nat, NrOk n ms → K (nI ms)) : f__law_near (n : Int) K X := by
  unfold f__law_near
  simp only [W.ret_bind, W.bind_bind, W.req_T, List.length_cons, List.length_nil, Nat.reduceAdd, Nat.reduceLeDiff, W.opt_some, W.no_ret, W.no_bind, W.no_opt, W.no_req, W.no_no, W.ite_ret, W.cont_go, W.cont_ret, W.cont_brk, if_true, if_false, Bool.false_eq_true, Bool.not_true, Bool.not_false, pyI_int, pyB_bl, py2_tup, gsz, kind_non, kind_bl, kind_int, kind_str, kind_tup, kind_lst, is_tt, is_tc, is_ct, cc_G, Bool.or_false, Bool.or_true, Bool.and_true, Bool.and_false, Bool.true_and, Bool.false_and, Bool.true_or, Bool.false_or, tg_non_non, tg_non_bl, tg_non_int, tg_non_str, tg_non_tup, tg_non_lst, tg_bl_non, tg_bl_bl, tg_bl_int, tg_bl_str, tg_bl_tup, tg_bl_lst, tg_int_non, tg_int_bl, tg_int_int, tg_int_str, tg_int_tup, tg_int_lst, tg_str_non, tg_str_bl, tg_str_int, tg_str_str, tg_str_tup, tg_str_lst, tg_tup_non, tg_tup_bl, tg_tup_int, tg_tup_str, tg_tup_tup, tg_tup_lst, tg_lst_non, tg_lst_bl, tg_lst_int, tg_lst_str, tg_lst_tup, tg_lst_lst, f__law_draw]
  refine W.draw_bind (by decide) (by decide) fun kind k0 k1 => W.draw_bind (by decide) (by decide) fun d d0 d1 => ?_
  simp only [W.ret_bind, W.bind_bind, W.req_T, List.length_cons, List.length_nil, Nat.reduceAdd, Nat.reduceLeDiff, W.opt_some, W.no_ret, W.no_bind, W.no_opt, W.no_req, W.no_no, W.ite_ret, W.cont_go, W.cont_ret, W.cont_brk, if_true, if_false, Bool.false_eq_true, Bool.not_true, Bool.not_false, pyI_int, pyB_bl, py2_tup, gsz, kind_non, kind_bl, kind_int, kind_str, kind_tup, kind_lst, is_tt, is_tc, is_ct, cc_G, Bool.or_false, Bool.or_true, Bool.and_true, Bool.and_false, Bool.true_and, Bool.false_and, Bool.true_or, Bool.false_or, tg_non_non, tg_non_bl, tg_non_int, tg_non_str, tg_non_tup, tg_non_lst, tg_bl_non, tg_bl_bl, tg_bl_int, tg_bl_str, tg_bl_tup, tg_bl_lst, tg_int_non, tg_int_bl, tg_int_int, tg_int_str, tg_int_tup, tg_int_lst, tg_str_non, tg_str_bl, tg_str_int, tg_str_str, tg_str_tup, tg_str_lst, tg_tup_non, tg_tup_bl, tg_tup_int, tg_tup_str, tg_tup_tup, tg_tup_lst, tg_lst_non, tg_lst_bl, tg_lst_int, tg_lst_str, tg_lst_tup, tg_lst_lst, W.rng1_nat (show n ≤ 1000000 by omega)]
  refine W.lc_all (fun _ _ => True) (fun i x _ K hK => W.draw_ap (by decide) (by decide) fun r r0 r1 => hK _ trivial) fun marks hm _ => ?_
  rw [rng_len, Int.sub_zero, Int.toNat_natCast] at hm
  refine shuffled_ok (by omega) fun place hp => ?_
  have hsz : 1000 ≤ sizeLine := by decide
  refine ⟨⟨by omega, by omega, by rw [Int.toNat_natCast]; omega⟩, ?_⟩
  have e0 : (List.replicate (n : Int).toNat [(0 : Int)]).flatten = nI (List.replicate n 0) := by
    unfold nI
    rw [Int.toNat_natCast, List.map_replicate]
    exact rep_flat n 0
  rw [e0]
  have pl : ∀ i : Nat, i < n → ∃ p : Nat, p < n ∧ place[i]? = some (p : Int) := fun i hi => by
    have hl := hp.length_eq
    rw [vtx_ln] at hl
    have hm := hp.mem_iff.mp (List.getElem_mem (l := place) (n := i) (by omega))
    obtain ⟨p, hp1, hp2⟩ := List.mem_map.mp (show place[i] ∈ (List.range n).map fun (i : Nat) => (i : Int) from hm)
    exact ⟨p, List.mem_range.mp hp1, by rw [List.getElem?_eq_getElem (by omega), hp2]⟩
  have nd : place.Nodup := hp.nodup_iff.mpr (by
    unfold vtx
    exact List.pairwise_map.mpr (List.nodup_range.imp fun {a b} h z => h (by omega)))
  have mk : ∀ i : Nat, i < n → ∃ x : Int, W.opt (atI marks (i : Int)) = W.ret x := fun i hi => ⟨_, W.idxN (List.getElem?_eq_getElem (by omega))⟩
  refine W.forS_inv (fun _ s => ∃ ms, NrOk n ms ∧ s = nI ms) ⟨_, NrOk.zero n, rfl⟩ (fun i a s hx hi J hJ => ?_) fun s hs => ?_
  · obtain ⟨rfl, hlt⟩ := rng_get hx
    rw [Int.zero_add] at hlt ⊢
    obtain ⟨x, hx⟩ := mk i (by omega)
    simp only [W.ret_bind, W.bind_bind, W.req_T, List.length_cons, List.length_nil, Nat.reduceAdd, Nat.reduceLeDiff, W.opt_some, W.no_ret, W.no_bind, W.no_opt, W.no_req, W.no_no, W.ite_ret, W.cont_go, W.cont_ret, W.cont_brk, if_true, if_false, Bool.false_eq_true, Bool.not_true, Bool.not_false, pyI_int, pyB_bl, py2_tup, gsz, kind_non, kind_bl, kind_int, kind_str, kind_tup, kind_lst, is_tt, is_tc, is_ct, cc_G, Bool.or_false, Bool.or_true, Bool.and_true, Bool.and_false, Bool.true_and, Bool.false_and, Bool.true_or, Bool.false_or, tg_non_non, tg_non_bl, tg_non_int, tg_non_str, tg_non_tup, tg_non_lst, tg_bl_non, tg_bl_bl, tg_bl_int, tg_bl_str, tg_bl_tup, tg_bl_lst, tg_int_non, tg_int_bl, tg_int_int, tg_int_str, tg_int_tup, tg_int_lst, tg_str_non, tg_str_bl, tg_str_int, tg_str_str, tg_str_tup, tg_str_lst, tg_tup_non, tg_tup_bl, tg_tup_int, tg_tup_str, tg_tup_tup, tg_tup_lst, tg_lst_non, tg_lst_bl, tg_lst_int, tg_lst_str, tg_lst_tup, tg_lst_lst, W.rng2_ok (a := (i : Int) + 1) (b := (n : Int)) (by omega)]
    refine W.forS_inv (fun _ s => ∃ ms, NrOk n ms ∧ s = nI ms) hi (fun j b s hy hj J' hJ' => ?_) fun s hs => hJ _ hs
    obtain ⟨rfl, hlt2⟩ := rng_get hy
    obtain ⟨k, hk⟩ : ∃ k : Nat, (i : Int) + 1 + (j : Int) = k := ⟨i + 1 + j, by omega⟩
    rw [hk] at hlt2 ⊢
    obtain ⟨y, hy⟩ := mk k (by omega)
    obtain ⟨ms, hms, rfl⟩ := hj
    obtain ⟨p, hp1, hp2⟩ := pl i (by omega)
    obtain ⟨q, hq1, hq2⟩ := pl k (by omega)
    have hpq : p ≠ q := fun z => by
      subst z
      have := (List.getElem?_inj (by have := hp.length_eq; rw [vtx_ln] at this; omega) nd).mp (hp2.trans hq2.symm)
      omega
    have l0 := hms.len
    refine W.draw_bind (by omega) (by omega) fun r r0 r1 => ?_
    simp only [W.ret_bind, W.bind_bind, W.req_T, List.length_cons, List.length_nil, Nat.reduceAdd, Nat.reduceLeDiff, W.opt_some, W.no_ret, W.no_bind, W.no_opt, W.no_req, W.no_no, W.ite_ret, W.cont_go, W.cont_ret, W.cont_brk, if_true, if_false, Bool.false_eq_true, Bool.not_true, Bool.not_false, pyI_int, pyB_bl, py2_tup, gsz, kind_non, kind_bl, kind_int, kind_str, kind_tup, kind_lst, is_tt, is_tc, is_ct, cc_G, Bool.or_false, Bool.or_true, Bool.and_true, Bool.and_false, Bool.true_and, Bool.false_and, Bool.true_or, Bool.false_or, tg_non_non, tg_non_bl, tg_non_int, tg_non_str, tg_non_tup, tg_non_lst, tg_bl_non, tg_bl_bl, tg_bl_int, tg_bl_str, tg_bl_tup, tg_bl_lst, tg_int_non, tg_int_bl, tg_int_int, tg_int_str, tg_int_tup, tg_int_lst, tg_str_non, tg_str_bl, tg_str_int, tg_str_str, tg_str_tup, tg_str_lst, tg_tup_non, tg_tup_bl, tg_tup_int, tg_tup_str, tg_tup_tup, tg_tup_lst, tg_lst_non, tg_lst_bl, tg_lst_int, tg_lst_str, tg_lst_tup, tg_lst_lst, hx, hy]
    refine W.if_ap (fun _ => ?_) fun _ => hJ' _ ⟨ms, hms, rfl⟩
    have e1 := nI_at (ms := ms) (p := p) (by omega)
    have e2 : W.setI (nI ms) (p : Int) (Builtin.bitOr ((ms.getD p 0 : Nat) : Int) ((2 ^ q : Nat) : Int)) = W.ret (nI (ms.set p (ms.getD p 0 ||| 2 ^ q))) := by rw [b_or]; exact nI_set (by omega)
    have e3 := nI_at (ms := ms.set p (ms.getD p 0 ||| 2 ^ q)) (p := q) (by rw [List.length_set]; omega)
    rw [getD_set (by omega), if_neg (Ne.symm hpq)] at e3
    have e4 : W.setI (nI (ms.set p (ms.getD p 0 ||| 2 ^ q))) (q : Int) (Builtin.bitOr ((ms.getD q 0 : Nat) : Int) ((2 ^ p : Nat) : Int)) = W.ret (nI ((ms.set p (ms.getD p 0 ||| 2 ^ q)).set q (ms.getD q 0 ||| 2 ^ p))) := by rw [b_or]; exact nI_set (by rw [List.length_set]; omega)
    have p1 : W.req (cPow 1 (q : Int) = true) ((1 : Int) * 2 ^ (q : Int).toNat) = W.ret ((2 ^ q : Nat) : Int) := pw_ok (v := (q : Int)) (by omega) (by omega)
    have p2 : W.req (cPow 1 (p : Int) = true) ((1 : Int) * 2 ^ (p : Int).toNat) = W.ret ((2 ^ p : Nat) : Int) := pw_ok (v := (p : Int)) (by omega) (by omega)
    simp only [W.idxN hp2, W.idxN hq2, W.ret_bind, e1, e2, e3, e4, p1, p2]
    exact hJ' _ ⟨_, hms.join hp1 hq1 hpq, rfl⟩
  · obtain ⟨ms, hms, rfl⟩ := hs
    exact h ms hms
end Ev
namespace Ev
open PySem PySem.Spec PyProof.Rows L2
theorem W.forS_flat {α β : Type} {b : List β → α → W (List β)} {F : α → List β} (B : Nat) : ∀ {xs : List α} {s0 : List β}, s0.length + (xs.flatMap F).length ≤ B → (∀ x ∈ xs, ∀ s : List β, s.length + (F x).length ≤ B → b s x = W.ret (s ++ F x)) → W.forS b xs s0 = W.ret (s0 ++ xs.flatMap F)
  | [], s0, _, _ => by rw [List.flatMap_nil, List.append_nil]; rfl
  | x :: xs, s0, hl, hb => by
    rw [List.flatMap_cons, List.length_append] at hl
    show W.bind (b s0 x) _ = _
    rw [hb x List.mem_cons_self s0 (by omega), W.ret_bind, W.forS_flat B (by rw [List.length_append]; omega) fun y hy => hb y (List.mem_cons_of_mem _ hy), List.flatMap_cons, List.append_assoc]
def nrA (ms : List Nat) : Nat → Nat → Bool := fun v w => (ms.getD v 0).testBit w
def edF (n : Nat) (A : Nat → Nat → Bool) (a : Int) : List (Int × Int) := ((rng (a + 1) (n : Int)).filter fun b => A a.toNat b.toNat).map fun b => (a, b)
def edA (n : Nat) (A : Nat → Nat → Bool) : List (Int × Int) := (rng 0 (n : Int)).flatMap (edF n A)
def edM (n : Nat) (ms : List Nat) : List (Int × Int) := edA n (nrA ms)
theorem edF_mem {n : Nat} {A : Nat → Nat → Bool} {a : Int} {q : Int × Int} : q ∈ edF n A a ↔ q.1 = a ∧ a < q.2 ∧ q.2 < n ∧ A a.toNat q.2.toNat = true := by
  unfold edF
  rw [List.mem_map]
  constructor
  · rintro ⟨b, hb, rfl⟩
    rw [List.mem_filter, rng_mem] at hb
    exact ⟨rfl, by dsimp only; omega, hb.1.2, hb.2⟩
  · rintro ⟨rfl, h1, h2, h3⟩
    exact ⟨q.2, by rw [List.mem_filter, rng_mem]; exact ⟨⟨by omega, h2⟩, h3⟩, rfl⟩
theorem edA_mem {n : Nat} {A : Nat → Nat → Bool} {q : Int × Int} : q ∈ edA n A ↔ 0 ≤ q.1 ∧ q.1 < q.2 ∧ q.2 < n ∧ A q.1.toNat q.2.toNat = true := by
  unfold edA
  rw [List.mem_flatMap]
  constructor
  · rintro ⟨a, ha, hq⟩
    obtain ⟨rfl, h1, h2, h3⟩ := edF_mem.mp hq
    exact ⟨(rng_mem.mp ha).1, h1, h2, h3⟩
  · rintro ⟨h0, h1, h2, h3⟩
    exact ⟨q.1, rng_mem.mpr (by omega), edF_mem.mpr ⟨rfl, h1, h2, h3⟩⟩
theorem rng_pw (lo hi : Int) : (rng lo hi).Pairwise (· < ·) := by
  unfold rng
  refine List.pairwise_map.mpr (List.pairwise_lt_range.imp fun {a b} h => ?_)
  omega
theorem edA_good (n : Nat) (A : Nat → Nat → Bool) : GoodE n (edA n A) := by
  refine ⟨fun q hq => ?_, ?_⟩
  · obtain ⟨h0, h1, h2, _⟩ := edA_mem.mp hq
    exact ⟨h0, h1, h2⟩
  · unfold edA
    rw [List.pairwise_flatMap]
    refine ⟨fun a _ => ?_, (rng_pw _ _).imp fun {a b} h p hp q hq => ?_⟩
    · unfold edF
      refine List.pairwise_map.mpr (((rng_pw _ _).filter _).imp fun {x y} h => .inr ⟨rfl, h⟩)
    · rw [(edF_mem.mp hp).1.symm, (edF_mem.mp hq).1.symm] at h
      exact .inl h
theorem edM_mem {n : Nat} {ms : List Nat} {q : Int × Int} : q ∈ edM n ms ↔ 0 ≤ q.1 ∧ q.1 < q.2 ∧ q.2 < n ∧ nrA ms q.1.toNat q.2.toNat = true := edA_mem
theorem edM_good (n : Nat) (ms : List Nat) : GoodE n (edM n ms) := edA_good n _
theorem ad_edM {n : Nat} {ms : List Nat} (h : NrOk n ms) (v w : Nat) : ad ⟨n, edM n ms⟩ v w = nrA ms v w := by
  have key : (w : Int) ∈ nbr (edM n ms) (v : Int) ↔ nrA ms v w = true := by
    rw [nbr_mem, edM_mem, edM_mem]
    dsimp only
    rw [Int.toNat_natCast, Int.toNat_natCast]
    constructor
    · rintro (z | z)
      · exact z.2.2.2
      · exact h.sy _ _ z.2.2.2
    · intro z
      obtain ⟨h1, h2, h3⟩ := h.bd v w z
      by_cases hlt : v < w
      · exact .inl ⟨by omega, by omega, by omega, z⟩
      · exact .inr ⟨by omega, by omega, by omega, h.sy v w z⟩
  unfold ad
  cases hc : nrA ms v w with
  | true => exact decide_eq_true (key.mpr hc)
  | false => exact decide_eq_false fun z => by rw [key.mp z] at hc; cases hc
theorem edM_len {n : Nat} (hn : n ≤ 24) (ms : List Nat) : (edM n ms).length ≤ 300 := (edM_good n ms).len hn
theorem edges_ok {n : Nat} {ms : List Nat} (h : NrOk n ms) (hn : n ≤ 24) : f__law_edges (nI ms) = W.ret (edM n ms) := by
  have hl : (nI ms).length = n := by unfold nI; rw [List.length_map, h.len]
  unfold f__law_edges
  simp only [W.ret_bind, W.bind_bind, W.req_T, List.length_cons, List.length_nil, Nat.reduceAdd, Nat.reduceLeDiff, W.opt_some, W.no_ret, W.no_bind, W.no_opt, W.no_req, W.no_no, W.ite_ret, W.cont_go, W.cont_ret, W.cont_brk, if_true, if_false, Bool.false_eq_true, Bool.not_true, Bool.not_false, pyI_int, pyB_bl, py2_tup, gsz, kind_non, kind_bl, kind_int, kind_str, kind_tup, kind_lst, is_tt, is_tc, is_ct, cc_G, Bool.or_false, Bool.or_true, Bool.and_true, Bool.and_false, Bool.true_and, Bool.false_and, Bool.true_or, Bool.false_or, tg_non_non, tg_non_bl, tg_non_int, tg_non_str, tg_non_tup, tg_non_lst, tg_bl_non, tg_bl_bl, tg_bl_int, tg_bl_str, tg_bl_tup, tg_bl_lst, tg_int_non, tg_int_bl, tg_int_int, tg_int_str, tg_int_tup, tg_int_lst, tg_str_non, tg_str_bl, tg_str_int, tg_str_str, tg_str_tup, tg_str_lst, tg_tup_non, tg_tup_bl, tg_tup_int, tg_tup_str, tg_tup_tup, tg_tup_lst, tg_lst_non, tg_lst_bl, tg_lst_int, tg_lst_str, tg_lst_tup, tg_lst_lst, hl, W.rng1_nat (show n ≤ 1000000 by omega)]
  rw [W.forS_flat (F := edF n (nrA ms)) 300 (by rw [List.length_nil, Nat.zero_add]; exact edM_len hn ms) fun a ha s hs => ?_]
  · simp only [W.ret_bind, W.bind_bind, W.req_T, List.length_cons, List.length_nil, Nat.reduceAdd, Nat.reduceLeDiff, W.opt_some, W.no_ret, W.no_bind, W.no_opt, W.no_req, W.no_no, W.ite_ret, W.cont_go, W.cont_ret, W.cont_brk, if_true, if_false, Bool.false_eq_true, Bool.not_true, Bool.not_false, pyI_int, pyB_bl, py2_tup, gsz, kind_non, kind_bl, kind_int, kind_str, kind_tup, kind_lst, is_tt, is_tc, is_ct, cc_G, Bool.or_false, Bool.or_true, Bool.and_true, Bool.and_false, Bool.true_and, Bool.false_and, Bool.true_or, Bool.false_or, tg_non_non, tg_non_bl, tg_non_int, tg_non_str, tg_non_tup, tg_non_lst, tg_bl_non, tg_bl_bl, tg_bl_int, tg_bl_str, tg_bl_tup, tg_bl_lst, tg_int_non, tg_int_bl, tg_int_int, tg_int_str, tg_int_tup, tg_int_lst, tg_str_non, tg_str_bl, tg_str_int, tg_str_str, tg_str_tup, tg_str_lst, tg_tup_non, tg_tup_bl, tg_tup_int, tg_tup_str, tg_tup_tup, tg_tup_lst, tg_lst_non, tg_lst_bl, tg_lst_int, tg_lst_str, tg_lst_tup, tg_lst_lst, ]
    rfl
  · obtain ⟨a0, a1⟩ := rng_mem.mp ha
    simp only [W.ret_bind, W.bind_bind, W.req_T, List.length_cons, List.length_nil, Nat.reduceAdd, Nat.reduceLeDiff, W.opt_some, W.no_ret, W.no_bind, W.no_opt, W.no_req, W.no_no, W.ite_ret, W.cont_go, W.cont_ret, W.cont_brk, if_true, if_false, Bool.false_eq_true, Bool.not_true, Bool.not_false, pyI_int, pyB_bl, py2_tup, gsz, kind_non, kind_bl, kind_int, kind_str, kind_tup, kind_lst, is_tt, is_tc, is_ct, cc_G, Bool.or_false, Bool.or_true, Bool.and_true, Bool.and_false, Bool.true_and, Bool.false_and, Bool.true_or, Bool.false_or, tg_non_non, tg_non_bl, tg_non_int, tg_non_str, tg_non_tup, tg_non_lst, tg_bl_non, tg_bl_bl, tg_bl_int, tg_bl_str, tg_bl_tup, tg_bl_lst, tg_int_non, tg_int_bl, tg_int_int, tg_int_str, tg_int_tup, tg_int_lst, tg_str_non, tg_str_bl, tg_str_int, tg_str_str, tg_str_tup, tg_str_lst, tg_tup_non, tg_tup_bl, tg_tup_int, tg_tup_str, tg_tup_tup, tg_tup_lst, tg_lst_non, tg_lst_bl, tg_lst_int, tg_lst_str, tg_lst_tup, tg_lst_lst, W.rng2_ok (a := a + 1) (b := (n : Int)) (by omega)]
    obtain ⟨i, rfl⟩ : ∃ i : Nat, a = i := ⟨a.toNat, by omega⟩
    have e : edF n (nrA ms) (i : Int) = (rng ((i : Int) + 1) (n : Int)).flatMap fun b => if nrA ms i b.toNat = true then [((i : Int), b)] else [] := by
      unfold edF
      rw [Int.toNat_natCast]
      exact filt_flat _ _ _
    rw [e] at hs ⊢
    refine W.forS_flat 300 hs fun b hb s hs => ?_
    obtain ⟨b0, b1⟩ := rng_mem.mp hb
    obtain ⟨j, rfl⟩ : ∃ j : Nat, b = j := ⟨b.toNat, by omega⟩
    rw [nI_at (by rw [h.len]; omega)]
    simp only [W.ret_bind, W.bind_bind, W.req_T, List.length_cons, List.length_nil, Nat.reduceAdd, Nat.reduceLeDiff, W.opt_some, W.no_ret, W.no_bind, W.no_opt, W.no_req, W.no_no, W.ite_ret, W.cont_go, W.cont_ret, W.cont_brk, if_true, if_false, Bool.false_eq_true, Bool.not_true, Bool.not_false, pyI_int, pyB_bl, py2_tup, gsz, kind_non, kind_bl, kind_int, kind_str, kind_tup, kind_lst, is_tt, is_tc, is_ct, cc_G, Bool.or_false, Bool.or_true, Bool.and_true, Bool.and_false, Bool.true_and, Bool.false_and, Bool.true_or, Bool.false_or, tg_non_non, tg_non_bl, tg_non_int, tg_non_str, tg_non_tup, tg_non_lst, tg_bl_non, tg_bl_bl, tg_bl_int, tg_bl_str, tg_bl_tup, tg_bl_lst, tg_int_non, tg_int_bl, tg_int_int, tg_int_str, tg_int_tup, tg_int_lst, tg_str_non, tg_str_bl, tg_str_int, tg_str_str, tg_str_tup, tg_str_lst, tg_tup_non, tg_tup_bl, tg_tup_int, tg_tup_str, tg_tup_tup, tg_tup_lst, tg_lst_non, tg_lst_bl, tg_lst_int, tg_lst_str, tg_lst_tup, tg_lst_lst, W.req_true (show (0 : Int) ≤ (j : Int) by omega), Int.toNat_natCast, b_m1]
    by_cases hb : nrA ms i j = true
    · have hb' : (ms.getD i 0).testBit j = true := hb
      rw [Int.toNat_natCast, if_pos hb, List.length_singleton] at hs
      rw [if_pos hb, hb', if_pos rfl, decide_eq_true rfl, if_pos rfl, W.app_ok (by omega), W.ret_bind]
    · have hb' : (ms.getD i 0).testBit j = false := by simpa [nrA] using hb
      rw [if_neg hb, hb', if_neg (by decide), List.append_nil]
/-- joined in the complement -/
def coA (n : Nat) (A : Nat → Nat → Bool) : Nat → Nat → Bool := fun v w => decide (v ≠ w) && (decide (v < n) && (decide (w < n) && !A v w))
theorem coA_sy {n : Nat} {A : Nat → Nat → Bool} (h : ∀ i j, A i j = A j i) (i j : Nat) : coA n A i j = coA n A j i := by
  unfold coA
  rw [h i j, decide_eq_decide.mpr (show i ≠ j ↔ j ≠ i from ⟨Ne.symm, Ne.symm⟩)]
  cases decide (j ≠ i) <;> cases decide (i < n) <;> cases decide (j < n) <;> rfl
theorem nrA_sy {n : Nat} {ms : List Nat} (h : NrOk n ms) (i j : Nat) : nrA ms i j = nrA ms j i := by
  cases hc : nrA ms i j with
  | true => exact (h.sy i j hc).symm
  | false =>
    cases hd : nrA ms j i with
    | false => rfl
    | true =>
      have : nrA ms i j = true := h.sy j i hd
      rw [hc] at this
      cases this
def whA (n : Nat) (joined : Bool) (ms : List Nat) : Nat → Nat → Bool := if joined = true then nrA ms else coA n (nrA ms)
theorem whA_sy {n : Nat} {ms : List Nat} (h : NrOk n ms) (b : Bool) (i j : Nat) : whA n b ms i j = whA n b ms j i := by
  unfold whA
  cases b with
  | true => exact nrA_sy h i j
  | false => exact coA_sy (nrA_sy h) i j
theorem nr_lt {n : Nat} {ms : List Nat} (h : NrOk n ms) (v : Nat) : ms.getD v 0 < 2 ^ n := by
  refine Nat.lt_of_not_le fun hc => ?_
  obtain ⟨j, hj, hb⟩ := Nat.exists_ge_and_testBit_of_ge_two_pow hc
  have := (h.bd v j hb).2.1
  omega
theorem co_bits : ∀ n : Fin 9, ∀ R : Fin 256, ∀ j : Fin 8, ((2 ^ n.val - 1) - ((2 ^ n.val - 1) &&& R.val)).testBit j.val = (decide (j.val < n.val) && !R.val.testBit j.val) := by decide +kernel
theorem co_nat {n R : Nat} : Builtin.bitAnd (((2 ^ n : Nat) : Int) - 1) (Builtin.bitNot (R : Int)) = (((2 ^ n - 1) - ((2 ^ n - 1) &&& R) : Nat) : Int) := by
  have p0 : 0 < 2 ^ n := Nat.two_pow_pos _
  have hle : (2 ^ n - 1) &&& R ≤ 2 ^ n - 1 := Nat.and_le_left
  rw [bitAnd_not, show ((2 ^ n : Nat) : Int) - 1 = ((2 ^ n - 1 : Nat) : Int) by omega, b_and]
  omega
theorem set_range {β : Type} {N k : Nat} {f : Nat → β} {x : β} : ((List.range N).map f).set k x = (List.range N).map fun i => if i = k then x else f i := by
  refine List.ext_getElem? fun i => ?_
  rw [List.getElem?_set, List.getElem?_map, List.getElem?_map, List.length_map, List.length_range]
  by_cases hi : i < N
  · rw [List.getElem?_range hi]
    by_cases e : k = i
    · subst e
      rw [if_pos rfl, if_pos hi]
      show some x = some (if k = k then x else f k)
      rw [if_pos rfl]
    · rw [if_neg e]
      show some (f i) = some (if i = k then x else f i)
      rw [if_neg (Ne.symm e)]
  · have : (List.range N)[i]? = none := by rw [List.getElem?_eq_none_iff, List.length_range]; omega
    rw [this]
    by_cases e : k = i
    · subst e
      rw [if_pos rfl, if_neg hi]
      rfl
    · rw [if_neg e]
      rfl
theorem free_ok {n : Nat} {ms : List Nat} (h : NrOk n ms) (hn : n ≤ 8) (joined : Bool) : f__law_free (nI ms) joined = W.ret ((List.range (2 ^ n)).map fun m => clB (whA n joined ms) m) := by
  have hl : (nI ms).length = n := by unfold nI; rw [List.length_map, h.len]
  have p8 := pow_le8 hn
  have p0 : 0 < 2 ^ n := Nat.two_pow_pos _
  have hp : W.req (cPow 1 (n : Int) = true) ((1 : Int) * 2 ^ n) = W.ret ((2 ^ n : Nat) : Int) := pw_ok (v := (n : Int)) (by omega) (by omega)
  have hsz : 1000 ≤ sizeLine := by decide
  unfold f__law_free
  simp only [W.ret_bind, W.bind_bind, W.req_T, List.length_cons, List.length_nil, Nat.reduceAdd, Nat.reduceLeDiff, W.opt_some, W.no_ret, W.no_bind, W.no_opt, W.no_req, W.no_no, W.ite_ret, W.cont_go, W.cont_ret, W.cont_brk, if_true, if_false, Bool.false_eq_true, Bool.not_true, Bool.not_false, pyI_int, pyB_bl, py2_tup, gsz, kind_non, kind_bl, kind_int, kind_str, kind_tup, kind_lst, is_tt, is_tc, is_ct, cc_G, Bool.or_false, Bool.or_true, Bool.and_true, Bool.and_false, Bool.true_and, Bool.false_and, Bool.true_or, Bool.false_or, tg_non_non, tg_non_bl, tg_non_int, tg_non_str, tg_non_tup, tg_non_lst, tg_bl_non, tg_bl_bl, tg_bl_int, tg_bl_str, tg_bl_tup, tg_bl_lst, tg_int_non, tg_int_bl, tg_int_int, tg_int_str, tg_int_tup, tg_int_lst, tg_str_non, tg_str_bl, tg_str_int, tg_str_str, tg_str_tup, tg_str_lst, tg_tup_non, tg_tup_bl, tg_tup_int, tg_tup_str, tg_tup_tup, tg_tup_lst, tg_lst_non, tg_lst_bl, tg_lst_int, tg_lst_str, tg_lst_tup, tg_lst_lst, hl, Int.toNat_natCast, hp]
  rw [W.req_true (show -2 ^ 63 ≤ ((2 ^ n : Nat) : Int) ∧ ((2 ^ n : Nat) : Int) < 2 ^ 63 ∧ 1 * 2 ^ n ≤ sizeLine by omega), W.rng2_ok (by omega), W.ret_bind, W.ret_bind, rep_flat]
  let S : Nat → List Bool := fun i => (List.range (2 ^ n)).map fun m => if m ≤ i then clB (whA n joined ms) m else true
  have e0 : List.replicate (2 ^ n) true = S 0 := by
    refine List.ext_getElem (by rw [List.length_replicate, List.length_map, List.length_range]) fun i h1 h2 => ?_
    rw [List.getElem_replicate, List.getElem_map, List.getElem_range]
    by_cases hi : i ≤ 0
    · rw [if_pos hi, show i = 0 by omega, (clB_iff (by decide)).mpr (cl_zero _)]
    · rw [if_neg hi]
  rw [e0]
  refine Eq.trans (congrArg (fun z => W.bind z _) (W.forS_at S fun i x hx => ?_)) ?_
  · obtain ⟨rfl, hlt⟩ := rng_get hx
    have hm : i + 1 < 256 := by omega
    obtain ⟨v, hv, hb, hr, hv1⟩ := low_bit hm (by omega)
    have ei : (1 : Int) + (i : Int) = ((i + 1 : Nat) : Int) := by omega
    have hvn : v < n := bit_lt (k := n) (show i + 1 < 2 ^ n by omega) hb
    have hle := bit_le hb
    have hpos : 0 < 2 ^ v := Nat.two_pow_pos _
    have hRn := nr_lt h v
    rw [ei, hv1, hr]
    have at1 : W.opt (atI (S i) ((i + 1 - 2 ^ v : Nat) : Int)) = W.ret (clB (whA n joined ms) (i + 1 - 2 ^ v)) := W.idxN (by
      show ((List.range (2 ^ n)).map _)[_]? = _
      rw [List.getElem?_map, List.getElem?_range (by omega)]
      show some (if i + 1 - 2 ^ v ≤ i then _ else _) = _
      rw [if_pos (by omega)])
    rw [nI_at (show v < ms.length by rw [h.len]; exact hvn)]
    generalize hB : (if joined = true then ms.getD v 0 else (2 ^ n - 1) - ((2 ^ n - 1) &&& ms.getD v 0)) = B
    have e2 : (if (!joined) = true then Builtin.bitAnd (((2 ^ n : Nat) : Int) - 1) (Builtin.bitNot ((ms.getD v 0 : Nat) : Int)) else ((ms.getD v 0 : Nat) : Int)) = ((B : Nat) : Int) := by
      rw [← hB, co_nat]
      cases joined <;> rfl
    have hBit : ∀ j, (i + 1 - 2 ^ v).testBit j = true → B.testBit j = whA n joined ms v j := fun j hj => by
      have hjn : j < n := bit_lt (k := n) (show i + 1 - 2 ^ v < 2 ^ n by omega) hj
      have hjv : j ≠ v := by
        rw [rest_bit hm hb, Bool.and_eq_true, decide_eq_true_eq] at hj
        exact hj.2
      rw [← hB]
      unfold whA
      cases joined with
      | true => rfl
      | false =>
        rw [if_neg Bool.false_ne_true, if_neg Bool.false_ne_true]
        have := co_bits ⟨n, by omega⟩ ⟨ms.getD v 0, by omega⟩ ⟨j, by omega⟩
        dsimp only at this
        rw [this]
        unfold coA nrA
        rw [decide_eq_true (Ne.symm hjv), decide_eq_true hvn, decide_eq_true hjn]
        simp only [Bool.true_and]
    simp only [W.ret_bind, W.bind_bind, W.req_T, List.length_cons, List.length_nil, Nat.reduceAdd, Nat.reduceLeDiff, W.opt_some, W.no_ret, W.no_bind, W.no_opt, W.no_req, W.no_no, W.ite_ret, W.cont_go, W.cont_ret, W.cont_brk, if_true, if_false, Bool.false_eq_true, Bool.not_true, Bool.not_false, pyI_int, pyB_bl, py2_tup, gsz, kind_non, kind_bl, kind_int, kind_str, kind_tup, kind_lst, is_tt, is_tc, is_ct, cc_G, Bool.or_false, Bool.or_true, Bool.and_true, Bool.and_false, Bool.true_and, Bool.false_and, Bool.true_or, Bool.false_or, tg_non_non, tg_non_bl, tg_non_int, tg_non_str, tg_non_tup, tg_non_lst, tg_bl_non, tg_bl_bl, tg_bl_int, tg_bl_str, tg_bl_tup, tg_bl_lst, tg_int_non, tg_int_bl, tg_int_int, tg_int_str, tg_int_tup, tg_int_lst, tg_str_non, tg_str_bl, tg_str_int, tg_str_str, tg_str_tup, tg_str_lst, tg_tup_non, tg_tup_bl, tg_tup_int, tg_tup_str, tg_tup_tup, tg_tup_lst, tg_lst_non, tg_lst_bl, tg_lst_int, tg_lst_str, tg_lst_tup, tg_lst_lst, e2, at1, b_and]
    rw [W.setN (by show i + 1 < ((List.range (2 ^ n)).map _).length; rw [List.length_map, List.length_range]; omega)]
    refine congrArg W.ret ?_
    show ((List.range (2 ^ n)).map _).set _ _ = _
    rw [set_range]
    refine List.map_congr_left fun m hm' => ?_
    by_cases e : m = i + 1
    · subst e
      rw [if_pos rfl, if_pos (Nat.le_refl _)]
      have k1 := cl_rest (A := whA n joined ms) (whA_sy h joined) hm hb
      have hr8 : i + 1 - 2 ^ v < 256 := by omega
      have k2 : decide (((B &&& (i + 1 - 2 ^ v) : Nat) : Int) = ((i + 1 - 2 ^ v : Nat) : Int)) = true ↔ ∀ j, (i + 1 - 2 ^ v).testBit j = true → whA n joined ms v j = true := by
        rw [decide_eq_true_eq, Nat.and_comm]
        constructor
        · intro z j hj
          have : Sb (i + 1 - 2 ^ v) B := sb_and.mp (beq_iff_eq.mpr (by omega))
          rw [← hBit j hj]
          exact this j hj
        · intro z
          have : Sb (i + 1 - 2 ^ v) B := fun j hj => by rw [hBit j hj]; exact z j hj
          have := beq_iff_eq.mp (sb_and.mpr this)
          omega
      cases hc : clB (whA n joined ms) (i + 1) with
      | true =>
        obtain ⟨q1, q2⟩ := k1.mp ((clB_iff hm).mp hc)
        rw [(clB_iff hr8).mpr q1, if_pos rfl, k2.mpr q2]
      | false =>
        cases hd : clB (whA n joined ms) (i + 1 - 2 ^ v) with
        | false => rfl
        | true =>
          rw [if_pos rfl]
          cases he : decide (((B &&& (i + 1 - 2 ^ v) : Nat) : Int) = ((i + 1 - 2 ^ v : Nat) : Int)) with
          | false => rfl
          | true =>
            have := (clB_iff hm).mpr (k1.mpr ⟨(clB_iff hr8).mp hd, k2.mp he⟩)
            rw [hc] at this
            cases this
    · rw [if_neg e]
      by_cases hle2 : m ≤ i
      · rw [if_pos hle2, if_pos (by omega)]
      · rw [if_neg hle2, if_neg (by omega)]
  · rw [rng_len, W.ret_bind]
    refine congrArg W.ret (List.map_congr_left fun m hm => ?_)
    have := List.mem_range.mp hm
    exact if_pos (by omega)
end Ev
namespace Ev
open PySem PySem.Spec PyProof.Rows L2
/-- a value at most d deep, of graphs, numbers, words -/
inductive Gd : Nat → PV → Prop
  | non (d : Nat) : Gd d .non
  | bl (d : Nat) (b : Bool) : Gd d (.bl b)
  | int (d : Nat) (i : Int) : Gd d (.int i)
  | str (d : Nat) (s : Str) (h : PyData.strOk s = true) : Gd d (.str s)
  | gr (d : Nat) (g : Gr) : Gd d (eG g)
  | tup (d : Nat) (xs : List PV) (hl : xs.length ≤ 1000000) (h : ∀ x ∈ xs, Gd d x) : Gd (d + 1) (.tup xs)
  | lst (d : Nat) (xs : List PV) (hl : xs.length ≤ 1000000) (h : ∀ x ∈ xs, Gd d x) : Gd (d + 1) (.lst xs)
theorem inCS : ("Graph" : Str) ∈ CS := by decide
theorem eqB_str {s : Str} (h : PyData.strOk s = true) : pEqB (.str s) (.str s) = some true := by
  unfold pEqB dataOf
  dsimp only
  rw [show SeqAt.shaped (.str s) = true by simp [SeqAt.shaped, PyData.canLay0, PyData.depth, h]]
  show some (PyData.eqv (.str s) (.str s)) = _
  rw [PyData.eqv]
  simp
theorem gd_at {v : PV} {xs : List PV} (hv : v = .tup xs ∨ v = .lst xs) {i : Int} {x : PV} (h : atI xs i = some x) : pIdx v (.int i) = some x := by rcases hv with rfl | rfl <;> exact h
theorem alike_ok : ∀ (n d : Nat) (x : PV), Gd d x → d < n → f__law_alike n x x = W.ret true
  | 0, _, _, _, h => absurd h (Nat.not_lt_zero _)
  | n + 1, d, x, g, h => by
    have row : ∀ (e : Nat) (v : PV) (xs : List PV), (v = .tup xs ∨ v = .lst xs) → (∀ y ∈ xs, Gd e y) → e < n → ∀ b : Unit → Int → W (St Unit Bool), (∀ k y, pIdx v (.int k) = some y → f__law_alike n y y = W.ret true → b () k = W.ret (.go ())) → W.forB b (rng 0 (xs.length : Int)) () = W.ret (.go ()) := fun e v xs hv hx he b hb => by
      rw [W.forB_find (β := Bool) (fun _ => none) (fun k hk => ?_)]
      · rw [List.findSome?_eq_none_iff.mpr fun _ _ => rfl]
      · obtain ⟨k0, k1⟩ := rng_mem.mp hk
        have hk2 : k.toNat < xs.length := by omega
        exact hb k xs[k.toNat] (gd_at hv (atI_some k0 (List.getElem?_eq_getElem hk2))) (alike_ok n e _ (hx _ (List.getElem_mem hk2)) he)
    cases g with
    | non =>
      unfold f__law_alike
      simp only [W.ret_bind, W.bind_bind, W.req_T, List.length_cons, List.length_nil, Nat.reduceAdd, Nat.reduceLeDiff, W.opt_some, W.no_ret, W.no_bind, W.no_opt, W.no_req, W.no_no, W.ite_ret, W.cont_go, W.cont_ret, W.cont_brk, if_true, if_false, Bool.false_eq_true, Bool.not_true, Bool.not_false, pyI_int, pyB_bl, py2_tup, gsz, kind_non, kind_bl, kind_int, kind_str, kind_tup, kind_lst, is_tt, is_tc, is_ct, cc_G, Bool.or_false, Bool.or_true, Bool.and_true, Bool.and_false, Bool.true_and, Bool.false_and, Bool.true_or, Bool.false_or, tg_non_non, tg_non_bl, tg_non_int, tg_non_str, tg_non_tup, tg_non_lst, tg_bl_non, tg_bl_bl, tg_bl_int, tg_bl_str, tg_bl_tup, tg_bl_lst, tg_int_non, tg_int_bl, tg_int_int, tg_int_str, tg_int_tup, tg_int_lst, tg_str_non, tg_str_bl, tg_str_int, tg_str_str, tg_str_tup, tg_str_lst, tg_tup_non, tg_tup_bl, tg_tup_int, tg_tup_str, tg_tup_tup, tg_tup_lst, tg_lst_non, tg_lst_bl, tg_lst_int, tg_lst_str, tg_lst_tup, tg_lst_lst, isNonP]
    | bl _ b =>
      unfold f__law_alike
      cases b <;> simp only [W.ret_bind, W.bind_bind, W.req_T, List.length_cons, List.length_nil, Nat.reduceAdd, Nat.reduceLeDiff, W.opt_some, W.no_ret, W.no_bind, W.no_opt, W.no_req, W.no_no, W.ite_ret, W.cont_go, W.cont_ret, W.cont_brk, if_true, if_false, Bool.false_eq_true, Bool.not_true, Bool.not_false, pyI_int, pyB_bl, py2_tup, gsz, kind_non, kind_bl, kind_int, kind_str, kind_tup, kind_lst, is_tt, is_tc, is_ct, cc_G, Bool.or_false, Bool.or_true, Bool.and_true, Bool.and_false, Bool.true_and, Bool.false_and, Bool.true_or, Bool.false_or, tg_non_non, tg_non_bl, tg_non_int, tg_non_str, tg_non_tup, tg_non_lst, tg_bl_non, tg_bl_bl, tg_bl_int, tg_bl_str, tg_bl_tup, tg_bl_lst, tg_int_non, tg_int_bl, tg_int_int, tg_int_str, tg_int_tup, tg_int_lst, tg_str_non, tg_str_bl, tg_str_int, tg_str_str, tg_str_tup, tg_str_lst, tg_tup_non, tg_tup_bl, tg_tup_int, tg_tup_str, tg_tup_tup, tg_tup_lst, tg_lst_non, tg_lst_bl, tg_lst_int, tg_lst_str, tg_lst_tup, tg_lst_lst, isNonP, W.ex_bl (show pIsB (.bl true) (.bl true) = some (.bl true) from rfl), W.ex_bl (show pIsB (.bl false) (.bl true) = some (.bl false) from rfl), W.ex_bl (show pIsB (.bl false) (.bl false) = some (.bl true) from rfl)]
    | int _ i =>
      unfold f__law_alike
      simp only [W.ret_bind, W.bind_bind, W.req_T, List.length_cons, List.length_nil, Nat.reduceAdd, Nat.reduceLeDiff, W.opt_some, W.no_ret, W.no_bind, W.no_opt, W.no_req, W.no_no, W.ite_ret, W.cont_go, W.cont_ret, W.cont_brk, if_true, if_false, Bool.false_eq_true, Bool.not_true, Bool.not_false, pyI_int, pyB_bl, py2_tup, gsz, kind_non, kind_bl, kind_int, kind_str, kind_tup, kind_lst, is_tt, is_tc, is_ct, cc_G, Bool.or_false, Bool.or_true, Bool.and_true, Bool.and_false, Bool.true_and, Bool.false_and, Bool.true_or, Bool.false_or, tg_non_non, tg_non_bl, tg_non_int, tg_non_str, tg_non_tup, tg_non_lst, tg_bl_non, tg_bl_bl, tg_bl_int, tg_bl_str, tg_bl_tup, tg_bl_lst, tg_int_non, tg_int_bl, tg_int_int, tg_int_str, tg_int_tup, tg_int_lst, tg_str_non, tg_str_bl, tg_str_int, tg_str_str, tg_str_tup, tg_str_lst, tg_tup_non, tg_tup_bl, tg_tup_int, tg_tup_str, tg_tup_tup, tg_tup_lst, tg_lst_non, tg_lst_bl, tg_lst_int, tg_lst_str, tg_lst_tup, tg_lst_lst, isNonP, W.ex_bl (show pIsB (.int i) (.bl true) = some (.bl false) from rfl), W.ex_bl (show pIsB (.int i) (.bl false) = some (.bl false) from rfl), eA]
      rw [show pEqB (.int i) (.int i) = some (decide (i = i)) from (dat_I).eq (by decide) i i]
      simp only [W.ret_bind, W.bind_bind, W.req_T, List.length_cons, List.length_nil, Nat.reduceAdd, Nat.reduceLeDiff, W.opt_some, W.no_ret, W.no_bind, W.no_opt, W.no_req, W.no_no, W.ite_ret, W.cont_go, W.cont_ret, W.cont_brk, if_true, if_false, Bool.false_eq_true, Bool.not_true, Bool.not_false, pyI_int, pyB_bl, py2_tup, gsz, kind_non, kind_bl, kind_int, kind_str, kind_tup, kind_lst, is_tt, is_tc, is_ct, cc_G, Bool.or_false, Bool.or_true, Bool.and_true, Bool.and_false, Bool.true_and, Bool.false_and, Bool.true_or, Bool.false_or, tg_non_non, tg_non_bl, tg_non_int, tg_non_str, tg_non_tup, tg_non_lst, tg_bl_non, tg_bl_bl, tg_bl_int, tg_bl_str, tg_bl_tup, tg_bl_lst, tg_int_non, tg_int_bl, tg_int_int, tg_int_str, tg_int_tup, tg_int_lst, tg_str_non, tg_str_bl, tg_str_int, tg_str_str, tg_str_tup, tg_str_lst, tg_tup_non, tg_tup_bl, tg_tup_int, tg_tup_str, tg_tup_tup, tg_tup_lst, tg_lst_non, tg_lst_bl, tg_lst_int, tg_lst_str, tg_lst_tup, tg_lst_lst, decide_true]
    | str _ s hs =>
      unfold f__law_alike
      simp only [W.ret_bind, W.bind_bind, W.req_T, List.length_cons, List.length_nil, Nat.reduceAdd, Nat.reduceLeDiff, W.opt_some, W.no_ret, W.no_bind, W.no_opt, W.no_req, W.no_no, W.ite_ret, W.cont_go, W.cont_ret, W.cont_brk, if_true, if_false, Bool.false_eq_true, Bool.not_true, Bool.not_false, pyI_int, pyB_bl, py2_tup, gsz, kind_non, kind_bl, kind_int, kind_str, kind_tup, kind_lst, is_tt, is_tc, is_ct, cc_G, Bool.or_false, Bool.or_true, Bool.and_true, Bool.and_false, Bool.true_and, Bool.false_and, Bool.true_or, Bool.false_or, tg_non_non, tg_non_bl, tg_non_int, tg_non_str, tg_non_tup, tg_non_lst, tg_bl_non, tg_bl_bl, tg_bl_int, tg_bl_str, tg_bl_tup, tg_bl_lst, tg_int_non, tg_int_bl, tg_int_int, tg_int_str, tg_int_tup, tg_int_lst, tg_str_non, tg_str_bl, tg_str_int, tg_str_str, tg_str_tup, tg_str_lst, tg_tup_non, tg_tup_bl, tg_tup_int, tg_tup_str, tg_tup_tup, tg_tup_lst, tg_lst_non, tg_lst_bl, tg_lst_int, tg_lst_str, tg_lst_tup, tg_lst_lst, isNonP, W.ex_bl (show pIsB (.str s) (.bl true) = some (.bl false) from rfl), W.ex_bl (show pIsB (.str s) (.bl false) = some (.bl false) from rfl), eA, eqB_str hs]
    | gr d g =>
      unfold f__law_alike
      simp only [W.ret_bind, W.bind_bind, W.req_T, List.length_cons, List.length_nil, Nat.reduceAdd, Nat.reduceLeDiff, W.opt_some, W.no_ret, W.no_bind, W.no_opt, W.no_req, W.no_no, W.ite_ret, W.cont_go, W.cont_ret, W.cont_brk, if_true, if_false, Bool.false_eq_true, Bool.not_true, Bool.not_false, pyI_int, pyB_bl, py2_tup, gsz, kind_non, kind_bl, kind_int, kind_str, kind_tup, kind_lst, is_tt, is_tc, is_ct, cc_G, Bool.or_false, Bool.or_true, Bool.and_true, Bool.and_false, Bool.true_and, Bool.false_and, Bool.true_or, Bool.false_or, tg_non_non, tg_non_bl, tg_non_int, tg_non_str, tg_non_tup, tg_non_lst, tg_bl_non, tg_bl_bl, tg_bl_int, tg_bl_str, tg_bl_tup, tg_bl_lst, tg_int_non, tg_int_bl, tg_int_int, tg_int_str, tg_int_tup, tg_int_lst, tg_str_non, tg_str_bl, tg_str_int, tg_str_str, tg_str_tup, tg_str_lst, tg_tup_non, tg_tup_bl, tg_tup_int, tg_tup_str, tg_tup_tup, tg_tup_lst, tg_lst_non, tg_lst_bl, tg_lst_int, tg_lst_str, tg_lst_tup, tg_lst_lst, kind_eG g inCS, W.ex_eG, decide_true]
    | tup e xs hl hx =>
      unfold f__law_alike
      simp only [W.ret_bind, W.bind_bind, W.req_T, List.length_cons, List.length_nil, Nat.reduceAdd, Nat.reduceLeDiff, W.opt_some, W.no_ret, W.no_bind, W.no_opt, W.no_req, W.no_no, W.ite_ret, W.cont_go, W.cont_ret, W.cont_brk, if_true, if_false, Bool.false_eq_true, Bool.not_true, Bool.not_false, pyI_int, pyB_bl, py2_tup, gsz, kind_non, kind_bl, kind_int, kind_str, kind_tup, kind_lst, is_tt, is_tc, is_ct, cc_G, Bool.or_false, Bool.or_true, Bool.and_true, Bool.and_false, Bool.true_and, Bool.false_and, Bool.true_or, Bool.false_or, tg_non_non, tg_non_bl, tg_non_int, tg_non_str, tg_non_tup, tg_non_lst, tg_bl_non, tg_bl_bl, tg_bl_int, tg_bl_str, tg_bl_tup, tg_bl_lst, tg_int_non, tg_int_bl, tg_int_int, tg_int_str, tg_int_tup, tg_int_lst, tg_str_non, tg_str_bl, tg_str_int, tg_str_str, tg_str_tup, tg_str_lst, tg_tup_non, tg_tup_bl, tg_tup_int, tg_tup_str, tg_tup_tup, tg_tup_lst, tg_lst_non, tg_lst_bl, tg_lst_int, tg_lst_str, tg_lst_tup, tg_lst_lst, W.ex_int (show bLen [PV.tup xs] = some (.int xs.length) from rfl), decide_true, W.rng1_nat hl]
      rw [row e (.tup xs) xs (.inl rfl) hx (by omega) _ fun k y h1 h2 => by simp only [W.ret_bind, W.bind_bind, W.req_T, List.length_cons, List.length_nil, Nat.reduceAdd, Nat.reduceLeDiff, W.opt_some, W.no_ret, W.no_bind, W.no_opt, W.no_req, W.no_no, W.ite_ret, W.cont_go, W.cont_ret, W.cont_brk, if_true, if_false, Bool.false_eq_true, Bool.not_true, Bool.not_false, pyI_int, pyB_bl, py2_tup, gsz, kind_non, kind_bl, kind_int, kind_str, kind_tup, kind_lst, is_tt, is_tc, is_ct, cc_G, Bool.or_false, Bool.or_true, Bool.and_true, Bool.and_false, Bool.true_and, Bool.false_and, Bool.true_or, Bool.false_or, tg_non_non, tg_non_bl, tg_non_int, tg_non_str, tg_non_tup, tg_non_lst, tg_bl_non, tg_bl_bl, tg_bl_int, tg_bl_str, tg_bl_tup, tg_bl_lst, tg_int_non, tg_int_bl, tg_int_int, tg_int_str, tg_int_tup, tg_int_lst, tg_str_non, tg_str_bl, tg_str_int, tg_str_str, tg_str_tup, tg_str_lst, tg_tup_non, tg_tup_bl, tg_tup_int, tg_tup_str, tg_tup_tup, tg_tup_lst, tg_lst_non, tg_lst_bl, tg_lst_int, tg_lst_str, tg_lst_tup, tg_lst_lst, h1, h2]]
      rfl
    | lst e xs hl hx =>
      unfold f__law_alike
      simp only [W.ret_bind, W.bind_bind, W.req_T, List.length_cons, List.length_nil, Nat.reduceAdd, Nat.reduceLeDiff, W.opt_some, W.no_ret, W.no_bind, W.no_opt, W.no_req, W.no_no, W.ite_ret, W.cont_go, W.cont_ret, W.cont_brk, if_true, if_false, Bool.false_eq_true, Bool.not_true, Bool.not_false, pyI_int, pyB_bl, py2_tup, gsz, kind_non, kind_bl, kind_int, kind_str, kind_tup, kind_lst, is_tt, is_tc, is_ct, cc_G, Bool.or_false, Bool.or_true, Bool.and_true, Bool.and_false, Bool.true_and, Bool.false_and, Bool.true_or, Bool.false_or, tg_non_non, tg_non_bl, tg_non_int, tg_non_str, tg_non_tup, tg_non_lst, tg_bl_non, tg_bl_bl, tg_bl_int, tg_bl_str, tg_bl_tup, tg_bl_lst, tg_int_non, tg_int_bl, tg_int_int, tg_int_str, tg_int_tup, tg_int_lst, tg_str_non, tg_str_bl, tg_str_int, tg_str_str, tg_str_tup, tg_str_lst, tg_tup_non, tg_tup_bl, tg_tup_int, tg_tup_str, tg_tup_tup, tg_tup_lst, tg_lst_non, tg_lst_bl, tg_lst_int, tg_lst_str, tg_lst_tup, tg_lst_lst, W.ex_int (show bLen [PV.lst xs] = some (.int xs.length) from rfl), decide_true, W.rng1_nat hl]
      rw [row e (.lst xs) xs (.inr rfl) hx (by omega) _ fun k y h1 h2 => by simp only [W.ret_bind, W.bind_bind, W.req_T, List.length_cons, List.length_nil, Nat.reduceAdd, Nat.reduceLeDiff, W.opt_some, W.no_ret, W.no_bind, W.no_opt, W.no_req, W.no_no, W.ite_ret, W.cont_go, W.cont_ret, W.cont_brk, if_true, if_false, Bool.false_eq_true, Bool.not_true, Bool.not_false, pyI_int, pyB_bl, py2_tup, gsz, kind_non, kind_bl, kind_int, kind_str, kind_tup, kind_lst, is_tt, is_tc, is_ct, cc_G, Bool.or_false, Bool.or_true, Bool.and_true, Bool.and_false, Bool.true_and, Bool.false_and, Bool.true_or, Bool.false_or, tg_non_non, tg_non_bl, tg_non_int, tg_non_str, tg_non_tup, tg_non_lst, tg_bl_non, tg_bl_bl, tg_bl_int, tg_bl_str, tg_bl_tup, tg_bl_lst, tg_int_non, tg_int_bl, tg_int_int, tg_int_str, tg_int_tup, tg_int_lst, tg_str_non, tg_str_bl, tg_str_int, tg_str_str, tg_str_tup, tg_str_lst, tg_tup_non, tg_tup_bl, tg_tup_int, tg_tup_str, tg_tup_tup, tg_tup_lst, tg_lst_non, tg_lst_bl, tg_lst_int, tg_lst_str, tg_lst_tup, tg_lst_lst, h1, h2]]
      rfl
theorem W.graph_ok {n : Nat} {qs : List (Int × Int)} (h1 : 1 ≤ n) (h2 : n ≤ 24) (g : GoodE n qs) : W.graph (n : Int) qs = W.ret ⟨n, qs⟩ := W.ext fun Q X => ⟨fun ⟨m, e, _, _, _, q⟩ => by
    have : n = m := by omega
    subst this
    exact q, fun q => ⟨n, rfl, h1, h2, g, q⟩⟩
end Ev
namespace Ev
open PySem PySem.Spec PyProof.Rows L2
theorem exh_ok {g : Gr} (h : g.n ≤ 8) : f_require_exhaustible g = W.ret () := by
  unfold f_require_exhaustible f_require_vertices
  simp only [W.ret_bind, W.bind_bind, W.req_T, List.length_cons, List.length_nil, Nat.reduceAdd, Nat.reduceLeDiff, W.opt_some, W.no_ret, W.no_bind, W.no_opt, W.no_req, W.no_no, W.ite_ret, W.cont_go, W.cont_ret, W.cont_brk, if_true, if_false, Bool.false_eq_true, Bool.not_true, Bool.not_false, pyI_int, pyB_bl, py2_tup, gsz, kind_non, kind_bl, kind_int, kind_str, kind_tup, kind_lst, is_tt, is_tc, is_ct, cc_G, Bool.or_false, Bool.or_true, Bool.and_true, Bool.and_false, Bool.true_and, Bool.false_and, Bool.true_or, Bool.false_or, tg_non_non, tg_non_bl, tg_non_int, tg_non_str, tg_non_tup, tg_non_lst, tg_bl_non, tg_bl_bl, tg_bl_int, tg_bl_str, tg_bl_tup, tg_bl_lst, tg_int_non, tg_int_bl, tg_int_int, tg_int_str, tg_int_tup, tg_int_lst, tg_str_non, tg_str_bl, tg_str_int, tg_str_str, tg_str_tup, tg_str_lst, tg_tup_non, tg_tup_bl, tg_tup_int, tg_tup_str, tg_tup_tup, tg_tup_lst, tg_lst_non, tg_lst_bl, tg_lst_int, tg_lst_str, tg_lst_tup, tg_lst_lst, show gr_size g = (g.n : Int) from rfl, decide_eq_false (show ¬ C_MOST_EXHAUSTIVE < (g.n : Int) by show ¬ (8 : Int) < g.n; omega)]
theorem exh_bad {g : Gr} (h : 8 < g.n) : f_require_exhaustible g = W.err (mkE "TooLarge" ["what"] [.str "vertices"]) := by
  unfold f_require_exhaustible f_require_vertices
  simp only [W.ret_bind, W.bind_bind, W.req_T, List.length_cons, List.length_nil, Nat.reduceAdd, Nat.reduceLeDiff, W.opt_some, W.no_ret, W.no_bind, W.no_opt, W.no_req, W.no_no, W.ite_ret, W.cont_go, W.cont_ret, W.cont_brk, if_true, if_false, Bool.false_eq_true, Bool.not_true, Bool.not_false, pyI_int, pyB_bl, py2_tup, gsz, kind_non, kind_bl, kind_int, kind_str, kind_tup, kind_lst, is_tt, is_tc, is_ct, cc_G, Bool.or_false, Bool.or_true, Bool.and_true, Bool.and_false, Bool.true_and, Bool.false_and, Bool.true_or, Bool.false_or, tg_non_non, tg_non_bl, tg_non_int, tg_non_str, tg_non_tup, tg_non_lst, tg_bl_non, tg_bl_bl, tg_bl_int, tg_bl_str, tg_bl_tup, tg_bl_lst, tg_int_non, tg_int_bl, tg_int_int, tg_int_str, tg_int_tup, tg_int_lst, tg_str_non, tg_str_bl, tg_str_int, tg_str_str, tg_str_tup, tg_str_lst, tg_tup_non, tg_tup_bl, tg_tup_int, tg_tup_str, tg_tup_tup, tg_tup_lst, tg_lst_non, tg_lst_bl, tg_lst_int, tg_lst_str, tg_lst_tup, tg_lst_lst, show gr_size g = (g.n : Int) from rfl, decide_eq_true (show C_MOST_EXHAUSTIVE < (g.n : Int) by show (8 : Int) < g.n; omega)]
  rfl
theorem W.err_bind {α β : Type} (e : PErr) (k : α → W β) : W.bind (W.err e) k = W.err e := rfl
theorem W.try_ret {α : Type} (es : List Str) (g : Str) (b : Bool) (x : α) (h : PErr → W α) : W.tryC es g b (W.ret x) h = W.ret x := rfl
theorem W.try_err {α : Type} {es : List Str} {g : Str} {e : PErr} {h : PErr → W α} (he : e.cls ∈ es) : W.tryC es g true (W.err e) h = h e := W.ext fun Q X => ⟨fun ⟨_, q⟩ => q, fun q => ⟨he, q⟩⟩
theorem tell_hit {es : List Str} {c t f : Str} {r : List (Str × Str × Str)} {e : PErr} {v : PV} (h1 : c ∈ es) (h2 : e.cls = c) (h3 : e.args.lookup f = some v) : tellW es ((c, t, f) :: r) e = W.ret (.ret (.tup [.str t, v])) := W.ext fun Q X => by
  unfold tellW
  rw [if_pos h2, h3, W.opt_some]
  exact ⟨fun q => q.2, fun q => ⟨h1, q⟩⟩
theorem nI_len (ms : List Nat) : (nI ms).length = ms.length := by unfold nI; rw [List.length_map]
theorem gd_ints (d : Nat) (xs : List Int) (h : xs.length ≤ 1000000) : Gd (d + 1) (eT eI xs) := .tup d _ (by rw [List.length_map]; exact h) fun x hx => by obtain ⟨i, _, rfl⟩ := List.mem_map.mp hx; exact .int d i
theorem gd_2 {d : Nat} {p q : PV} (hp : Gd d p) (hq : Gd d q) : Gd (d + 1) (.tup [p, q]) := .tup d _ (by simp) fun x hx => by
  rcases List.mem_cons.mp hx with rfl | hx
  · exact hp
  · rw [List.mem_singleton.mp hx]; exact hq
theorem gd_prs (d : Nat) (qs : List (Int × Int)) (h : qs.length ≤ 1000000) : Gd (d + 2) (eT (eP2 eI eI) qs) := .tup (d + 1) _ (by rw [List.length_map]; exact h) fun x hx => by
  obtain ⟨q, _, rfl⟩ := List.mem_map.mp hx
  exact gd_2 (.int d _) (.int d _)
end Ev
namespace Ev
open PySem PySem.Spec PyProof.Rows L2
end Ev
namespace Ev
def cmb : List Int → List (Nat → Int) → Nat → Int
  | c :: cs, r :: rs, j => c * r j + cmb cs rs j
  | _, _, _ => 0
theorem cmb_app : ∀ {a : List Int} {x : List (Nat → Int)} (b : List Int) (y : List (Nat → Int)) (j : Nat), a.length = x.length → cmb (a ++ b) (x ++ y) j = cmb a x j + cmb b y j
  | [], [], b, y, j, _ => by simp [cmb]
  | [], _ :: _, _, _, _, h => by simp at h
  | _ :: _, [], _, _, _, h => by simp at h
  | c :: a, r :: x, b, y, j, h => by
    have ih := cmb_app (a := a) (x := x) b y j (by simpa using h)
    show c * r j + cmb (a ++ b) (x ++ y) j = c * r j + cmb a x j + cmb b y j
    rw [ih]
    omega
theorem cmb_mul (k : Int) : ∀ (a : List Int) (x : List (Nat → Int)) (j : Nat), cmb (a.map (k * ·)) x j = k * cmb a x j
  | [], x, j => by simp [cmb]
  | c :: a, [], j => by simp [cmb]
  | c :: a, r :: x, j => by
    show k * c * r j + cmb (a.map (k * ·)) x j = k * (c * r j + cmb a x j)
    rw [cmb_mul k a x j, Int.mul_add, Int.mul_assoc]
/-- a row, its place n wiped by another row -/
def wip (r : Nat → Int) (n : Nat) (x : Nat → Int) : Nat → Int := fun j => r n * x j - x n * r j
theorem cmb_wip (r : Nat → Int) (n : Nat) : ∀ (a : List Int) (x : List (Nat → Int)) (j : Nat), cmb a (x.map (wip r n)) j = r n * cmb a x j - cmb a x n * r j
  | [], x, j => by cases x <;> simp [cmb]
  | c :: a, [], j => by simp [cmb]
  | c :: a, y :: x, j => by
    show c * (r n * y j - y n * r j) + cmb a (x.map (wip r n)) j = r n * (c * y j + cmb a x j) - (c * y n + cmb a x n) * r j
    rw [cmb_wip r n a x j, Int.mul_sub, Int.mul_add, Int.add_mul, Int.mul_left_comm c (r n) (y j), Int.mul_assoc c (y n) (r j)]
    omega
theorem cmb_zero {n : Nat} : ∀ (a : List Int) {x : List (Nat → Int)}, (∀ r ∈ x, r n = 0) → cmb a x n = 0
  | [], _, _ => by simp [cmb]
  | c :: a, [], _ => by simp [cmb]
  | c :: a, r :: x, h => by
    show c * r n + cmb a x n = 0
    rw [h r List.mem_cons_self, cmb_zero a fun s hs => h s (List.mem_cons_of_mem _ hs), Int.mul_zero]
    rfl
theorem dep : ∀ (n : Nat) (x : List (Nat → Int)), n < x.length → ∃ a : List Int, a.length = x.length ∧ (∃ c ∈ a, c ≠ 0) ∧ ∀ j < n, cmb a x j = 0
  | 0, x, h => ⟨List.replicate x.length 1, by simp, ⟨1, List.mem_replicate.mpr ⟨by omega, rfl⟩, by decide⟩, fun j hj => by omega⟩
  | n + 1, x, h => by
    by_cases hz : ∀ r ∈ x, r n = 0
    · obtain ⟨a, h1, h2, h3⟩ := dep n x (by omega)
      refine ⟨a, h1, h2, fun j hj => ?_⟩
      by_cases e : j = n
      · subst e; exact cmb_zero a hz
      · exact h3 j (by omega)
    · obtain ⟨r, hr, h0⟩ : ∃ r ∈ x, r n ≠ 0 := by
        apply Classical.byContradiction
        intro z
        exact hz fun r hr => Classical.byContradiction fun y => z ⟨r, hr, y⟩
      obtain ⟨l1, l2, rfl⟩ := List.append_of_mem hr
      rw [List.length_append, List.length_cons] at h
      obtain ⟨a, h1, ⟨c, hc, hc0⟩, h3⟩ := dep n ((l1 ++ l2).map (wip r n)) (by rw [List.length_map, List.length_append]; omega)
      rw [List.length_map, List.length_append] at h1
      have ht : (a.take l1.length).length = l1.length := by rw [List.length_take]; omega
      have sp : ∀ j, cmb a (l1 ++ l2) j = cmb (a.take l1.length) l1 j + cmb (a.drop l1.length) l2 j := fun j => by
        have := cmb_app (a := a.take l1.length) (x := l1) (a.drop l1.length) l2 j ht
        rwa [List.take_append_drop] at this
      refine ⟨(a.take l1.length).map (r n * ·) ++ (-cmb a (l1 ++ l2) n) :: (a.drop l1.length).map (r n * ·), ?_, ⟨r n * c, ?_, Int.mul_ne_zero h0 hc0⟩, fun j hj => ?_⟩
      · rw [List.length_append, List.length_cons, List.length_map, List.length_map, ht, List.length_drop, List.length_append, List.length_cons]
        omega
      · rw [← List.take_append_drop l1.length a] at hc
        rcases List.mem_append.mp hc with hc | hc
        · exact List.mem_append_left _ (List.mem_map.mpr ⟨c, hc, rfl⟩)
        · exact List.mem_append_right _ (List.mem_cons_of_mem _ (List.mem_map.mpr ⟨c, hc, rfl⟩))
      · rw [cmb_app _ _ _ (by rw [List.length_map]; exact ht)]
        show cmb ((a.take l1.length).map (r n * ·)) l1 j + (-cmb a (l1 ++ l2) n * r j + cmb ((a.drop l1.length).map (r n * ·)) l2 j) = 0
        rw [cmb_mul, cmb_mul]
        have e := cmb_wip r n a (l1 ++ l2) j
        have e2 : r n * cmb a (l1 ++ l2) j = r n * cmb (a.take l1.length) l1 j + r n * cmb (a.drop l1.length) l2 j := by rw [sp, Int.mul_add]
        by_cases ej : j = n
        · subst ej
          have e3 : cmb a (l1 ++ l2) j * r j = r j * cmb a (l1 ++ l2) j := Int.mul_comm _ _
          rw [Int.neg_mul]
          omega
        · have := h3 j (by omega)
          rw [Int.neg_mul]
          omega
end Ev
namespace Ev
/-- no two joined -/
def In (A : Nat → Nat → Bool) (m : Nat) : Prop := ∀ i j, i ≠ j → m.testBit i = true → m.testBit j = true → A i j = false
/-- a mask in classes of which none holds two that are joined -/
structure Part (A : Nat → Nat → Bool) (m : Nat) (cs : List Nat) : Prop where
  ind : ∀ c ∈ cs, In A c
  cnt : ∀ j, (cs.countP fun c => c.testBit j) = if m.testBit j = true then 1 else 0
theorem Part.sb {A : Nat → Nat → Bool} {m : Nat} {cs : List Nat} (h : Part A m cs) {c : Nat} (hc : c ∈ cs) : Sb c m := fun j hj => by
  have := h.cnt j
  have p : 0 < cs.countP fun c => c.testBit j := List.countP_pos_iff.mpr ⟨c, hc, hj⟩
  cases hm : m.testBit j with
  | true => rfl
  | false => rw [hm, if_neg Bool.false_ne_true] at this; omega
end Ev
namespace Ev
structure IsChi (A : Nat → Nat → Bool) (m k : Nat) : Prop where
  ex : ∃ cs, Part A m cs ∧ cs.length = k
  lo : ∀ cs, Part A m cs → k ≤ cs.length
theorem IsChi.uniq {A : Nat → Nat → Bool} {m k l : Nat} (h : IsChi A m k) (h' : IsChi A m l) : k = l := by
  obtain ⟨cs, P, e⟩ := h.ex
  obtain ⟨ds, Q, f⟩ := h'.ex
  have := h.lo ds Q
  have := h'.lo cs P
  omega
theorem chi_zero (A : Nat → Nat → Bool) : IsChi A 0 0 := ⟨⟨[], ⟨(fun c hc => by cases hc), fun j => by rw [Nat.zero_testBit]; rfl⟩, rfl⟩, fun cs _ => Nat.zero_le _⟩
theorem Part.cons {A : Nat → Nat → Bool} {m c : Nat} {cs : List Nat} (s : Sb c m) (hc : In A c) (P : Part A (m ^^^ c) cs) : Part A m (c :: cs) := by
  refine ⟨fun d hd => ?_, fun j => ?_⟩
  · rcases List.mem_cons.mp hd with rfl | hd
    · exact hc
    · exact P.ind d hd
  · have e := P.cnt j
    rw [Nat.testBit_xor] at e
    cases h2 : c.testBit j with
    | true =>
      rw [h2, s j h2, if_neg (by decide)] at e
      rw [List.countP_cons_of_pos (by exact h2), s j h2, if_pos rfl]
      omega
    | false =>
      rw [h2, Bool.xor_false] at e
      rw [List.countP_cons_of_neg (by rw [h2]; exact Bool.false_ne_true), e]
theorem Part.erase {A : Nat → Nat → Bool} {m c : Nat} {cs : List Nat} (P : Part A m cs) (hc : c ∈ cs) : Part A (m ^^^ c) (cs.erase c) := by
  refine ⟨fun d hd => P.ind d (List.mem_of_mem_erase hd), fun j => ?_⟩
  have e := P.cnt j
  rw [(List.perm_cons_erase hc).countP_eq] at e
  rw [Nat.testBit_xor]
  cases h2 : c.testBit j with
  | true =>
    rw [List.countP_cons_of_pos (by exact h2), P.sb hc j h2, if_pos rfl] at e
    rw [P.sb hc j h2, if_neg (by decide)]
    omega
  | false =>
    rw [List.countP_cons_of_neg (by rw [h2]; exact Bool.false_ne_true)] at e
    rw [Bool.xor_false]
    exact e
theorem xor_lt {m c l : Nat} (s : Sb c m) (hl : c.testBit l = true) : m ^^^ c < m := by
  have h1 : (m ^^^ c) &&& m = m ^^^ c := Nat.eq_of_testBit_eq fun j => by
    rw [Nat.testBit_and, Nat.testBit_xor]
    cases hc : c.testBit j with
    | true => rw [s j hc]; rfl
    | false => cases m.testBit j <;> rfl
  have h2 : m ^^^ c ≤ m := by rw [← h1]; exact Nat.and_le_right
  refine Nat.lt_of_le_of_ne h2 fun z => ?_
  have e := Nat.testBit_xor m c l
  rw [z, hl, s l hl] at e
  cases e
/-- the class of a vertex, and the rest -/
theorem chi_step {A : Nat → Nat → Bool} {m l k : Nat} (hb : m.testBit l = true) (hr : ∀ s, s < m → ∃ r, IsChi A s r) (h1 : ∃ c r, Sb c m ∧ In A c ∧ c.testBit l = true ∧ IsChi A (m ^^^ c) r ∧ k = r + 1) (h2 : ∀ c r, Sb c m → In A c → c.testBit l = true → IsChi A (m ^^^ c) r → k ≤ r + 1) : IsChi A m k := by
  refine ⟨?_, fun cs P => ?_⟩
  · obtain ⟨c, r, s, hc, _, hx, rfl⟩ := h1
    obtain ⟨cs, P, e⟩ := hx.ex
    exact ⟨c :: cs, P.cons s hc, by rw [List.length_cons, e]⟩
  · have e := P.cnt l
    rw [if_pos hb] at e
    obtain ⟨c, hc, hl⟩ := List.countP_pos_iff.mp (show 0 < cs.countP fun c => c.testBit l by omega)
    obtain ⟨r, hx⟩ := hr _ (xor_lt (P.sb hc) hl)
    have a := h2 c r (P.sb hc) (P.ind c hc) hl hx
    have b := hx.lo _ (P.erase hc)
    have := (List.perm_cons_erase hc).length_eq
    rw [List.length_cons] at this
    omega
end Ev
namespace Ev
open PySem PySem.Spec PyProof.Rows
theorem t_less : ((List.range 256).all fun x => (List.range 256).all fun R => Nat.beq (x - (x &&& R)) (x &&& (255 ^^^ R))) = true := by decide +kernel
theorem less_and {x R : Nat} (hx : x < 256) (hR : R < 256) : x - (x &&& R) = x &&& (255 ^^^ R) := by
  have a := List.all_eq_true.mp t_less x (List.mem_range.mpr hx)
  have b := List.all_eq_true.mp a R (List.mem_range.mpr hR)
  exact Nat.eq_of_beq_eq_true b
theorem less_bit {x R : Nat} (hx : x < 256) (hR : R < 256) (j : Nat) : (x - (x &&& R)).testBit j = (x.testBit j && !R.testBit j) := by
  rw [less_and hx hR, Nat.testBit_and, Nat.testBit_xor, show (255 : Nat) = 2 ^ 8 - 1 by decide, Nat.testBit_two_pow_sub_one]
  cases hj : x.testBit j with
  | false => rfl
  | true =>
    rw [decide_eq_true (bit_lt (k := 8) hx hj)]
    cases R.testBit j <;> rfl
theorem b_xor {m c : Nat} (hm : m < 256) (hc : c < 256) : Builtin.bitXor (m : Int) (c : Int) = ((m ^^^ c : Nat) : Int) := by
  have ho : m ||| c < 256 := Nat.or_lt_two_pow (n := 8) hm hc
  have ha : m &&& c < 256 := Nat.lt_of_le_of_lt Nat.and_le_left hm
  have e : (m ||| c) &&& (m &&& c) = m &&& c := Nat.eq_of_testBit_eq fun j => by
    rw [Nat.testBit_and, Nat.testBit_or, Nat.testBit_and]
    cases m.testBit j <;> cases c.testBit j <;> rfl
  have h : (m ||| c) - (m &&& c) = m ^^^ c := Nat.eq_of_testBit_eq fun j => by
    have := less_bit ho ha j
    rw [e] at this
    rw [this, Nat.testBit_or, Nat.testBit_and, Nat.testBit_xor]
    cases m.testBit j <;> cases c.testBit j <;> rfl
  have hle : m &&& c ≤ m ||| c := by
    rw [← e]; exact Nat.and_le_left
  unfold Builtin.bitXor
  rw [b_or, b_and]
  omega
theorem b_less {x R : Nat} : Builtin.bitAnd (x : Int) (Builtin.bitNot (R : Int)) = ((x - (x &&& R) : Nat) : Int) := by
  have hle : x &&& R ≤ x := Nat.and_le_left
  rw [bitAnd_not, b_and]
  omega
end Ev
namespace Ev
open PySem PySem.Spec PyProof.Rows L2
theorem within_ok (c m : Nat) : f_is_within (c : Int) (m : Int) = W.ret (decide (c &&& m = c)) := by
  unfold f_is_within
  simp only [W.ret_bind, W.bind_bind, W.req_T, List.length_cons, List.length_nil, Nat.reduceAdd, Nat.reduceLeDiff, W.opt_some, W.no_ret, W.no_bind, W.no_opt, W.no_req, W.no_no, W.ite_ret, W.cont_go, W.cont_ret, W.cont_brk, if_true, if_false, Bool.false_eq_true, Bool.not_true, Bool.not_false, pyI_int, pyB_bl, py2_tup, gsz, kind_non, kind_bl, kind_int, kind_str, kind_tup, kind_lst, is_tt, is_tc, is_ct, cc_G, Bool.or_false, Bool.or_true, Bool.and_true, Bool.and_false, Bool.true_and, Bool.false_and, Bool.true_or, Bool.false_or, tg_non_non, tg_non_bl, tg_non_int, tg_non_str, tg_non_tup, tg_non_lst, tg_bl_non, tg_bl_bl, tg_bl_int, tg_bl_str, tg_bl_tup, tg_bl_lst, tg_int_non, tg_int_bl, tg_int_int, tg_int_str, tg_int_tup, tg_int_lst, tg_str_non, tg_str_bl, tg_str_int, tg_str_str, tg_str_tup, tg_str_lst, tg_tup_non, tg_tup_bl, tg_tup_int, tg_tup_str, tg_tup_tup, tg_tup_lst, tg_lst_non, tg_lst_bl, tg_lst_int, tg_lst_str, tg_lst_tup, tg_lst_lst, b_and]
  exact congrArg W.ret (decide_eq_decide.mpr (by omega))
theorem within_sb {c m : Nat} : decide (c &&& m = c) = true ↔ Sb c m := by
  rw [decide_eq_true_eq, ← sb_and, beq_iff_eq]
/-- the rows of masks without joined vertices, by their last vertex -/
structure SetsOk (A : Nat → Nat → Bool) (n : Nat) (s : List (List Nat)) : Prop where
  len : s.length = n
  mem : ∀ (u : Nat) (r : List Nat), s[u]? = some r → ∀ c, c ∈ r ↔ c < 2 ^ (u + 1) ∧ c.testBit u = true ∧ In A c
  sum : s.flatten.length + 1 ≤ 2 ^ n
def setN (B : Nat → Nat) (s : List (List Nat)) (v : Nat) : List (List Nat) := s ++ [2 ^ v :: s.flatMap fun r => (r.filter fun c => decide (c &&& B v = 0)).map fun c => 2 ^ v ||| c]
theorem top_bit {m : Nat} (h : m < 256) (h0 : m ≠ 0) : ∃ v : Nat, m.testBit v = true ∧ m < 2 ^ (v + 1) := by
  have : ∀ m : Fin 256, m.val ≠ 0 → ∃ v : Fin 8, m.val.testBit v.val = true ∧ m.val < 2 ^ (v.val + 1) := by decide +kernel
  obtain ⟨v, h1, h2⟩ := this ⟨m, h⟩ h0
  exact ⟨v.val, h1, h2⟩
theorem fm_len (p : Nat → Bool) (f : Nat → Nat) : ∀ s : List (List Nat), (s.flatMap fun r => (r.filter p).map f).length ≤ s.flatten.length
  | [] => Nat.le_refl _
  | r :: s => by
    rw [List.flatMap_cons, List.length_append, List.flatten_cons, List.length_append, List.length_map]
    have := fm_len p f s
    have := List.length_filter_le p r
    omega
theorem sets_step {A : Nat → Nat → Bool} (sy : ∀ i j, A i j = A j i) {B : Nat → Nat} (hB : ∀ v j, (B v).testBit j = A v j) {n : Nat} (hn : n < 8) {s : List (List Nat)} (h : SetsOk A n s) : SetsOk A (n + 1) (setN B s n) := by
  refine ⟨?_, fun u r hr c => ?_, ?_⟩
  · unfold setN
    rw [List.length_append, h.len]
    rfl
  · unfold setN at hr
    by_cases hu : u < n
    · rw [List.getElem?_append_left (by rw [h.len]; exact hu)] at hr
      exact h.mem u r hr c
    · have hu2 : u = n := by
        have := (List.getElem?_eq_some_iff.mp hr).1
        rw [List.length_append, h.len, List.length_singleton] at this
        omega
      subst hu2
      rw [List.getElem?_append_right (by rw [h.len]; exact Nat.le_refl _), h.len, Nat.sub_self] at hr
      have hr : _ = r := Option.some.inj hr
      subst hr
      have pw : 2 ^ (u + 1) ≤ 256 := Nat.pow_le_pow_right (n := 2) (by decide) (show u + 1 ≤ 8 by omega)
      have tp : ∀ j, (2 ^ u).testBit j = decide (u = j) := fun j => Nat.testBit_two_pow
      constructor
      · intro hc
        rcases List.mem_cons.mp hc with rfl | hc
        · refine ⟨Nat.pow_lt_pow_right (by decide) (by omega), by rw [tp]; simp, fun i j ne hi hj => ?_⟩
          rw [tp, decide_eq_true_eq] at hi hj
          omega
        · obtain ⟨r, hr, hc⟩ := List.mem_flatMap.mp hc
          obtain ⟨d, hd, rfl⟩ := List.mem_map.mp hc
          obtain ⟨hd, hz⟩ := List.mem_filter.mp hd
          rw [decide_eq_true_eq] at hz
          obtain ⟨k, hk⟩ := List.getElem?_of_mem hr
          have hkl : k < u := by have := (List.getElem?_eq_some_iff.mp hk).1; rw [h.len] at this; exact this
          obtain ⟨d1, d2, d3⟩ := (h.mem k r hk d).mp hd
          have dl : d < 2 ^ u := Nat.lt_of_lt_of_le d1 (Nat.pow_le_pow_right (by decide) (by omega))
          have nb : ∀ j, d.testBit j = true → A u j = false := fun j hj => by
            have : (d &&& B u).testBit j = (0 : Nat).testBit j := by rw [hz]
            rw [Nat.testBit_and, hj, Bool.true_and, hB, Nat.zero_testBit] at this
            exact this
          refine ⟨?_, by rw [Nat.testBit_or, tp]; simp, fun i j ne hi hj => ?_⟩
          · exact Nat.or_lt_two_pow (Nat.pow_lt_pow_right (by decide) (by omega)) (Nat.lt_of_lt_of_le dl (Nat.pow_le_pow_right (by decide) (by omega)))
          · rw [Nat.testBit_or, tp, Bool.or_eq_true, decide_eq_true_eq] at hi hj
            rcases hi with rfl | hi
            · rcases hj with rfl | hj
              · exact absurd rfl ne
              · exact nb j hj
            · rcases hj with rfl | hj
              · rw [sy]; exact nb i hi
              · exact d3 i j ne hi hj
      · rintro ⟨c1, c2, c3⟩
        by_cases hc : c = 2 ^ u
        · rw [hc]; exact List.mem_cons_self
        · refine List.mem_cons_of_mem _ ?_
          have c8 : c < 256 := by omega
          have le := bit_le c2
          have dlt : c - 2 ^ u < 2 ^ u := by rw [Nat.pow_succ] at c1; omega
          have d0 : c - 2 ^ u ≠ 0 := by omega
          have db := rest_bit c8 c2
          obtain ⟨k, hk, hk2⟩ := top_bit (show c - 2 ^ u < 256 from Nat.lt_of_le_of_lt (Nat.sub_le _ _) c8) d0
          have hku : k < u := bit_lt dlt hk
          have hkl : k < s.length := by rw [h.len]; exact hku
          have sb := sb_rest c8 c2
          refine List.mem_flatMap.mpr ⟨s[k], List.getElem_mem hkl, List.mem_map.mpr ⟨c - 2 ^ u, List.mem_filter.mpr ⟨(h.mem k s[k] (List.getElem?_eq_getElem hkl) _).mpr ⟨hk2, hk, fun i j ne hi hj => c3 i j ne (sb i hi) (sb j hj)⟩, decide_eq_true ?_⟩, ?_⟩⟩
          · refine Nat.eq_of_testBit_eq fun j => ?_
            rw [Nat.testBit_and, hB, Nat.zero_testBit]
            cases hj : (c - 2 ^ u).testBit j with
            | false => rfl
            | true =>
              rw [db, Bool.and_eq_true, decide_eq_true_eq] at hj
              rw [c3 u j (Ne.symm hj.2) c2 hj.1]
              rfl
          · refine Nat.eq_of_testBit_eq fun j => ?_
            rw [Nat.testBit_or, tp, db]
            by_cases hj : u = j
            · subst hj; rw [c2]; simp
            · rw [decide_eq_false hj, decide_eq_true (Ne.symm hj), Bool.and_true, Bool.false_or]
  · unfold setN
    rw [List.flatten_append, List.length_append, List.flatten_singleton, List.length_cons]
    have := fm_len (fun c => decide (c &&& B n = 0)) (fun c => 2 ^ n ||| c) s
    have := h.sum
    rw [Nat.pow_succ]
    omega
theorem sets_int (B O : Nat) (s : List (List Nat)) : ((s.map nI).flatMap fun r => (r.filter fun m => decide (Builtin.bitAnd m (B : Int) = 0)).map fun m => Builtin.bitOr (O : Int) m) = nI (s.flatMap fun r => (r.filter fun c => decide (c &&& B = 0)).map fun c => O ||| c) := by
  unfold nI
  rw [List.flatMap_map, List.map_flatMap]
  congr 1
  funext r
  rw [List.filter_map, List.map_map, List.map_map]
  have : (fun m : Int => decide (Builtin.bitAnd m (B : Int) = 0)) ∘ (fun (m : Nat) => (m : Int)) = fun c => decide (c &&& B = 0) := funext fun c => by
    show decide (Builtin.bitAnd (c : Int) (B : Int) = 0) = _
    rw [b_and]
    exact decide_eq_decide.mpr (by omega)
  rw [this]
  refine List.map_congr_left fun c _ => ?_
  show Builtin.bitOr (O : Int) (c : Int) = ((O ||| c : Nat) : Int)
  exact b_or O c
theorem masks_ok {g : Gr} (h : GoodE g.n g.qs) (hn : g.n ≤ 8) : ∃ s : List (List Nat), SetsOk (ad g) g.n s ∧ f_independent_masks g = W.ret (s.map nI) := by
  have hsz : 1000 ≤ sizeLine := by decide
  unfold f_independent_masks
  simp only [W.ret_bind, W.bind_bind, W.req_T, List.length_cons, List.length_nil, Nat.reduceAdd, Nat.reduceLeDiff, W.opt_some, W.no_ret, W.no_bind, W.no_opt, W.no_req, W.no_no, W.ite_ret, W.cont_go, W.cont_ret, W.cont_brk, if_true, if_false, Bool.false_eq_true, Bool.not_true, Bool.not_false, pyI_int, pyB_bl, py2_tup, gsz, kind_non, kind_bl, kind_int, kind_str, kind_tup, kind_lst, is_tt, is_tc, is_ct, cc_G, Bool.or_false, Bool.or_true, Bool.and_true, Bool.and_false, Bool.true_and, Bool.false_and, Bool.true_or, Bool.false_or, tg_non_non, tg_non_bl, tg_non_int, tg_non_str, tg_non_tup, tg_non_lst, tg_bl_non, tg_bl_bl, tg_bl_int, tg_bl_str, tg_bl_tup, tg_bl_lst, tg_int_non, tg_int_bl, tg_int_int, tg_int_str, tg_int_tup, tg_int_lst, tg_str_non, tg_str_bl, tg_str_int, tg_str_str, tg_str_tup, tg_str_lst, tg_tup_non, tg_tup_bl, tg_tup_int, tg_tup_str, tg_tup_tup, tg_tup_lst, tg_lst_non, tg_lst_bl, tg_lst_int, tg_lst_str, tg_lst_tup, tg_lst_lst, show gr_vertices g = vtx g.n from rfl]
  have key := W.forS_ret (b := fun (s1' : List (List Int)) (vertex' : Int) => W.bind (W.req (cPow 1 vertex' = true) (1 * 2 ^ Int.toNat vertex')) fun own' => W.bind (f_Graph_neighbors g (eI vertex')) fun a => W.bind (f_mask_of a) fun barred' => W.bind (W.no (W.lc2 (fun row' => W.ret true) (fun row' => W.ret row') (fun row' mask' => W.ret (decide (Builtin.bitAnd mask' barred' = 0))) (fun row' mask' => W.ret (Builtin.bitOr own' mask')) s1')) fun a => W.bind (W.req (List.length a ≤ 1000000) a) fun longer' => W.bind (W.req (1 + List.length longer' ≤ sizeLine) ([own'] ++ longer')) fun a => W.bind (W.app s1' a) fun found' => W.ret found')
    (fun i st => ∃ s : List (List Nat), SetsOk (ad g) i s ∧ st = s.map nI) (fun st v => st ++ [((2 ^ v.toNat : Nat) : Int) :: st.flatMap fun r => (r.filter fun m => decide (Builtin.bitAnd m ((msk (nbr g.qs v) : Nat) : Int) = 0)).map fun m => Builtin.bitOr ((2 ^ v.toNat : Nat) : Int) m]) (xs := vtx g.n) (s0 := []) ⟨[], ⟨rfl, (fun u r hr => by simp at hr), by decide⟩, rfl⟩ fun i x st hx ⟨s, hs, e⟩ => ?_
  · obtain ⟨k1, s, hs, e⟩ := key
    rw [vtx_ln] at hs
    exact ⟨s, hs, by rw [k1, e]; rfl⟩
  · subst e
    unfold vtx at hx
    rw [List.getElem?_map] at hx
    obtain ⟨j, hj, rfl⟩ := Option.map_eq_some_iff.mp hx
    obtain ⟨hj1, hj2⟩ := List.getElem?_eq_some_iff.mp hj
    rw [List.getElem_range] at hj2
    subst hj2
    rw [List.length_range] at hj1
    have st := sets_step (A := ad g) ad_sy (B := fun v => msk (nbr g.qs (v : Int))) (fun v j => (nbr_msk h hn v).2 j) (show i < 8 by omega) hs
    have lb : (s.flatMap fun r => (r.filter fun c => decide (c &&& msk (nbr g.qs (i : Int)) = 0)).map fun c => 2 ^ i ||| c).length ≤ 255 := by
      have a := fm_len (fun c => decide (c &&& msk (nbr g.qs (i : Int)) = 0)) (fun c => 2 ^ i ||| c) s
      have b := hs.sum
      have c : 2 ^ i ≤ 256 := pow_le8 (by omega)
      omega
    refine ⟨?_, _, st, ?_⟩
    · have ng : f_Graph_neighbors g (eI (i : Int)) = W.ret (nbr g.qs (i : Int)) := neighbors_ok (by omega) (by omega)
      rw [pw_ok (by omega) (by omega), W.ret_bind, ng, W.ret_bind, mask_ok fun x hx => by have := nbr_lt h hx; omega, W.ret_bind, Int.toNat_natCast]
      rw [W.lc2_ret (fun _ => true) (fun r : List Int => r) (fun _ m => decide (Builtin.bitAnd m ((msk (nbr g.qs (i : Int)) : Nat) : Int) = 0)) (fun _ m => Builtin.bitOr ((2 ^ i : Nat) : Int) m) (fun _ _ => rfl) (fun _ _ _ => rfl) (fun _ _ _ _ _ => rfl) (fun _ _ _ _ _ _ => rfl), List.filter_eq_self.mpr fun _ _ => rfl, sets_int, W.no_ret, W.ret_bind, W.req_true (by rw [nI_len]; omega), W.ret_bind, W.req_true (by rw [nI_len]; omega), W.ret_bind, W.app_ok (by rw [List.length_map, hs.len]; omega), W.ret_bind]
      rfl
    · rw [Int.toNat_natCast, sets_int]
      unfold setN
      rw [List.map_append]
      rfl
theorem least {P : Nat → Prop} : ∀ n, P n → ∃ k, P k ∧ ∀ j, P j → k ≤ j := fun n => by
  induction n using Nat.strongRecOn with
  | ind n ih =>
    intro h
    by_cases hz : ∃ j, j < n ∧ P j
    · obtain ⟨j, hj, pj⟩ := hz
      exact ih j hj pj
    · exact ⟨n, h, fun j pj => Nat.le_of_not_lt fun hj => hz ⟨j, hj, pj⟩⟩
theorem part_ex (A : Nat → Nat → Bool) : ∀ m : Nat, ∃ cs, Part A m cs := fun m => by
  induction m using Nat.strongRecOn with
  | ind m ih =>
    by_cases h0 : m = 0
    · subst h0
      obtain ⟨cs, P, _⟩ := (chi_zero A).ex
      exact ⟨cs, P⟩
    · obtain ⟨l, hl⟩ := Nat.exists_testBit_of_ne_zero h0
      have tp : ∀ j, (2 ^ l).testBit j = decide (l = j) := fun j => Nat.testBit_two_pow
      have sb : Sb (2 ^ l) m := fun j hj => by
        rw [tp, decide_eq_true_eq] at hj
        rw [← hj]; exact hl
      obtain ⟨cs, P⟩ := ih _ (xor_lt sb (l := l) (by rw [tp]; simp))
      exact ⟨2 ^ l :: cs, P.cons sb fun i j ne hi hj => by
        rw [tp, decide_eq_true_eq] at hi hj
        omega⟩
theorem chi_ex (A : Nat → Nat → Bool) (m : Nat) : ∃ k, IsChi A m k := by
  obtain ⟨cs, P⟩ := part_ex A m
  obtain ⟨k, ⟨ds, Q, e⟩, h⟩ := least (P := fun k => ∃ cs, Part A m cs ∧ cs.length = k) cs.length ⟨cs, P, rfl⟩
  exact ⟨k, ⟨ds, Q, e⟩, fun cs P => h _ ⟨cs, P, rfl⟩⟩
noncomputable def chi (A : Nat → Nat → Bool) (m : Nat) : Nat := Classical.choose (chi_ex A m)
theorem chi_ok (A : Nat → Nat → Bool) (m : Nat) : IsChi A m (chi A m) := Classical.choose_spec (chi_ex A m)
theorem high_lt {m l : Nat} (hm : m < 256) (h0 : m ≠ 0) (e : ((Builtin.Int.intBits (m : Int) : Nat) : Int) - 1 = (l : Int)) : m < 2 ^ (l + 1) := by
  have : ∀ m : Fin 256, m.val ≠ 0 → m.val < 2 ^ ((((Builtin.Int.intBits (m.val : Int) : Nat) : Int) - 1).toNat + 1) := by decide +kernel
  have := this ⟨m, hm⟩ h0
  dsimp only at this
  rw [e, Int.toNat_natCast] at this
  exact this
theorem chromatic_ok {A : Nat → Nat → Bool} {n : Nat} (hn : n ≤ 8) {s : List (List Nat)} (hs : SetsOk A n s) : f_chromatic_numbers (s.map nI) = W.ret ((List.range (2 ^ n)).map fun m => ((chi A m : Nat) : Int)) := by
  have p8 := pow_le8 hn
  have p0 : 0 < 2 ^ n := Nat.two_pow_pos _
  have hp : W.req (cPow 1 (n : Int) = true) ((1 : Int) * 2 ^ n) = W.ret ((2 ^ n : Nat) : Int) := pw_ok (v := (n : Int)) (by omega) (by omega)
  unfold f_chromatic_numbers
  simp only [W.ret_bind, W.bind_bind, W.req_T, List.length_cons, List.length_nil, Nat.reduceAdd, Nat.reduceLeDiff, W.opt_some, W.no_ret, W.no_bind, W.no_opt, W.no_req, W.no_no, W.ite_ret, W.cont_go, W.cont_ret, W.cont_brk, if_true, if_false, Bool.false_eq_true, Bool.not_true, Bool.not_false, pyI_int, pyB_bl, py2_tup, gsz, kind_non, kind_bl, kind_int, kind_str, kind_tup, kind_lst, is_tt, is_tc, is_ct, cc_G, Bool.or_false, Bool.or_true, Bool.and_true, Bool.and_false, Bool.true_and, Bool.false_and, Bool.true_or, Bool.false_or, tg_non_non, tg_non_bl, tg_non_int, tg_non_str, tg_non_tup, tg_non_lst, tg_bl_non, tg_bl_bl, tg_bl_int, tg_bl_str, tg_bl_tup, tg_bl_lst, tg_int_non, tg_int_bl, tg_int_int, tg_int_str, tg_int_tup, tg_int_lst, tg_str_non, tg_str_bl, tg_str_int, tg_str_str, tg_str_tup, tg_str_lst, tg_tup_non, tg_tup_bl, tg_tup_int, tg_tup_str, tg_tup_tup, tg_tup_lst, tg_lst_non, tg_lst_bl, tg_lst_int, tg_lst_str, tg_lst_tup, tg_lst_lst, List.length_map, hs.len, Int.toNat_natCast, hp]
  rw [W.rng2_ok (by omega), W.ret_bind]
  let S : Nat → List Int := fun i => (List.range (i + 1)).map fun m => ((chi A m : Nat) : Int)
  have e0 : [(0 : Int)] = S 0 := by
    show _ = [((chi A 0 : Nat) : Int)]
    rw [(chi_ok A 0).uniq (chi_zero A)]
    rfl
  rw [e0]
  refine Eq.trans (congrArg (fun z => W.bind z _) (W.forS_at S fun i x hx => ?_)) ?_
  · obtain ⟨rfl, hlt⟩ := rng_get hx
    have hm : i + 1 < 256 := by omega
    obtain ⟨l, hl, hb, _, hl1⟩ := high_bit hm (by omega)
    have ei : (1 : Int) + (i : Int) = ((i + 1 : Nat) : Int) := by omega
    have hln : l < n := bit_lt (k := n) (show i + 1 < 2 ^ n by omega) hb
    have top := high_lt hm (by omega) hl1
    have hls : l < s.length := by rw [hs.len]; exact hln
    have mem := hs.mem l s[l] (List.getElem?_eq_getElem hls)
    rw [ei, hl1]
    have at1 : W.opt (atI (s.map nI) (l : Int)) = W.ret (nI s[l]) := W.idxN (by rw [List.getElem?_map, List.getElem?_eq_getElem hls]; rfl)
    rw [at1, W.ret_bind]
    have tp : ∀ j, (2 ^ l).testBit j = decide (l = j) := fun j => Nat.testBit_two_pow
    have c8 : ∀ c ∈ s[l], c < 256 := fun c hc => Nat.lt_of_lt_of_le ((mem c).mp hc).1 (Nat.pow_le_pow_right (n := 2) (by decide) (show l + 1 ≤ 8 by omega))
    rw [W.lc_ret (fun c : Int => decide (c.toNat &&& (i + 1) = c.toNat)) (fun c : Int => ((chi A ((i + 1) ^^^ c.toNat) : Nat) : Int)) (fun c hc => ?_) (fun c hc hd => ?_), W.ret_bind]
    · have m0 : 2 ^ l ∈ s[l] := (mem _).mpr ⟨Nat.pow_lt_pow_right (by decide) (by omega), by rw [tp]; simp, fun a b ne ha hb => by
        rw [tp, decide_eq_true_eq] at ha hb
        omega⟩
      have s0 : Sb (2 ^ l) (i + 1) := fun j hj => by
        rw [tp, decide_eq_true_eq] at hj
        rw [← hj]; exact hb
      have inL : ∀ c, c ∈ s[l] → Sb c (i + 1) → ((chi A ((i + 1) ^^^ c) : Nat) : Int) ∈ ((nI s[l]).filter fun c : Int => decide (c.toNat &&& (i + 1) = c.toNat)).map fun c : Int => ((chi A ((i + 1) ^^^ c.toNat) : Nat) : Int) := fun c hc sc =>
        List.mem_map.mpr ⟨(c : Int), List.mem_filter.mpr ⟨List.mem_map.mpr ⟨c, hc, rfl⟩, by rw [Int.toNat_natCast]; exact within_sb.mpr sc⟩, by rw [Int.toNat_natCast]⟩
      have hne : ((nI s[l]).filter fun c : Int => decide (c.toNat &&& (i + 1) = c.toNat)).map (fun c : Int => ((chi A ((i + 1) ^^^ c.toNat) : Nat) : Int)) ≠ [] := fun z => by
        have := inL _ m0 s0
        rw [z] at this
        cases this
      obtain ⟨m1, m2⟩ := minI_ok hne
      rw [W.req_true hne, W.ret_bind, W.app_ok (by show ((List.range (i + 1)).map _).length < 1000000; rw [List.length_map, List.length_range]; omega), W.ret_bind]
      refine congrArg W.ret ?_
      show (List.range (i + 1)).map _ ++ [_] = (List.range (i + 1 + 1)).map _
      rw [List.range_succ (n := i + 1), List.map_append]
      refine congrArg (fun z => _ ++ [z]) ?_
      generalize minI (((nI s[l]).filter fun c : Int => decide (c.toNat &&& (i + 1) = c.toNat)).map fun c : Int => ((chi A ((i + 1) ^^^ c.toNat) : Nat) : Int)) = q at m1 m2
      obtain ⟨cz, hcz, eq⟩ := List.mem_map.mp m1
      obtain ⟨hc1, hc2⟩ := List.mem_filter.mp hcz
      obtain ⟨c, hc, rfl⟩ := List.mem_map.mp hc1
      rw [Int.toNat_natCast] at hc2 eq
      have sc := within_sb.mp hc2
      obtain ⟨_, cb, ci⟩ := (mem c).mp hc
      have chiM : IsChi A (i + 1) (chi A ((i + 1) ^^^ c) + 1) := chi_step hb (fun t _ => chi_ex A t) ⟨c, _, sc, ci, cb, chi_ok A _, rfl⟩ fun d r sd di db hd => by
        have hr := hd.uniq (chi_ok A ((i + 1) ^^^ d))
        have dm : d ∈ s[l] := (mem d).mpr ⟨Nat.lt_of_le_of_lt (by
          have : d &&& (i + 1) = d := beq_iff_eq.mp (sb_and.mpr sd)
          rw [← this]; exact Nat.and_le_right) top, db, di⟩
        have := m2 _ (inL d dm sd)
        omega
      have := chiM.uniq (chi_ok A (i + 1))
      show 1 + q = ((chi A (i + 1) : Nat) : Int)
      omega
    · obtain ⟨d, hd, rfl⟩ := List.mem_map.mp (show c ∈ s[l].map fun (m : Nat) => (m : Int) from hc)
      rw [Int.toNat_natCast]
      exact within_ok d (i + 1)
    · obtain ⟨d, hd', rfl⟩ := List.mem_map.mp (show c ∈ s[l].map fun (m : Nat) => (m : Int) from hc)
      rw [Int.toNat_natCast] at hd ⊢
      rw [b_xor hm (c8 d hd')]
      have lt := xor_lt (within_sb.mp hd) ((mem d).mp hd').2.1
      exact W.idxN (by
        show ((List.range (i + 1)).map _)[_]? = _
        rw [List.getElem?_map, List.getElem?_range (by omega)]
        rfl)
  · rw [rng_len, W.ret_bind]
    show W.ret ((List.range _).map _) = _
    rw [show (((2 ^ n : Nat) : Int) - 1).toNat + 1 = 2 ^ n by omega]
end Ev
namespace Ev
open PySem PySem.Spec PyProof.Rows L2
/-- the place of a vertex in a row -/
def idx (sub : List Int) (v : Int) : Int := ((sub.findIdx fun x => decide (x = v) : Nat) : Int)
theorem idx_at {sub : List Int} {v : Int} (h : v ∈ sub) : ∃ i : Nat, idx sub v = i ∧ i < sub.length ∧ sub[i]? = some v := by
  have hl : sub.findIdx (fun x => decide (x = v)) < sub.length := List.findIdx_lt_length_of_exists ⟨v, h, decide_eq_true rfl⟩
  refine ⟨_, rfl, hl, ?_⟩
  have := List.findIdx_getElem (w := hl)
  rw [List.getElem?_eq_getElem hl]
  exact congrArg some (of_decide_eq_true this)
theorem idx_nat {sub : List Int} (nd : sub.Nodup) {i : Nat} {v : Int} (h : sub[i]? = some v) : idx sub v = i := by
  obtain ⟨j, e, hj, hv⟩ := idx_at (List.mem_of_getElem? h)
  rw [e]
  have := (List.getElem?_inj hj nd).mp (hv.trans h.symm)
  omega
theorem look_enum : ∀ {sub : List Int} {n v : Int} {i : Nat}, sub.Nodup → sub[i]? = some v → lookI ((enumFrom n sub).map fun p => (p.2, p.1)) v = some (n + i)
  | [], _, _, _, _, h => by simp at h
  | x :: xs, n, v, 0, _, h => by
    have : x = v := by simpa using h
    subst this
    show (if x = x then _ else _) = _
    rw [if_pos rfl]
    exact congrArg some (by omega)
  | x :: xs, n, v, i + 1, nd, h => by
    obtain ⟨n1, n2⟩ := List.nodup_cons.mp nd
    have h : xs[i]? = some v := by simpa using h
    show (if x = v then _ else _) = _
    rw [if_neg fun z => n1 (by rw [z]; exact List.mem_of_getElem? h)]
    rw [show lookI _ v = _ from look_enum (n := n + 1) n2 h]
    exact congrArg some (by omega)
theorem lookI_none : ∀ {sub : List Int} {n v : Int}, v ∉ sub → lookI ((enumFrom n sub).map fun p => (p.2, p.1)) v = none
  | [], _, _, _ => rfl
  | x :: xs, n, v, h => by
    show (if x = v then _ else _) = _
    rw [if_neg fun z => h (by rw [z]; exact List.mem_cons_self)]
    exact lookI_none (n := n + 1) fun z => h (List.mem_cons_of_mem _ z)
theorem setK_new {β : Type} {d : List (Int × β)} {k : Int} {v : β} (h : lookI d k = none) : setK d k v = d ++ [(k, v)] := by
  unfold setK
  rw [h]
  rfl
theorem len_g (g : Gr) : f_Graph___len__ g = W.ret (g.n : Int) := by
  unfold f_Graph___len__
  simp only [W.ret_bind, W.bind_bind, W.req_T, List.length_cons, List.length_nil, Nat.reduceAdd, Nat.reduceLeDiff, W.opt_some, W.no_ret, W.no_bind, W.no_opt, W.no_req, W.no_no, W.ite_ret, W.cont_go, W.cont_ret, W.cont_brk, if_true, if_false, Bool.false_eq_true, Bool.not_true, Bool.not_false, pyI_int, pyB_bl, py2_tup, gsz, kind_non, kind_bl, kind_int, kind_str, kind_tup, kind_lst, is_tt, is_tc, is_ct, cc_G, Bool.or_false, Bool.or_true, Bool.and_true, Bool.and_false, Bool.true_and, Bool.false_and, Bool.true_or, Bool.false_or, tg_non_non, tg_non_bl, tg_non_int, tg_non_str, tg_non_tup, tg_non_lst, tg_bl_non, tg_bl_bl, tg_bl_int, tg_bl_str, tg_bl_tup, tg_bl_lst, tg_int_non, tg_int_bl, tg_int_int, tg_int_str, tg_int_tup, tg_int_lst, tg_str_non, tg_str_bl, tg_str_int, tg_str_str, tg_str_tup, tg_str_lst, tg_tup_non, tg_tup_bl, tg_tup_int, tg_tup_str, tg_tup_tup, tg_tup_lst, tg_lst_non, tg_lst_bl, tg_lst_int, tg_lst_str, tg_lst_tup, tg_lst_lst, show gr_vertices g = vtx g.n from rfl, vtx_ln]
end Ev
namespace Ev
open PySem PySem.Spec PyProof.Rows L2
theorem xor_sub {m v : Nat} (hm : m < 256) (hb : m.testBit v = true) : m ^^^ 2 ^ v = m - 2 ^ v := Nat.eq_of_testBit_eq fun j => by
  rw [rest_bit hm hb, Nat.testBit_xor, Nat.testBit_two_pow]
  by_cases e : v = j
  · subst e; rw [hb, decide_eq_true rfl, decide_eq_false (by simp)]; rfl
  · rw [decide_eq_false e, decide_eq_true (Ne.symm e), Bool.xor_false, Bool.and_true]
theorem chi_le_pc (A : Nat → Nat → Bool) : ∀ m, m < 256 → chi A m ≤ pc m := fun m => by
  induction m using Nat.strongRecOn with
  | ind m ih =>
    intro hm
    by_cases h0 : m = 0
    · rw [h0, (chi_ok A 0).uniq (chi_zero A)]; exact Nat.zero_le _
    · obtain ⟨l, hl⟩ := Nat.exists_testBit_of_ne_zero h0
      have sb : Sb (2 ^ l) m := fun j hj => by
        rw [Nat.testBit_two_pow, decide_eq_true_eq] at hj
        rw [← hj]; exact hl
      have lt := xor_lt sb (l := l) (by rw [Nat.testBit_two_pow]; simp)
      obtain ⟨cs, P, e⟩ := (chi_ok A (m ^^^ 2 ^ l)).ex
      have := (chi_ok A m).lo _ (P.cons sb fun i j ne hi hj => by
        rw [Nat.testBit_two_pow, decide_eq_true_eq] at hi hj
        omega)
      rw [List.length_cons, e] at this
      have i1 := ih _ lt (by omega)
      rw [pc_rest hm hl, ← xor_sub hm hl]
      omega
/-- colours told by masks: as many as wanted, none empty -/
structure ColOk (A : Nat → Nat → Bool) (m : Nat) (cs : List Nat) : Prop where
  P : Part A m cs
  len : cs.length = chi A m
  ne : ∀ c ∈ cs, c ≠ 0
theorem hv_ok (c v : Nat) : f_has_vertex (c : Int) (v : Int) = W.ret (c.testBit v) := by
  unfold f_has_vertex
  simp only [W.ret_bind, W.bind_bind, W.req_T, List.length_cons, List.length_nil, Nat.reduceAdd, Nat.reduceLeDiff, W.opt_some, W.no_ret, W.no_bind, W.no_opt, W.no_req, W.no_no, W.ite_ret, W.cont_go, W.cont_ret, W.cont_brk, if_true, if_false, Bool.false_eq_true, Bool.not_true, Bool.not_false, pyI_int, pyB_bl, py2_tup, gsz, kind_non, kind_bl, kind_int, kind_str, kind_tup, kind_lst, is_tt, is_tc, is_ct, cc_G, Bool.or_false, Bool.or_true, Bool.and_true, Bool.and_false, Bool.true_and, Bool.false_and, Bool.true_or, Bool.false_or, tg_non_non, tg_non_bl, tg_non_int, tg_non_str, tg_non_tup, tg_non_lst, tg_bl_non, tg_bl_bl, tg_bl_int, tg_bl_str, tg_bl_tup, tg_bl_lst, tg_int_non, tg_int_bl, tg_int_int, tg_int_str, tg_int_tup, tg_int_lst, tg_str_non, tg_str_bl, tg_str_int, tg_str_str, tg_str_tup, tg_str_lst, tg_tup_non, tg_tup_bl, tg_tup_int, tg_tup_str, tg_tup_tup, tg_tup_lst, tg_lst_non, tg_lst_bl, tg_lst_int, tg_lst_str, tg_lst_tup, tg_lst_lst, W.req_true (show (0 : Int) ≤ (v : Int) by omega), Int.toNat_natCast, b_m1]
  congr 1
  cases c.testBit v <;> rfl
theorem first_color_ok {A : Nat → Nat → Bool} {n m : Nat} (hn : n ≤ 8) {s : List (List Nat)} (hs : SetsOk A n s) (hm : m < 2 ^ n) (h0 : m ≠ 0) : ∃ c, Sb c m ∧ In A c ∧ c ≠ 0 ∧ chi A (m ^^^ c) + 1 = chi A m ∧ f_first_color (m : Int) (s.map nI) ((List.range (2 ^ n)).map fun m => ((chi A m : Nat) : Int)) = W.ret (c : Int) := by
  have p8 := pow_le8 hn
  have m8 : m < 256 := by omega
  obtain ⟨l, hl, hb, _, hl1⟩ := high_bit m8 h0
  have hln : l < n := bit_lt (k := n) hm hb
  have top := high_lt m8 h0 hl1
  have hls : l < s.length := by rw [hs.len]; exact hln
  have mem := hs.mem l s[l] (List.getElem?_eq_getElem hls)
  have at1 : W.opt (atI (s.map nI) (l : Int)) = W.ret (nI s[l]) := W.idxN (by rw [List.getElem?_map, List.getElem?_eq_getElem hls]; rfl)
  have at2 : ∀ k : Nat, k < 2 ^ n → W.opt (atI ((List.range (2 ^ n)).map fun m => ((chi A m : Nat) : Int)) (k : Int)) = W.ret ((chi A k : Nat) : Int) := fun k hk => W.idxN (by rw [List.getElem?_map, List.getElem?_range hk]; rfl)
  have c8 : ∀ c ∈ s[l], c < 256 := fun c hc => Nat.lt_of_lt_of_le ((mem c).mp hc).1 (Nat.pow_le_pow_right (n := 2) (by decide) (show l + 1 ≤ 8 by omega))
  unfold f_first_color
  simp only [W.ret_bind, W.bind_bind, W.req_T, List.length_cons, List.length_nil, Nat.reduceAdd, Nat.reduceLeDiff, W.opt_some, W.no_ret, W.no_bind, W.no_opt, W.no_req, W.no_no, W.ite_ret, W.cont_go, W.cont_ret, W.cont_brk, if_true, if_false, Bool.false_eq_true, Bool.not_true, Bool.not_false, pyI_int, pyB_bl, py2_tup, gsz, kind_non, kind_bl, kind_int, kind_str, kind_tup, kind_lst, is_tt, is_tc, is_ct, cc_G, Bool.or_false, Bool.or_true, Bool.and_true, Bool.and_false, Bool.true_and, Bool.false_and, Bool.true_or, Bool.false_or, tg_non_non, tg_non_bl, tg_non_int, tg_non_str, tg_non_tup, tg_non_lst, tg_bl_non, tg_bl_bl, tg_bl_int, tg_bl_str, tg_bl_tup, tg_bl_lst, tg_int_non, tg_int_bl, tg_int_int, tg_int_str, tg_int_tup, tg_int_lst, tg_str_non, tg_str_bl, tg_str_int, tg_str_str, tg_str_tup, tg_str_lst, tg_tup_non, tg_tup_bl, tg_tup_int, tg_tup_str, tg_tup_tup, tg_tup_lst, tg_lst_non, tg_lst_bl, tg_lst_int, tg_lst_str, tg_lst_tup, tg_lst_lst, hl1, at1]
  rw [W.lc_filter (fun c : Int => decide (c.toNat &&& m = c.toNat)) (fun c hc => ?_), W.ret_bind, W.lc_filter (fun c : Int => decide (chi A (m ^^^ c.toNat) < chi A m)) (fun c hc => ?_), W.ret_bind]
  · -- one class of a best partition is there
    obtain ⟨cs, P, e⟩ := (chi_ok A m).ex
    have cn := P.cnt l
    rw [if_pos hb] at cn
    obtain ⟨c0, hc0, hcl⟩ := List.countP_pos_iff.mp (show 0 < cs.countP fun c => c.testBit l by omega)
    have lo := (chi_ok A (m ^^^ c0)).lo _ (P.erase hc0)
    have pl := (List.perm_cons_erase hc0).length_eq
    rw [List.length_cons] at pl
    have s0 := P.sb hc0
    have m0 : c0 ∈ s[l] := (mem c0).mpr ⟨Nat.lt_of_le_of_lt (by
      have : c0 &&& m = c0 := beq_iff_eq.mp (sb_and.mpr s0)
      rw [← this]; exact Nat.and_le_right) top, hcl, P.ind c0 hc0⟩
    have inF : (c0 : Int) ∈ ((nI s[l]).filter fun c : Int => decide (c.toNat &&& m = c.toNat)).filter fun c : Int => decide (chi A (m ^^^ c.toNat) < chi A m) := List.mem_filter.mpr ⟨List.mem_filter.mpr ⟨List.mem_map.mpr ⟨c0, m0, rfl⟩, by rw [Int.toNat_natCast]; exact within_sb.mpr s0⟩, decide_eq_true (by rw [Int.toNat_natCast]; omega)⟩
    cases hF : ((nI s[l]).filter fun c : Int => decide (c.toNat &&& m = c.toNat)).filter fun c : Int => decide (chi A (m ^^^ c.toNat) < chi A m) with
    | nil => rw [hF] at inF; cases inF
    | cons x r =>
      have hx : x ∈ ((nI s[l]).filter fun c : Int => decide (c.toNat &&& m = c.toNat)).filter fun c : Int => decide (chi A (m ^^^ c.toNat) < chi A m) := by rw [hF]; exact List.mem_cons_self
      obtain ⟨h1, h2⟩ := List.mem_filter.mp hx
      obtain ⟨h3, h4⟩ := List.mem_filter.mp h1
      obtain ⟨c, hc, rfl⟩ := List.mem_map.mp (show x ∈ s[l].map fun (m : Nat) => (m : Int) from h3)
      rw [Int.toNat_natCast] at h4
      rw [decide_eq_true_eq, Int.toNat_natCast] at h2
      have sc := within_sb.mp h4
      obtain ⟨_, cb, ci⟩ := (mem c).mp hc
      have c0 : c ≠ 0 := fun z => by rw [z, Nat.zero_testBit] at cb; cases cb
      refine ⟨c, sc, ci, c0, ?_, W.idxN (i := 0) rfl⟩
      obtain ⟨ds, Q, f⟩ := (chi_ok A (m ^^^ c)).ex
      have := (chi_ok A m).lo _ (Q.cons sc ci)
      rw [List.length_cons, f] at this
      omega
  · obtain ⟨h1, h2⟩ := List.mem_filter.mp hc
    obtain ⟨d, hd, rfl⟩ := List.mem_map.mp (show c ∈ s[l].map fun (m : Nat) => (m : Int) from h1)
    rw [Int.toNat_natCast] at h2
    have lt := xor_lt (within_sb.mp h2) ((mem d).mp hd).2.1
    rw [b_xor m8 (c8 d hd), at2 _ (by omega), W.ret_bind, at2 _ hm, W.ret_bind, Int.toNat_natCast]
    exact congrArg W.ret (decide_eq_decide.mpr Int.ofNat_lt)
  · obtain ⟨d, hd, rfl⟩ := List.mem_map.mp (show c ∈ s[l].map fun (m : Nat) => (m : Int) from hc)
    rw [Int.toNat_natCast]
    exact within_ok d m
theorem masks_go {A : Nat → Nat → Bool} {n : Nat} (hn : n ≤ 8) {s : List (List Nat)} (hs : SetsOk A n s) {cw : List Int × Int → W Bool} {bw : List Int × Int → W (St (List Int × Int) (List Int))} (hc : ∀ st, cw st = W.ret (decide (0 < st.2))) (hb : ∀ st, bw st = W.bind (f_first_color st.2 (s.map nI) ((List.range (2 ^ n)).map fun m => ((chi A m : Nat) : Int))) fun color' => W.bind (W.app st.1 color') fun colors' => W.ret (St.go (colors', Builtin.bitXor st.2 color'))) :
    ∀ (k m : Nat) (acc : List Int), m < 2 ^ n → chi A m < k → acc.length + chi A m ≤ 100 → ∃ cs, ColOk A m cs ∧ W.whileB cw bw k (acc, (m : Int)) = W.ret (.go (acc ++ nI cs, 0))
  | 0, m, acc, _, h, _ => absurd h (Nat.not_lt_zero _)
  | k + 1, m, acc, hm, hk, hl => by
    have p8 := pow_le8 hn
    unfold W.whileB
    rw [hc, W.ret_bind]
    by_cases h0 : m = 0
    · subst h0
      refine ⟨[], ⟨⟨fun c hc => (by cases hc), fun j => by rw [Nat.zero_testBit]; rfl⟩, ?_, fun c hc => by cases hc⟩, ?_⟩
      · rw [(chi_ok A 0).uniq (chi_zero A)]; rfl
      · rw [if_neg (show ¬ decide ((0 : Int) < ((0 : Nat) : Int)) = true by decide)]
        show W.ret (St.go (acc, ((0 : Nat) : Int))) = W.ret (.go (acc ++ [], 0))
        rw [List.append_nil]
        rfl
    · obtain ⟨c, sc, ci, c0, e, ef⟩ := first_color_ok hn hs hm h0
      have c8 : c < 256 := sc.lt (by omega)
      rw [if_pos (decide_eq_true (show (0 : Int) < (m : Int) by omega)), hb]
      dsimp only
      rw [ef, W.ret_bind, W.app_ok (by omega), W.ret_bind, W.ret_bind, b_xor (by omega) c8]
      obtain ⟨v, hv⟩ := Nat.exists_testBit_of_ne_zero c0
      have lt := xor_lt sc hv
      obtain ⟨cs, H, ew⟩ := masks_go hn hs hc hb k (m ^^^ c) (acc ++ [(c : Int)]) (by omega) (by omega) (by rw [List.length_append, List.length_singleton]; omega)
      refine ⟨c :: cs, ⟨H.P.cons sc ci, by rw [List.length_cons, H.len]; omega, fun d hd => ?_⟩, ?_⟩
      · rcases List.mem_cons.mp hd with rfl | hd
        · exact c0
        · exact H.ne d hd
      · refine ew.trans ?_
        rw [List.append_assoc]
        rfl
theorem color_masks_ok {A : Nat → Nat → Bool} {n m : Nat} (hn : n ≤ 8) {s : List (List Nat)} (hs : SetsOk A n s) (hm : m < 2 ^ n) : ∃ cs, ColOk A m cs ∧ f_color_masks (m : Int) (s.map nI) ((List.range (2 ^ n)).map fun m => ((chi A m : Nat) : Int)) = W.ret (nI cs) := by
  have p8 := pow_le8 hn
  have c8 : chi A m ≤ 8 := by
    have := chi_le_pc A m (by omega)
    have : pc m ≤ 8 := by unfold pc; exact Nat.le_trans List.countP_le_length (by simp)
    omega
  unfold f_color_masks
  simp only [W.ret_bind, W.bind_bind, W.req_T, List.length_cons, List.length_nil, Nat.reduceAdd, Nat.reduceLeDiff, W.opt_some, W.no_ret, W.no_bind, W.no_opt, W.no_req, W.no_no, W.ite_ret, W.cont_go, W.cont_ret, W.cont_brk, if_true, if_false, Bool.false_eq_true, Bool.not_true, Bool.not_false, pyI_int, pyB_bl, py2_tup, gsz, kind_non, kind_bl, kind_int, kind_str, kind_tup, kind_lst, is_tt, is_tc, is_ct, cc_G, Bool.or_false, Bool.or_true, Bool.and_true, Bool.and_false, Bool.true_and, Bool.false_and, Bool.true_or, Bool.false_or, tg_non_non, tg_non_bl, tg_non_int, tg_non_str, tg_non_tup, tg_non_lst, tg_bl_non, tg_bl_bl, tg_bl_int, tg_bl_str, tg_bl_tup, tg_bl_lst, tg_int_non, tg_int_bl, tg_int_int, tg_int_str, tg_int_tup, tg_int_lst, tg_str_non, tg_str_bl, tg_str_int, tg_str_str, tg_str_tup, tg_str_lst, tg_tup_non, tg_tup_bl, tg_tup_int, tg_tup_str, tg_tup_tup, tg_tup_lst, tg_lst_non, tg_lst_bl, tg_lst_int, tg_lst_str, tg_lst_tup, tg_lst_lst, ]
  obtain ⟨cs, H, e⟩ := masks_go hn hs (cw := fun s1' : List Int × Int => W.ret (decide (0 < s1'.2))) (bw := fun s1' : List Int × Int => W.bind (f_first_color s1'.2 (s.map nI) ((List.range (2 ^ n)).map fun m => ((chi A m : Nat) : Int))) fun color' => W.bind (W.app s1'.1 color') fun colors' => W.ret (St.go (colors', Builtin.bitXor s1'.2 color'))) (fun _ => rfl) (fun _ => rfl) 1000 m [] hm (by omega) (by rw [List.length_nil]; omega)
  refine ⟨cs, H, ?_⟩
  rw [e]
  rfl
/-- the first mask that holds v -/
def colO (cs : List Nat) (v : Nat) : Nat := cs.findIdx fun c => c.testBit v
theorem colO_at {A : Nat → Nat → Bool} {m : Nat} {cs : List Nat} (H : ColOk A m cs) {v : Nat} (hv : m.testBit v = true) : colO cs v < cs.length ∧ ∃ c, cs[colO cs v]? = some c ∧ c.testBit v = true ∧ c ∈ cs := by
  have cn := H.P.cnt v
  rw [if_pos hv] at cn
  obtain ⟨c0, hc0, hb⟩ := List.countP_pos_iff.mp (show 0 < cs.countP fun c => c.testBit v by omega)
  have hl : colO cs v < cs.length := List.findIdx_lt_length_of_exists ⟨c0, hc0, hb⟩
  exact ⟨hl, _, List.getElem?_eq_getElem hl, List.findIdx_getElem (w := hl), List.getElem_mem hl⟩
/-- a vertex of a class has its colour -/
theorem colO_un {A : Nat → Nat → Bool} {m : Nat} {cs : List Nat} (H : ColOk A m cs) {v i c : Nat} (hv : m.testBit v = true) (hi : cs[i]? = some c) (hb : c.testBit v = true) : colO cs v = i := by
  obtain ⟨hl, d, hd, hdb, _⟩ := colO_at H hv
  refine Classical.byContradiction fun ne => ?_
  have cn := H.P.cnt v
  rw [if_pos hv] at cn
  have two : ∀ (cs : List Nat) (i j : Nat) (c d : Nat), cs[i]? = some c → cs[j]? = some d → i < j → c.testBit v = true → d.testBit v = true → 2 ≤ cs.countP fun c => c.testBit v := fun cs => by
    induction cs with
    | nil => intro i j c d h; simp at h
    | cons x xs ih =>
      intro i j c d h1 h2 hij b1 b2
      cases j with
      | zero => omega
      | succ j =>
        have h2 : xs[j]? = some d := by simpa using h2
        cases i with
        | zero =>
          have : x = c := by simpa using h1
          subst this
          rw [List.countP_cons_of_pos (by exact b1)]
          have : 0 < xs.countP fun c => c.testBit v := List.countP_pos_iff.mpr ⟨d, List.mem_of_getElem? h2, b2⟩
          omega
        | succ i =>
          have := ih i j c d (by simpa using h1) h2 (by omega) b1 b2
          have := List.countP_cons (p := fun c => c.testBit v) (a := x) (l := xs)
          omega
  rcases Nat.lt_or_gt_of_ne ne with h | h
  · have := two cs _ _ d c hd hi h hdb hb; omega
  · have := two cs _ _ c d hi hd h hb hdb; omega
theorem color_of_ok {A : Nat → Nat → Bool} {m : Nat} {cs : List Nat} (H : ColOk A m cs) {v : Nat} (hv : m.testBit v = true) : f_color_of (v : Int) (nI cs) = W.ret ((colO cs v : Nat) : Int) := by
  unfold f_color_of
  have go : ∀ (cs : List Nat) (k : Int), (∃ c ∈ cs, c.testBit v = true) → ∃ r, ((enumFrom k (nI cs)).filter fun p => p.2.toNat.testBit v).map (fun p => p.1) = (k + ((cs.findIdx fun c => c.testBit v : Nat) : Int)) :: r := fun cs => by
    induction cs with
    | nil => rintro k ⟨c, hc, _⟩; cases hc
    | cons c cs ih =>
      intro k hx
      rw [show enumFrom k (nI (c :: cs)) = (k, (c : Int)) :: enumFrom (k + 1) (nI cs) from rfl]
      by_cases hb : c.testBit v = true
      · rw [List.filter_cons_of_pos (by show ((c : Int)).toNat.testBit v = true; rw [Int.toNat_natCast]; exact hb), List.findIdx_cons, hb]
        refine ⟨((enumFrom (k + 1) (nI cs)).filter fun p => p.2.toNat.testBit v).map (fun p => p.1), ?_⟩
        show k :: _ = (k + ((0 : Nat) : Int)) :: _
        rw [Int.natCast_zero, Int.add_zero]
      · have hb' : c.testBit v = false := by simpa using hb
        rw [List.filter_cons_of_neg (by show ¬ ((c : Int)).toNat.testBit v = true; rw [Int.toNat_natCast]; exact hb)]
        obtain ⟨d, hd, hdb⟩ := hx
        have : d ∈ cs := by
          rcases List.mem_cons.mp hd with rfl | hd
          · exact absurd hdb hb
          · exact hd
        obtain ⟨r, e⟩ := ih (k + 1) ⟨d, this, hdb⟩
        refine ⟨r, ?_⟩
        rw [e, List.findIdx_cons, hb']
        refine congrArg (· :: r) ?_
        show k + 1 + _ = k + ((cs.findIdx _ + 1 : Nat) : Int)
        omega
  rw [show (nI cs) = nI cs from rfl]
  simp only [W.ret_bind, W.bind_bind, W.req_T, List.length_cons, List.length_nil, Nat.reduceAdd, Nat.reduceLeDiff, W.opt_some, W.no_ret, W.no_bind, W.no_opt, W.no_req, W.no_no, W.ite_ret, W.cont_go, W.cont_ret, W.cont_brk, if_true, if_false, Bool.false_eq_true, Bool.not_true, Bool.not_false, pyI_int, pyB_bl, py2_tup, gsz, kind_non, kind_bl, kind_int, kind_str, kind_tup, kind_lst, is_tt, is_tc, is_ct, cc_G, Bool.or_false, Bool.or_true, Bool.and_true, Bool.and_false, Bool.true_and, Bool.false_and, Bool.true_or, Bool.false_or, tg_non_non, tg_non_bl, tg_non_int, tg_non_str, tg_non_tup, tg_non_lst, tg_bl_non, tg_bl_bl, tg_bl_int, tg_bl_str, tg_bl_tup, tg_bl_lst, tg_int_non, tg_int_bl, tg_int_int, tg_int_str, tg_int_tup, tg_int_lst, tg_str_non, tg_str_bl, tg_str_int, tg_str_str, tg_str_tup, tg_str_lst, tg_tup_non, tg_tup_bl, tg_tup_int, tg_tup_str, tg_tup_tup, tg_tup_lst, tg_lst_non, tg_lst_bl, tg_lst_int, tg_lst_str, tg_lst_tup, tg_lst_lst, ]
  rw [W.lc_ret (fun p : Int × Int => p.2.toNat.testBit v) (fun p => p.1) (fun p hp => ?_) (fun _ _ _ => rfl), W.ret_bind]
  · obtain ⟨hl, c, hc, hb, hm⟩ := colO_at H hv
    obtain ⟨r, e⟩ := go cs 0 ⟨c, hm, hb⟩
    rw [e, Int.zero_add]
    exact W.idxN (i := 0) rfl
  · obtain ⟨i, hi⟩ := List.mem_iff_getElem?.mp hp
    obtain ⟨_, h2⟩ := enum_get hi
    obtain ⟨c, hc, e⟩ := List.mem_map.mp (show p.2 ∈ cs.map fun (m : Nat) => (m : Int) from List.mem_of_getElem? h2)
    rw [← e, hv_ok, Int.toNat_natCast]
end Ev
namespace Ev
open PySem PySem.Spec PyProof.Rows L2
/-- the numbers in the order in which they come first -/
def kysF (ks : List Int) (xs : List Int) : List Int := xs.foldl (fun ks x => if inB x ks = true then ks else ks ++ [x]) ks
def kys (xs : List Int) : List Int := kysF [] xs
def nfL (xs : List Int) : List Int := xs.map fun x => idx (kys xs) x
theorem kysF_ok : ∀ (xs ks : List Int), ks.Nodup → (kysF ks xs).Nodup ∧ (∀ x, x ∈ kysF ks xs ↔ x ∈ ks ∨ x ∈ xs) ∧ ∃ r, kysF ks xs = ks ++ r
  | [], ks, nd => ⟨nd, fun x => by simp [kysF], [], (List.append_nil ks).symm⟩
  | x :: xs, ks, nd => by
    show (kysF (if inB x ks = true then ks else ks ++ [x]) xs).Nodup ∧ (∀ y, y ∈ kysF (if inB x ks = true then ks else ks ++ [x]) xs ↔ _) ∧ ∃ r, kysF (if inB x ks = true then ks else ks ++ [x]) xs = _
    by_cases h : inB x ks = true
    · rw [if_pos h]
      obtain ⟨h1, h2, r, h3⟩ := kysF_ok xs ks nd
      refine ⟨h1, fun y => ?_, r, h3⟩
      rw [h2, List.mem_cons]
      have := inB_iff.mp h
      constructor
      · rintro (z | z)
        · exact .inl z
        · exact .inr (.inr z)
      · rintro (z | rfl | z)
        · exact .inl z
        · exact .inl this
        · exact .inr z
    · rw [if_neg h]
      have hx : x ∉ ks := fun z => h (inB_iff.mpr z)
      have nd' : (ks ++ [x]).Nodup := List.nodup_append.mpr ⟨nd, List.pairwise_singleton _ x, fun a ha b hb => by rw [List.mem_singleton.mp hb]; exact fun z => hx (by rw [← z]; exact ha)⟩
      obtain ⟨h1, h2, r, h3⟩ := kysF_ok xs (ks ++ [x]) nd'
      refine ⟨h1, fun y => ?_, x :: r, by rw [h3, List.append_assoc]; rfl⟩
      rw [h2, List.mem_append, List.mem_singleton, List.mem_cons, or_assoc]
theorem kysF_app (ks xs ys : List Int) : kysF ks (xs ++ ys) = kysF (kysF ks xs) ys := by unfold kysF; rw [List.foldl_append]
theorem kys_nd (xs : List Int) : (kys xs).Nodup := (kysF_ok xs [] List.nodup_nil).1
theorem kys_mem (xs : List Int) (x : Int) : x ∈ kys xs ↔ x ∈ xs := by
  rw [show kys xs = kysF [] xs from rfl, (kysF_ok xs [] List.nodup_nil).2.1]
  simp
theorem kys_step {xs : List Int} {i : Nat} {x : Int} (h : xs[i]? = some x) : kys (xs.take (i + 1)) = if inB x (kys (xs.take i)) = true then kys (xs.take i) else kys (xs.take i) ++ [x] := by
  rw [List.take_add_one, h]
  show kysF [] (xs.take i ++ [x]) = _
  rw [kysF_app]
  rfl
theorem kys_len (xs : List Int) : (kys xs).length ≤ xs.length := List.Nodup.length_le_of_subset (kys_nd xs) fun x hx => (kys_mem xs x).mp hx
theorem kys_pre (xs : List Int) (i : Nat) : ∃ r, kys xs = kys (xs.take i) ++ r := by
  have e : kys xs = kysF (kys (xs.take i)) (xs.drop i) := by
    show kysF [] xs = kysF (kysF [] (xs.take i)) (xs.drop i)
    rw [← kysF_app, List.take_append_drop]
  rw [e]
  exact (kysF_ok _ _ (kys_nd _)).2.2
theorem enum_app {α : Type} : ∀ (xs ys : List α) (k : Int), enumFrom k (xs ++ ys) = enumFrom k xs ++ enumFrom (k + xs.length) ys
  | [], ys, k => by rw [List.length_nil, Int.natCast_zero, Int.add_zero]; rfl
  | x :: xs, ys, k => by
    show (k, x) :: enumFrom (k + 1) (xs ++ ys) = (k, x) :: (enumFrom (k + 1) xs ++ enumFrom (k + ((x :: xs).length : Nat)) ys)
    rw [enum_app xs ys, List.length_cons]
    refine congrArg (fun z => (k, x) :: (_ ++ enumFrom z ys)) ?_
    omega
def plcD (ks : List Int) : List (Int × Int) := (enumFrom 0 ks).map fun p => (p.2, p.1)
theorem plcD_len (ks : List Int) : (plcD ks).length = ks.length := by unfold plcD; rw [List.length_map, enum_len]
theorem plcD_app (ks : List Int) (x : Int) : plcD (ks ++ [x]) = plcD ks ++ [(x, (ks.length : Int))] := by
  unfold plcD
  rw [enum_app, List.map_append]
  show _ ++ [(x, 0 + (ks.length : Int))] = _
  rw [Int.zero_add]
theorem plcD_look {ks : List Int} (nd : ks.Nodup) (x : Int) : lookI (plcD ks) x = if inB x ks = true then some (idx ks x) else none := by
  by_cases h : x ∈ ks
  · obtain ⟨i, e, _, g⟩ := idx_at h
    rw [if_pos (inB_iff.mpr h), e]
    unfold plcD
    rw [look_enum nd g, Int.zero_add]
  · rw [if_neg fun z => h (inB_iff.mp z)]
    exact lookI_none h
theorem are_colors_ok (xs : List Int) : f_are_colors (eT eI xs) = W.ret (xs.all fun x => decide (0 ≤ x ∧ x ≤ 23)) := by
  unfold f_are_colors
  simp only [W.ret_bind, W.bind_bind, W.req_T, List.length_cons, List.length_nil, Nat.reduceAdd, Nat.reduceLeDiff, W.opt_some, W.no_ret, W.no_bind, W.no_opt, W.no_req, W.no_no, W.ite_ret, W.cont_go, W.cont_ret, W.cont_brk, if_true, if_false, Bool.false_eq_true, Bool.not_true, Bool.not_false, pyI_int, pyB_bl, py2_tup, gsz, kind_non, kind_bl, kind_int, kind_str, kind_tup, kind_lst, is_tt, is_tc, is_ct, cc_G, Bool.or_false, Bool.or_true, Bool.and_true, Bool.and_false, Bool.true_and, Bool.false_and, Bool.true_or, Bool.false_or, tg_non_non, tg_non_bl, tg_non_int, tg_non_str, tg_non_tup, tg_non_lst, tg_bl_non, tg_bl_bl, tg_bl_int, tg_bl_str, tg_bl_tup, tg_bl_lst, tg_int_non, tg_int_bl, tg_int_int, tg_int_str, tg_int_tup, tg_int_lst, tg_str_non, tg_str_bl, tg_str_int, tg_str_str, tg_str_tup, tg_str_lst, tg_tup_non, tg_tup_bl, tg_tup_int, tg_tup_str, tg_tup_tup, tg_tup_lst, tg_lst_non, tg_lst_bl, tg_lst_int, tg_lst_str, tg_lst_tup, tg_lst_lst, show kindOf CS (eT eI xs) = some (.t .tup) from rfl, show Tg.is .tup .tup = true from rfl, show seqP (eT eI xs) = some (xs.map eI) from rfl]
  rw [W.lc_map (fun p : PV => match p with | .int a => decide (0 ≤ a ∧ a ≤ 23) | _ => false) fun p hp => ?_, W.ret_bind, List.map_map, List.all_map]
  · rfl
  · obtain ⟨x, _, rfl⟩ := List.mem_map.mp hp
    exact between_I x 0 (C_MOST_VERTICES - 1)
theorem normal_ok {xs : List Int} (h : ∀ x ∈ xs, 0 ≤ x ∧ x ≤ 23) (hl : xs.length ≤ 24) : f_normal_form (eT eI xs) = W.ret (nfL xs) := by
  have bl : bLen [eT eI xs] = some (.int (xs.length : Int)) := by
    show some (PV.int ((xs.map eI).length : Int)) = _
    rw [List.length_map]
  have ha : (xs.all fun x => decide (0 ≤ x ∧ x ≤ 23)) = true := List.all_eq_true.mpr fun x hx => decide_eq_true (h x hx)
  unfold f_normal_form
  simp only [W.ret_bind, W.bind_bind, W.req_T, List.length_cons, List.length_nil, Nat.reduceAdd, Nat.reduceLeDiff, W.opt_some, W.no_ret, W.no_bind, W.no_opt, W.no_req, W.no_no, W.ite_ret, W.cont_go, W.cont_ret, W.cont_brk, if_true, if_false, Bool.false_eq_true, Bool.not_true, Bool.not_false, pyI_int, pyB_bl, py2_tup, gsz, kind_non, kind_bl, kind_int, kind_str, kind_tup, kind_lst, is_tt, is_tc, is_ct, cc_G, Bool.or_false, Bool.or_true, Bool.and_true, Bool.and_false, Bool.true_and, Bool.false_and, Bool.true_or, Bool.false_or, tg_non_non, tg_non_bl, tg_non_int, tg_non_str, tg_non_tup, tg_non_lst, tg_bl_non, tg_bl_bl, tg_bl_int, tg_bl_str, tg_bl_tup, tg_bl_lst, tg_int_non, tg_int_bl, tg_int_int, tg_int_str, tg_int_tup, tg_int_lst, tg_str_non, tg_str_bl, tg_str_int, tg_str_str, tg_str_tup, tg_str_lst, tg_tup_non, tg_tup_bl, tg_tup_int, tg_tup_str, tg_tup_tup, tg_tup_lst, tg_lst_non, tg_lst_bl, tg_lst_int, tg_lst_str, tg_lst_tup, tg_lst_lst, are_colors_ok, ha, W.ex_int bl, decide_eq_false (show ¬ C_MOST_VERTICES < (xs.length : Int) by show ¬ (24 : Int) < _; omega), show seqP (eT eI xs) = some (xs.map eI) from rfl]
  refine Eq.trans (congrArg (fun z => W.bind z _) (W.forS_at (fun i => plcD (kys (xs.take i))) fun i x hx => ?_)) ?_
  · rw [List.getElem?_map] at hx
    obtain ⟨y, hy, rfl⟩ := Option.map_eq_some_iff.mp hx
    have nd := kys_nd (xs.take i)
    have kl : (kys (xs.take i)).length ≤ 24 := by
      have := kys_len (xs.take i)
      rw [List.length_take] at this
      omega
    rw [show W.opt (pyI (eI y)) = W.ret y from W.opt_some y, W.ret_bind]
    unfold W.setdD
    rw [W.req_true (by rw [plcD_len]; omega), W.ret_bind, kys_step hy]
    refine congrArg W.ret ?_
    rw [plcD_look nd]
    by_cases hb : inB y (kys (xs.take i)) = true
    · rw [if_pos hb, if_pos (show (some (idx (kys (xs.take i)) y)).isSome = true from rfl), if_pos hb]
    · rw [if_neg hb, if_neg (by simp), if_neg hb, setK_new (by rw [plcD_look nd, if_neg hb]), plcD_app, plcD_len]
  · rw [W.ret_bind, List.length_map, List.take_length]
    rw [W.lc_map (fun p : PV => match p with | .int x => idx (kys xs) x | _ => 0) fun p hp => ?_, List.map_map]
    · rfl
    · obtain ⟨x, hx, rfl⟩ := List.mem_map.mp hp
      rw [show W.opt (pyI (eI x)) = W.ret x from W.opt_some x, W.ret_bind, plcD_look (kys_nd xs), if_pos (inB_iff.mpr ((kys_mem xs x).mpr hx)), W.opt_some]
      rfl
theorem subset_coloring_ok {A : Nat → Nat → Bool} {n m : Nat} (hn : n ≤ 8) {s : List (List Nat)} (hs : SetsOk A n s) (hm : m < 2 ^ n) : ∃ cs, ColOk A m cs ∧ f_subset_coloring (rowM n m) (s.map nI) ((List.range (2 ^ n)).map fun m => ((chi A m : Nat) : Int)) = W.ret (nfL ((rowM n m).map fun v => ((colO cs v.toNat : Nat) : Int))) := by
  have p8 := pow_le8 hn
  obtain ⟨cs, H, e⟩ := color_masks_ok hn hs hm
  have c8 : cs.length ≤ 8 := by
    rw [H.len]
    have := chi_le_pc A m (by omega)
    have : pc m ≤ 8 := by unfold pc; exact Nat.le_trans List.countP_le_length (by simp)
    omega
  refine ⟨cs, H, ?_⟩
  have rl : (rowM n m).length ≤ 8 := by
    rw [row_len hn hm]
    unfold pc; exact Nat.le_trans List.countP_le_length (by simp)
  have mk : f_mask_of (rowM n m) = W.ret (m : Int) := by rw [mask_ok fun v hv => by have := row_bd hv; omega, row_msk hn hm]
  unfold f_subset_coloring
  simp only [W.ret_bind, W.bind_bind, W.req_T, List.length_cons, List.length_nil, Nat.reduceAdd, Nat.reduceLeDiff, W.opt_some, W.no_ret, W.no_bind, W.no_opt, W.no_req, W.no_no, W.ite_ret, W.cont_go, W.cont_ret, W.cont_brk, if_true, if_false, Bool.false_eq_true, Bool.not_true, Bool.not_false, pyI_int, pyB_bl, py2_tup, gsz, kind_non, kind_bl, kind_int, kind_str, kind_tup, kind_lst, is_tt, is_tc, is_ct, cc_G, Bool.or_false, Bool.or_true, Bool.and_true, Bool.and_false, Bool.true_and, Bool.false_and, Bool.true_or, Bool.false_or, tg_non_non, tg_non_bl, tg_non_int, tg_non_str, tg_non_tup, tg_non_lst, tg_bl_non, tg_bl_bl, tg_bl_int, tg_bl_str, tg_bl_tup, tg_bl_lst, tg_int_non, tg_int_bl, tg_int_int, tg_int_str, tg_int_tup, tg_int_lst, tg_str_non, tg_str_bl, tg_str_int, tg_str_str, tg_str_tup, tg_str_lst, tg_tup_non, tg_tup_bl, tg_tup_int, tg_tup_str, tg_tup_tup, tg_tup_lst, tg_lst_non, tg_lst_bl, tg_lst_int, tg_lst_str, tg_lst_tup, tg_lst_lst, mk, e]
  rw [W.lc_map (fun v : Int => ((colO cs v.toNat : Nat) : Int)) fun v hv => ?_, W.ret_bind]
  · refine normal_ok (fun x hx => ?_) (by rw [List.length_map]; omega)
    obtain ⟨v, hv, rfl⟩ := List.mem_map.mp hx
    obtain ⟨i, rfl, _, hb⟩ := row_mem.mp hv
    have := (colO_at H hb).1
    rw [Int.toNat_natCast]
    omega
  · obtain ⟨i, rfl, _, hb⟩ := row_mem.mp hv
    rw [color_of_ok H hb, Int.toNat_natCast]
theorem optimal_ok {g : Gr} (h : GoodE g.n g.qs) (hn : 1 ≤ g.n ∧ g.n ≤ 8) : ∃ cs, ColOk (ad g) (2 ^ g.n - 1) cs ∧ f_optimal_coloring g = W.ret (nfL ((rowM g.n (2 ^ g.n - 1)).map fun v => ((colO cs v.toNat : Nat) : Int))) := by
  have p0 : 0 < 2 ^ g.n := Nat.two_pow_pos _
  obtain ⟨s, hs, e⟩ := masks_ok h hn.2
  obtain ⟨cs, H, e2⟩ := subset_coloring_ok hn.2 hs (show 2 ^ g.n - 1 < 2 ^ g.n by omega)
  refine ⟨cs, H, ?_⟩
  have er : rowM g.n (2 ^ g.n - 1) = rng 0 (g.n : Int) := by
    unfold rowM
    rw [rng_zero, List.filter_eq_self.mpr fun i hi => by rw [Nat.testBit_two_pow_sub_one]; exact decide_eq_true (List.mem_range.mp hi)]
  unfold f_optimal_coloring
  simp only [W.ret_bind, W.bind_bind, W.req_T, List.length_cons, List.length_nil, Nat.reduceAdd, Nat.reduceLeDiff, W.opt_some, W.no_ret, W.no_bind, W.no_opt, W.no_req, W.no_no, W.ite_ret, W.cont_go, W.cont_ret, W.cont_brk, if_true, if_false, Bool.false_eq_true, Bool.not_true, Bool.not_false, pyI_int, pyB_bl, py2_tup, gsz, kind_non, kind_bl, kind_int, kind_str, kind_tup, kind_lst, is_tt, is_tc, is_ct, cc_G, Bool.or_false, Bool.or_true, Bool.and_true, Bool.and_false, Bool.true_and, Bool.false_and, Bool.true_or, Bool.false_or, tg_non_non, tg_non_bl, tg_non_int, tg_non_str, tg_non_tup, tg_non_lst, tg_bl_non, tg_bl_bl, tg_bl_int, tg_bl_str, tg_bl_tup, tg_bl_lst, tg_int_non, tg_int_bl, tg_int_int, tg_int_str, tg_int_tup, tg_int_lst, tg_str_non, tg_str_bl, tg_str_int, tg_str_str, tg_str_tup, tg_str_lst, tg_tup_non, tg_tup_bl, tg_tup_int, tg_tup_str, tg_tup_tup, tg_tup_lst, tg_lst_non, tg_lst_bl, tg_lst_int, tg_lst_str, tg_lst_tup, tg_lst_lst, exh_ok hn.2, e, len_g, W.req_true (show 0 ≤ (g.n : Int) ∧ (g.n : Int) ≤ 1000000 ∧ (gr_vertices g).length ≤ 1000000 by rw [show gr_vertices g = vtx g.n from rfl, vtx_ln]; omega), chromatic_ok hn.2 hs]
  rw [show gr_vertices g = rowM g.n (2 ^ g.n - 1) by rw [er, rng_zero]; rfl]
  exact e2
theorem optimal_big {g : Gr} (hn : 8 < g.n) : f_optimal_coloring g = W.err (mkE "TooLarge" ["what"] [.str "vertices"]) := by
  unfold f_optimal_coloring
  simp only [W.ret_bind, W.bind_bind, W.req_T, List.length_cons, List.length_nil, Nat.reduceAdd, Nat.reduceLeDiff, W.opt_some, W.no_ret, W.no_bind, W.no_opt, W.no_req, W.no_no, W.ite_ret, W.cont_go, W.cont_ret, W.cont_brk, if_true, if_false, Bool.false_eq_true, Bool.not_true, Bool.not_false, pyI_int, pyB_bl, py2_tup, gsz, kind_non, kind_bl, kind_int, kind_str, kind_tup, kind_lst, is_tt, is_tc, is_ct, cc_G, Bool.or_false, Bool.or_true, Bool.and_true, Bool.and_false, Bool.true_and, Bool.false_and, Bool.true_or, Bool.false_or, tg_non_non, tg_non_bl, tg_non_int, tg_non_str, tg_non_tup, tg_non_lst, tg_bl_non, tg_bl_bl, tg_bl_int, tg_bl_str, tg_bl_tup, tg_bl_lst, tg_int_non, tg_int_bl, tg_int_int, tg_int_str, tg_int_tup, tg_int_lst, tg_str_non, tg_str_bl, tg_str_int, tg_str_str, tg_str_tup, tg_str_lst, tg_tup_non, tg_tup_bl, tg_tup_int, tg_tup_str, tg_tup_tup, tg_tup_lst, tg_lst_non, tg_lst_bl, tg_lst_int, tg_lst_str, tg_lst_tup, tg_lst_lst, exh_bad hn, W.err_bind]
theorem chromatic_number_ok {g : Gr} (h : GoodE g.n g.qs) (hn : 1 ≤ g.n ∧ g.n ≤ 8) : f_chromatic_number g = W.ret ((chi (ad g) (2 ^ g.n - 1) : Nat) : Int) := by
  have p0 : 0 < 2 ^ g.n := Nat.two_pow_pos _
  obtain ⟨s, hs, e⟩ := masks_ok h hn.2
  unfold f_chromatic_number
  simp only [W.ret_bind, W.bind_bind, W.req_T, List.length_cons, List.length_nil, Nat.reduceAdd, Nat.reduceLeDiff, W.opt_some, W.no_ret, W.no_bind, W.no_opt, W.no_req, W.no_no, W.ite_ret, W.cont_go, W.cont_ret, W.cont_brk, if_true, if_false, Bool.false_eq_true, Bool.not_true, Bool.not_false, pyI_int, pyB_bl, py2_tup, gsz, kind_non, kind_bl, kind_int, kind_str, kind_tup, kind_lst, is_tt, is_tc, is_ct, cc_G, Bool.or_false, Bool.or_true, Bool.and_true, Bool.and_false, Bool.true_and, Bool.false_and, Bool.true_or, Bool.false_or, tg_non_non, tg_non_bl, tg_non_int, tg_non_str, tg_non_tup, tg_non_lst, tg_bl_non, tg_bl_bl, tg_bl_int, tg_bl_str, tg_bl_tup, tg_bl_lst, tg_int_non, tg_int_bl, tg_int_int, tg_int_str, tg_int_tup, tg_int_lst, tg_str_non, tg_str_bl, tg_str_int, tg_str_str, tg_str_tup, tg_str_lst, tg_tup_non, tg_tup_bl, tg_tup_int, tg_tup_str, tg_tup_tup, tg_tup_lst, tg_lst_non, tg_lst_bl, tg_lst_int, tg_lst_str, tg_lst_tup, tg_lst_lst, exh_ok hn.2, e, chromatic_ok hn.2 hs]
  rw [at_last (v := ((chi (ad g) (2 ^ g.n - 1) : Nat) : Int)) ?_, W.opt_some]
  rw [List.getLast?_map, List.getLast?_range, if_neg (by omega)]
  rfl
theorem chromatic_number_big {g : Gr} (hn : 8 < g.n) : f_chromatic_number g = W.err (mkE "TooLarge" ["what"] [.str "vertices"]) := by
  unfold f_chromatic_number
  simp only [W.ret_bind, W.bind_bind, W.req_T, List.length_cons, List.length_nil, Nat.reduceAdd, Nat.reduceLeDiff, W.opt_some, W.no_ret, W.no_bind, W.no_opt, W.no_req, W.no_no, W.ite_ret, W.cont_go, W.cont_ret, W.cont_brk, if_true, if_false, Bool.false_eq_true, Bool.not_true, Bool.not_false, pyI_int, pyB_bl, py2_tup, gsz, kind_non, kind_bl, kind_int, kind_str, kind_tup, kind_lst, is_tt, is_tc, is_ct, cc_G, Bool.or_false, Bool.or_true, Bool.and_true, Bool.and_false, Bool.true_and, Bool.false_and, Bool.true_or, Bool.false_or, tg_non_non, tg_non_bl, tg_non_int, tg_non_str, tg_non_tup, tg_non_lst, tg_bl_non, tg_bl_bl, tg_bl_int, tg_bl_str, tg_bl_tup, tg_bl_lst, tg_int_non, tg_int_bl, tg_int_int, tg_int_str, tg_int_tup, tg_int_lst, tg_str_non, tg_str_bl, tg_str_int, tg_str_str, tg_str_tup, tg_str_lst, tg_tup_non, tg_tup_bl, tg_tup_int, tg_tup_str, tg_tup_tup, tg_tup_lst, tg_lst_non, tg_lst_bl, tg_lst_int, tg_lst_str, tg_lst_tup, tg_lst_lst, exh_bad hn, W.err_bind]
/-- properties of the coloring -/
theorem nf_len (xs : List Int) : (nfL xs).length = xs.length := by unfold nfL; rw [List.length_map]
theorem nf_at {xs : List Int} {i : Nat} {x : Int} (h : xs[i]? = some x) : (nfL xs)[i]? = some (idx (kys xs) x) := by unfold nfL; rw [List.getElem?_map, h]; rfl
/-- each the least new one, or an old one -/
theorem nf_step {xs : List Int} {i : Nat} {x : Int} (h : xs[i]? = some x) : 0 ≤ idx (kys xs) x ∧ idx (kys xs) x ≤ (kys (xs.take i)).length ∧ (kys (xs.take (i + 1))).length = if idx (kys xs) x = (kys (xs.take i)).length then (kys (xs.take i)).length + 1 else (kys (xs.take i)).length := by
  obtain ⟨r, er⟩ := kys_pre xs i
  obtain ⟨r2, er2⟩ := kys_pre xs (i + 1)
  have st := kys_step h
  have nd := kys_nd xs
  by_cases hb : inB x (kys (xs.take i)) = true
  · obtain ⟨j, _, hj, gj⟩ := idx_at (inB_iff.mp hb)
    have e : idx (kys xs) x = j := idx_nat nd (by rw [er, List.getElem?_append_left hj]; exact gj)
    rw [if_pos hb] at st
    rw [st, e, if_neg (by omega)]
    omega
  · rw [if_neg hb] at st
    have e : idx (kys xs) x = ((kys (xs.take i)).length : Nat) := idx_nat nd (by
      rw [er2, st, List.append_assoc, List.getElem?_append_right (Nat.le_refl _), Nat.sub_self]
      rfl)
    rw [st, e, if_pos rfl, List.length_append, List.length_singleton]
    omega
theorem nf_inj {xs : List Int} {x y : Int} (hx : x ∈ xs) (hy : y ∈ xs) (e : idx (kys xs) x = idx (kys xs) y) : x = y := by
  obtain ⟨i, e1, _, g1⟩ := idx_at ((kys_mem xs x).mpr hx)
  obtain ⟨j, e2, _, g2⟩ := idx_at ((kys_mem xs y).mpr hy)
  rw [show i = j by omega, g2] at g1
  exact (Option.some.inj g1).symm
/-- all colours are used -/
theorem kys_col {A : Nat → Nat → Bool} {n m : Nat} {cs : List Nat} (hm : m < 2 ^ n) (H : ColOk A m cs) : (kys ((rowM n m).map fun v => ((colO cs v.toNat : Nat) : Int))).length = cs.length := by
  have p : (kys ((rowM n m).map fun v => ((colO cs v.toNat : Nat) : Int))).Perm (rng 0 (cs.length : Int)) := (List.perm_ext_iff_of_nodup (kys_nd _) ((rng_pw _ _).imp fun {a b} h e => by omega)).mpr fun x => by
    rw [kys_mem, rng_mem, List.mem_map]
    constructor
    · rintro ⟨v, hv, rfl⟩
      obtain ⟨i, rfl, _, hb⟩ := row_mem.mp hv
      have := (colO_at H hb).1
      rw [Int.toNat_natCast]
      omega
    · intro hx
      have hl : x.toNat < cs.length := by omega
      have hc := List.getElem_mem hl
      obtain ⟨v, hv⟩ := Nat.exists_testBit_of_ne_zero (H.ne _ hc)
      have hb := H.P.sb hc v hv
      refine ⟨(v : Int), row_mem.mpr ⟨v, rfl, bit_lt hm hb, hb⟩, ?_⟩
      rw [Int.toNat_natCast, colO_un H hb (List.getElem?_eq_getElem hl) hv]
      omega
  rw [p.length_eq, rng_len]
  omega
/-- joined ones differ -/
theorem col_prop {A : Nat → Nat → Bool} {m v w : Nat} {cs : List Nat} (H : ColOk A m cs) (hv : m.testBit v = true) (hw : m.testBit w = true) (ne : v ≠ w) (ha : A v w = true) : colO cs v ≠ colO cs w := fun e => by
  obtain ⟨_, c, h1, h2, h3⟩ := colO_at H hv
  obtain ⟨_, d, h4, h5, h6⟩ := colO_at H hw
  rw [e, h4] at h1
  have := Option.some.inj h1
  subst this
  have := H.P.ind _ h6 v w ne h2 h5
  rw [ha] at this
  cases this
end Ev
namespace Ev
open PySem PySem.Spec PyProof.Rows L2
/-- the goal of a bind, said for unification -/
theorem W.bind_to {α β : Type} {w : W α} {k : α → W β} {Q : β → Prop} {X : PErr → Prop} (h : w (fun a => k a Q X) X) : W.bind w k Q X := h
theorem pwN {v : Nat} (h : v ≤ 1000000) : W.req (cPow 1 (v : Int) = true) ((1 : Int) * 2 ^ Int.toNat (v : Int)) = W.ret ((2 ^ v : Nat) : Int) := W.shl1 h
end Ev
namespace Ev
open PySem PySem.Spec PyProof.Rows L2
end Ev
namespace Ev
open PySem PySem.Spec PyProof.Rows L2
theorem in_co {n m : Nat} {A : Nat → Nat → Bool} (hm : m < 2 ^ n) : In A m ↔ Cl (coA n A) m := by
  constructor
  · intro h i j ne hi hj
    unfold coA
    rw [h i j ne hi hj, decide_eq_true ne, decide_eq_true (bit_lt hm hi), decide_eq_true (bit_lt hm hj)]
    rfl
  · intro h i j ne hi hj
    have := h i j ne hi hj
    unfold coA at this
    rw [Bool.and_eq_true, Bool.and_eq_true, Bool.and_eq_true, Bool.not_eq_true'] at this
    exact this.2.2.2
theorem sb_lt {n c m : Nat} (hm : m < 2 ^ n) (s : Sb c m) : c < 2 ^ n := by
  refine Nat.lt_of_not_le fun hc => ?_
  obtain ⟨j, hj, hb⟩ := Nat.exists_ge_and_testBit_of_ge_two_pow hc
  have := bit_lt hm (s j hb)
  omega
end Ev
namespace Ev
open PySem PySem.Spec PyProof.Rows L2
end Ev
namespace Ev
open PySem PySem.Spec PyProof.Rows L2
theorem str_ok1 : PyData.strOk "answer" = true := by decide +kernel
theorem str_ok2 : PyData.strOk "TooLarge" = true := by decide +kernel
theorem str_ok3 : PyData.strOk "vertices" = true := by decide +kernel
def tooP : PV := .tup [.str "TooLarge", .str "vertices"]
theorem gd_too : Gd 1 tooP := gd_2 (.str 0 _ str_ok2) (.str 0 _ str_ok3)
theorem tooP_eq : eP2 eS eS (("TooLarge" : Str), ("vertices" : Str)) = tooP := rfl
theorem if_same {α : Type} (c : Bool) (x : α) : (if c = true then x else x) = x := by cases c <;> rfl
theorem tell_too {β : Type} {k : Unit → W PV} {r : List (Str × Str × Str)} (h1 : ("TooLarge" : Str) ∈ ES) : W.bind (tellW ES (("TooLarge", "TooLarge", "what") :: r) (mkE "TooLarge" ["what"] [.str "vertices"])) (W.cont k fun v => W.ret v) = W.ret tooP := by
  rw [tell_hit (c := "TooLarge") (t := "TooLarge") (f := "what") h1 rfl (v := .str "vertices") rfl]
  rfl
theorem al_too : f__law_alike 12 tooP tooP = W.ret true := alike_ok 12 1 _ gd_too (by decide)
theorem al_gd {d : Nat} {x : PV} (h : Gd d x) (hd : d < 12) : f__law_alike 12 x x = W.ret true := alike_ok 12 d x h hd
theorem al_gr {n : Nat} (hn : n ≤ 24) (ms : List Nat) : f__law_alike 12 (eP2 eI (eT (eP2 eI eI)) ((n : Int), edM n ms)) (eP2 eI (eT (eP2 eI eI)) ((n : Int), edM n ms)) = W.ret true := alike_ok 12 3 _ (gd_2 (.int 2 _) (gd_prs 0 _ (Nat.le_trans (edM_len hn ms) (by decide)))) (by decide)
theorem gr_M {n : Nat} (h1 : 1 ≤ n) (h2 : n ≤ 24) (ms : List Nat) : W.graph (n : Int) (edM n ms) = W.ret ⟨n, edM n ms⟩ := W.graph_ok h1 h2 (edM_good n ms)
theorem ad_M {n : Nat} {ms : List Nat} (h : NrOk n ms) : ad ⟨n, edM n ms⟩ = nrA ms := funext fun v => funext fun w => ad_edM h v w
end Ev
namespace Ev
open PySem PySem.Spec PyProof.Rows L2
/-- submasks, greater ones first -/
def seqM (b : Nat) : Nat → Nat → List Nat
  | 0, _ => []
  | k + 1, p => if p = 0 then [] else p :: seqM b k ((p - 1) &&& b)
theorem seq_facts : ((List.range 256).all fun b => decide (seqM b 256 b = ((List.range 256).filter fun q => Nat.beq (q &&& b) q && !Nat.beq q 0).reverse)) = true := by decide +kernel
theorem seq_mem {b : Nat} (hb : b < 256) {q : Nat} : q ∈ seqM b 256 b ↔ Sb q b ∧ q ≠ 0 := by
  have := of_decide_eq_true (List.all_eq_true.mp seq_facts b (List.mem_range.mpr hb))
  rw [this, List.mem_reverse, List.mem_filter, List.mem_range, Bool.and_eq_true, Bool.not_eq_true']
  constructor
  · rintro ⟨_, h1, h2⟩
    exact ⟨sb_and.mp (beq_iff_eq.mpr (Nat.eq_of_beq_eq_true h1)), fun z => by rw [z] at h2; cases h2⟩
  · rintro ⟨h1, h2⟩
    refine ⟨h1.lt hb, by rw [beq_iff_eq.mp (sb_and.mpr h1)]; exact Nat.beq_refl _, ?_⟩
    cases h : Nat.beq q 0 with
    | false => rfl
    | true => exact absurd (Nat.eq_of_beq_eq_true h) h2
theorem seq_cut (b : Nat) : ∀ (k j p : Nat), k ≤ j → seqM b k p = (seqM b j p).take k
  | 0, _, _, _ => by rw [List.take_zero]; rfl
  | k + 1, j, p, hj => by
    obtain ⟨j, rfl⟩ : ∃ i, j = i + 1 := ⟨j - 1, by omega⟩
    unfold seqM
    by_cases hp : p = 0
    · rw [if_pos hp, if_pos hp, List.take_nil]
    · rw [if_neg hp, if_neg hp, List.take_succ_cons, seq_cut b k j _ (by omega)]
/-- so many turns end it -/
theorem seq_turns {n b : Nat} (hn : n ≤ 8) (hb : b < 2 ^ n) : seqM b (2 ^ n) b = seqM b 256 b ∧ (seqM b (2 ^ n) b).length < 2 ^ n := by
  have p8 := pow_le8 hn
  have len : (seqM b 256 b).length < 2 ^ n := by
    have nd : (0 :: seqM b 256 b).Nodup := by
      have e := of_decide_eq_true (List.all_eq_true.mp seq_facts b (List.mem_range.mpr (by omega)))
      refine List.nodup_cons.mpr ⟨fun z => ((seq_mem (by omega)).mp z).2 rfl, ?_⟩
      rw [e]
      exact (List.reverse_perm _).nodup_iff.mpr (List.Pairwise.filter _ List.nodup_range)
    have := List.Nodup.length_le_of_subset nd (l₂ := List.range (2 ^ n)) fun q hq => by
      rw [List.mem_range]
      rcases List.mem_cons.mp hq with rfl | hq
      · exact Nat.two_pow_pos _
      · exact sb_lt hb ((seq_mem (by omega)).mp hq).1
    rw [List.length_cons, List.length_range] at this
    omega
  have e := seq_cut b (2 ^ n) 256 b p8
  rw [List.take_of_length_le (by omega)] at e
  exact ⟨e, by rw [e]; exact len⟩
/-- the least over these -/
def bestF (F : Nat → Bool) (G : Nat → Nat) (b0 : Nat) (ps : List Nat) : Nat := ps.foldl (fun b p => if F p = true ∧ 1 + G p < b then 1 + G p else b) b0
theorem best_ok (F : Nat → Bool) (G : Nat → Nat) : ∀ (ps : List Nat) (b0 : Nat), bestF F G b0 ps ≤ b0 ∧ (∀ p ∈ ps, F p = true → bestF F G b0 ps ≤ 1 + G p) ∧ (bestF F G b0 ps = b0 ∨ ∃ p ∈ ps, F p = true ∧ bestF F G b0 ps = 1 + G p)
  | [], b0 => ⟨Nat.le_refl _, (fun p h => by cases h), .inl rfl⟩
  | q :: ps, b0 => by
    have e : bestF F G b0 (q :: ps) = bestF F G (if F q = true ∧ 1 + G q < b0 then 1 + G q else b0) ps := rfl
    obtain ⟨h1, h2, h3⟩ := best_ok F G ps (if F q = true ∧ 1 + G q < b0 then 1 + G q else b0)
    rw [e]
    have le : (if F q = true ∧ 1 + G q < b0 then 1 + G q else b0) ≤ b0 := by split <;> omega
    refine ⟨Nat.le_trans h1 le, fun p hp hF => ?_, ?_⟩
    · rcases List.mem_cons.mp hp with rfl | hp
      · refine Nat.le_trans h1 ?_
        split
        · exact Nat.le_refl _
        · rename_i hc
          exact Nat.le_of_not_lt fun z => hc ⟨hF, z⟩
      · exact h2 p hp hF
    · rcases h3 with h3 | ⟨p, hp, hF, h3⟩
      · by_cases hc : F q = true ∧ 1 + G q < b0
        · rw [if_pos hc] at h3 ⊢
          exact .inr ⟨q, List.mem_cons_self, hc.1, h3⟩
        · rw [if_neg hc] at h3 ⊢
          exact .inl h3
      · exact .inr ⟨p, List.mem_cons_of_mem _ hp, hF, h3⟩
/-- the class of the lowest vertex -/
theorem chi_low {A : Nat → Nat → Bool} (sy : ∀ i j, A i j = A j i) {m v b : Nat} (hm : m < 256) (hb : m.testBit v = true) (hB : ∀ j, b.testBit j = ((m - 2 ^ v).testBit j && !A v j)) {F : Nat → Bool} (hF : ∀ p, Sb p b → (F p = true ↔ In A p)) : chi A m = bestF F (fun p => chi A ((m - 2 ^ v) ^^^ p)) (1 + chi A (m - 2 ^ v)) (seqM b 256 b) := by
  have tp : ∀ j, (2 ^ v).testBit j = decide (v = j) := fun j => Nat.testBit_two_pow
  have b8 : b < 256 := by
    refine Nat.lt_of_le_of_lt (m := m - 2 ^ v) ?_ (Nat.lt_of_le_of_lt (Nat.sub_le _ _) hm)
    have : b &&& (m - 2 ^ v) = b := Nat.eq_of_testBit_eq fun j => by
      rw [Nat.testBit_and, hB]
      cases (m - 2 ^ v).testBit j <;> cases A v j <;> rfl
    rw [← this]; exact Nat.and_le_right
  obtain ⟨h1, h2, h3⟩ := best_ok F (fun p => chi A ((m - 2 ^ v) ^^^ p)) (seqM b 256 b) (1 + chi A (m - 2 ^ v))
  have xs := xor_sub hm hb
  -- of a class the rest
  have split : ∀ c, Sb c m → c.testBit v = true → m ^^^ c = (m - 2 ^ v) ^^^ (c - 2 ^ v) := fun c sc cb => Nat.eq_of_testBit_eq fun j => by
    rw [Nat.testBit_xor, Nat.testBit_xor, rest_bit hm hb, rest_bit (sc.lt hm) cb]
    by_cases e : j = v
    · subst e; rw [hb, cb, decide_eq_false (by simp)]; rfl
    · rw [decide_eq_true e, Bool.and_true, Bool.and_true]
  have sub : ∀ c, Sb c m → In A c → c.testBit v = true → Sb (c - 2 ^ v) b ∧ In A (c - 2 ^ v) := fun c sc ci cb => by
    refine ⟨fun j hj => ?_, fun i j ne hi hj => ?_⟩
    · rw [rest_bit (sc.lt hm) cb, Bool.and_eq_true, decide_eq_true_eq] at hj
      rw [hB, rest_bit hm hb, sc j hj.1, decide_eq_true hj.2, ci v j (Ne.symm hj.2) cb hj.1]
      rfl
    · rw [rest_bit (sc.lt hm) cb, Bool.and_eq_true] at hi hj
      exact ci i j ne hi.1 hj.1
  refine ((chi_ok A m).uniq (chi_step hb (fun t _ => chi_ex A t) ?_ fun c r sc ci cb hr => ?_))
  · rcases h3 with h3 | ⟨p, hp, hFp, h3⟩
    · refine ⟨2 ^ v, chi A (m - 2 ^ v), fun j hj => ?_, fun i j ne hi hj => ?_, by rw [tp]; simp, ?_, by rw [h3]; omega⟩
      · rw [tp, decide_eq_true_eq] at hj; rw [← hj]; exact hb
      · rw [tp, decide_eq_true_eq] at hi hj; omega
      · rw [xs]; exact chi_ok A _
    · obtain ⟨sp, p0⟩ := (seq_mem b8).mp hp
      have ip := (hF p sp).mp hFp
      have pv : p.testBit v = false := by
        cases h : p.testBit v with
        | false => rfl
        | true =>
          have := sp v h
          rw [hB, rest_bit hm hb, decide_eq_false (by simp)] at this
          simp at this
      have cb : ∀ j, (2 ^ v ||| p).testBit j = (decide (v = j) || p.testBit j) := fun j => by rw [Nat.testBit_or, tp]
      have sm : Sb (2 ^ v ||| p) m := fun j hj => by
        rw [cb, Bool.or_eq_true, decide_eq_true_eq] at hj
        rcases hj with rfl | hj
        · exact hb
        · have := sp j hj
          rw [hB, Bool.and_eq_true, rest_bit hm hb, Bool.and_eq_true] at this
          exact this.1.1
      refine ⟨2 ^ v ||| p, chi A ((m - 2 ^ v) ^^^ p), sm, fun i j ne hi hj => ?_, by rw [cb, decide_eq_true rfl]; rfl, ?_, by rw [h3]; omega⟩
      · rw [cb, Bool.or_eq_true, decide_eq_true_eq] at hi hj
        have nb : ∀ j, p.testBit j = true → A v j = false := fun j hj => by
          have := sp j hj
          rw [hB, Bool.and_eq_true, Bool.not_eq_true'] at this
          exact this.2
        rcases hi with rfl | hi
        · rcases hj with rfl | hj
          · exact absurd rfl ne
          · exact nb j hj
        · rcases hj with rfl | hj
          · rw [sy]; exact nb i hi
          · exact ip i j ne hi hj
      · have e := split _ sm (by rw [cb, decide_eq_true rfl]; rfl)
        have e2 : (2 ^ v ||| p) - 2 ^ v = p := Nat.eq_of_testBit_eq fun j => by
          rw [rest_bit (sm.lt hm) (by rw [cb, decide_eq_true rfl]; rfl), cb]
          by_cases ej : v = j
          · subst ej; rw [pv, decide_eq_false (show ¬ v ≠ v by simp)]; simp
          · rw [decide_eq_false ej, decide_eq_true (Ne.symm ej)]; simp
        rw [e2] at e
        rw [e]
        exact chi_ok A _
  · obtain ⟨sc2, ic2⟩ := sub c sc ci cb
    have er := hr.uniq (chi_ok A (m ^^^ c))
    rw [split c sc cb] at er
    by_cases z : c - 2 ^ v = 0
    · rw [z, Nat.xor_zero] at er
      omega
    · have := h2 _ ((seq_mem b8).mpr ⟨sc2, z⟩) ((hF _ sc2).mpr ic2)
      omega
theorem sb_le' {c m : Nat} (h : Sb c m) : c ≤ m := by
  have := beq_iff_eq.mp (sb_and.mpr h)
  rw [← this]; exact Nat.and_le_right
/-- the law's loop over submasks -/
theorem sub_loop {β : Type} {bw : Int × Int → Int → W (St (Int × Int) β)} {T : Nat → Bool} {G : Nat → Nat} {b : Nat} (hb : ∀ (c p : Nat) (k : Int), Sb p b → bw ((c : Int), (p : Int)) k = if p = 0 then W.ret (.brk ((c : Int), (p : Int))) else W.ret (.go ((((if T p = true ∧ 1 + G p < c then 1 + G p else c) : Nat) : Int), (((p - 1) &&& b : Nat) : Int)))) : ∀ (xs : List Int) (c p : Nat), Sb p b → ∃ q : Int, W.forB bw xs ((c : Int), (p : Int)) = W.ret (.go (((bestF T G c (seqM b xs.length p) : Nat) : Int), q))
  | [], c, p, _ => ⟨_, rfl⟩
  | x :: xs, c, p, hp => by
    by_cases h0 : p = 0
    · refine ⟨(p : Int), ?_⟩
      show W.bind (bw _ x) _ = _
      rw [hb c p x hp, if_pos h0]
      show W.ret _ = _
      have : seqM b (x :: xs).length p = [] := by rw [List.length_cons]; unfold seqM; rw [if_pos h0]
      rw [this]; rfl
    · obtain ⟨q, hq⟩ := sub_loop hb xs (if T p = true ∧ 1 + G p < c then 1 + G p else c) ((p - 1) &&& b) (fun j hj => by rw [Nat.testBit_and, Bool.and_eq_true] at hj; exact hj.2)
      refine ⟨q, ?_⟩
      show W.bind (bw _ x) _ = _
      rw [hb c p x hp, if_neg h0]
      have : seqM b (x :: xs).length p = p :: seqM b xs.length ((p - 1) &&& b) := if_neg h0
      rw [this]
      exact hq
theorem sub_bind {β γ : Type} {bw : Int × Int → Int → W (St (Int × Int) β)} {K : St (Int × Int) β → W γ} {Z : W γ} (T : Nat → Bool) (G : Nat → Nat) (b : Nat) {xs : List Int} {c p : Nat} (hp : Sb p b) (hb : ∀ (c p : Nat) (k : Int), Sb p b → bw ((c : Int), (p : Int)) k = if p = 0 then W.ret (.brk ((c : Int), (p : Int))) else W.ret (.go ((((if T p = true ∧ 1 + G p < c then 1 + G p else c) : Nat) : Int), (((p - 1) &&& b : Nat) : Int)))) (hK : ∀ q : Int, K (.go (((bestF T G c (seqM b xs.length p) : Nat) : Int), q)) = Z) : W.bind (W.forB bw xs ((c : Int), (p : Int))) K = Z := by
  obtain ⟨q, hq⟩ := sub_loop hb xs c p hp
  rw [hq]
  exact hK q
theorem fewest_ok {n : Nat} {ms : List Nat} (h : NrOk n ms) (hn : n ≤ 8) (joined : Bool) : f__law_fewest (nI ms) ((List.range (2 ^ n)).map fun m => clB (coA n (nrA ms)) m) = W.ret ((List.range (2 ^ n)).map fun m => ((chi (nrA ms) m : Nat) : Int)) := by
  have hl : (nI ms).length = n := by rw [nI_len, h.len]
  have p8 := pow_le8 hn
  have p0 : 0 < 2 ^ n := Nat.two_pow_pos _
  have hp : W.req (cPow 1 (n : Int) = true) ((1 : Int) * 2 ^ Int.toNat (n : Int)) = W.ret ((2 ^ n : Nat) : Int) := pwN (by omega)
  have hsz : 1000 ≤ sizeLine := by decide
  unfold f__law_fewest
  simp only [W.ret_bind, W.bind_bind, W.req_T, List.length_cons, List.length_nil, Nat.reduceAdd, Nat.reduceLeDiff, W.opt_some, W.no_ret, W.no_bind, W.no_opt, W.no_req, W.no_no, W.ite_ret, W.cont_go, W.cont_ret, W.cont_brk, if_true, if_false, Bool.false_eq_true, Bool.not_true, Bool.not_false, pyI_int, pyB_bl, py2_tup, gsz, kind_non, kind_bl, kind_int, kind_str, kind_tup, kind_lst, is_tt, is_tc, is_ct, cc_G, Bool.or_false, Bool.or_true, Bool.and_true, Bool.and_false, Bool.true_and, Bool.false_and, Bool.true_or, Bool.false_or, tg_non_non, tg_non_bl, tg_non_int, tg_non_str, tg_non_tup, tg_non_lst, tg_bl_non, tg_bl_bl, tg_bl_int, tg_bl_str, tg_bl_tup, tg_bl_lst, tg_int_non, tg_int_bl, tg_int_int, tg_int_str, tg_int_tup, tg_int_lst, tg_str_non, tg_str_bl, tg_str_int, tg_str_str, tg_str_tup, tg_str_lst, tg_tup_non, tg_tup_bl, tg_tup_int, tg_tup_str, tg_tup_tup, tg_tup_lst, tg_lst_non, tg_lst_bl, tg_lst_int, tg_lst_str, tg_lst_tup, tg_lst_lst, hl, hp]
  rw [W.req_true (show -2 ^ 63 ≤ ((2 ^ n : Nat) : Int) ∧ ((2 ^ n : Nat) : Int) < 2 ^ 63 ∧ 1 * Int.toNat ((2 ^ n : Nat) : Int) ≤ sizeLine by rw [Int.toNat_natCast]; omega), W.rng2_ok (by omega), W.ret_bind, W.ret_bind, rep_flat, Int.toNat_natCast]
  let S : Nat → List Int := fun i => (List.range (2 ^ n)).map fun m => if m ≤ i then ((chi (nrA ms) m : Nat) : Int) else 0
  have e0 : List.replicate (2 ^ n) (0 : Int) = S 0 := by
    refine List.ext_getElem (by rw [List.length_replicate, List.length_map, List.length_range]) fun i h1 h2 => ?_
    rw [List.getElem_replicate, List.getElem_map, List.getElem_range]
    by_cases hi : i ≤ 0
    · rw [if_pos hi, show i = 0 by omega, (chi_ok (nrA ms) 0).uniq (chi_zero _)]
      rfl
    · rw [if_neg hi]
  rw [e0]
  refine Eq.trans (congrArg (fun z => W.bind z _) (W.forS_at S fun i x hx => ?_)) ?_
  · obtain ⟨rfl, hlt⟩ := rng_get hx
    have hm : i + 1 < 256 := by omega
    obtain ⟨v, hv, hb, hr, hv1⟩ := low_bit hm (by omega)
    have ei : (1 : Int) + (i : Int) = ((i + 1 : Nat) : Int) := by omega
    have hvn : v < n := bit_lt (k := n) (show i + 1 < 2 ^ n by omega) hb
    have hle := bit_le hb
    have hpos : 0 < 2 ^ v := Nat.two_pow_pos _
    have hRn := nr_lt h v
    rw [ei, hv1, hr, nI_at (show v < ms.length by rw [h.len]; exact hvn), W.ret_bind, b_less]
    generalize hB : (i + 1 - 2 ^ v) - ((i + 1 - 2 ^ v) &&& ms.getD v 0) = B
    have hBl : B ≤ i + 1 - 2 ^ v := by rw [← hB]; exact Nat.sub_le _ _
    have at1 : ∀ k : Nat, k ≤ i → W.opt (atI (S i) (k : Int)) = W.ret ((chi (nrA ms) k : Nat) : Int) := fun k hk => W.idxN (by
      show ((List.range (2 ^ n)).map _)[_]? = _
      rw [List.getElem?_map, List.getElem?_range (by omega)]
      show some (if k ≤ i then _ else _) = _
      rw [if_pos hk])
    have at2 : ∀ k : Nat, k < 2 ^ n → W.opt (atI ((List.range (2 ^ n)).map fun m => clB (coA n (nrA ms)) m) (k : Int)) = W.ret (clB (coA n (nrA ms)) k) := fun k hk => W.idxN (by
      rw [List.getElem?_map, List.getElem?_range hk]; rfl)
    have bits : ∀ j, B.testBit j = ((i + 1 - 2 ^ v).testBit j && !nrA ms v j) := fun j => by
      rw [← hB, less_bit (by omega) (by omega)]
      rfl
    rw [at1 _ (by omega), W.ret_bind, W.rng1_nat (by omega), W.ret_bind]
    rw [show (1 : Int) + ((chi (nrA ms) (i + 1 - 2 ^ v) : Nat) : Int) = ((1 + chi (nrA ms) (i + 1 - 2 ^ v) : Nat) : Int) by omega]
    have sB : Sb B (i + 1 - 2 ^ v) := fun j hj => by
      rw [bits, Bool.and_eq_true] at hj
      exact hj.1
    refine sub_bind (clB (coA n (nrA ms))) (fun p => chi (nrA ms) ((i + 1 - 2 ^ v) ^^^ p)) B (fun _ hj => hj) (fun c p k hp => ?_) fun q => ?_
    · have pl : p ≤ B := sb_le' hp
      by_cases z : p = 0
      · rw [if_pos z, if_pos (decide_eq_true (by show ((p : Nat) : Int) = 0; omega))]
      · have hx : (i + 1 - 2 ^ v) ^^^ p ≤ i := by
          have : Sb ((i + 1 - 2 ^ v) ^^^ p) (i + 1 - 2 ^ v) := fun j hj => by
            rw [Nat.testBit_xor] at hj
            cases hr : (i + 1 - 2 ^ v).testBit j with
            | true => rfl
            | false =>
              cases hq : p.testBit j with
              | true => have := sB j (hp j hq); rw [hr] at this; cases this
              | false => rw [hr, hq] at hj; cases hj
          have := sb_le' this
          omega
        rw [if_neg z, if_neg (by rw [decide_eq_true_eq]; show ¬ ((p : Nat) : Int) = 0; omega), at2 p (by omega), W.ret_bind]
        dsimp only
        rw [b_xor (by omega) (by omega), at1 _ hx, W.ret_bind, W.ret_bind, show ((p : Nat) : Int) - 1 = ((p - 1 : Nat) : Int) by omega, b_and]
        by_cases hT : clB (coA n (nrA ms)) p = true
        · rw [if_pos hT, W.ret_bind]
          by_cases hc : 1 + chi (nrA ms) ((i + 1 - 2 ^ v) ^^^ p) < c
          · rw [if_pos (decide_eq_true (by omega)), if_pos ⟨hT, hc⟩, W.ret_bind]
            refine congrArg (fun z => W.ret (St.go (z, _))) ?_
            omega
          · rw [if_neg (by rw [decide_eq_true_eq]; omega), if_neg fun z => hc z.2, W.ret_bind]
        · rw [if_neg hT, W.ret_bind, if_neg Bool.false_ne_true, if_neg fun z => hT z.1, W.ret_bind]
    · obtain ⟨t1, _⟩ := seq_turns hn (b := B) (by omega)
      have low := chi_low (A := nrA ms) (nrA_sy h) hm hb bits (F := clB (coA n (nrA ms))) fun p sp => by
        have p8 : p < 256 := by have := sb_le' sp; omega
        rw [clB_iff p8, in_co (n := n) (by have := sb_le' sp; omega)]
      rw [rng_len, show (((2 ^ n : Nat) : Int) - 0).toNat = 2 ^ n by omega, t1, ← low]
      show W.bind (W.setI (S i) ((i + 1 : Nat) : Int) ((chi (nrA ms) (i + 1) : Nat) : Int)) _ = _
      rw [W.setN (by show i + 1 < ((List.range (2 ^ n)).map _).length; rw [List.length_map, List.length_range]; omega), W.ret_bind]
      show W.ret (((List.range (2 ^ n)).map _).set _ _) = W.ret ((List.range (2 ^ n)).map _)
      rw [set_range]
      refine congrArg W.ret (List.map_congr_left fun m _ => ?_)
      by_cases e : m = i + 1
      · rw [if_pos e, e, if_pos (Nat.le_refl _)]
      · rw [if_neg e]
        by_cases hle2 : m ≤ i
        · rw [if_pos hle2, if_pos (by omega)]
        · rw [if_neg hle2, if_neg (by omega)]
  · rw [rng_len, W.ret_bind]
    refine congrArg W.ret (List.map_congr_left fun m hm => ?_)
    have := List.mem_range.mp hm
    exact if_pos (by omega)
theorem W.forB_go2 {α β σ : Type} {b : σ → α → W (St σ β)} (S : Nat → σ) : ∀ {xs : List α}, (∀ (i : Nat) (x : α), xs[i]? = some x → b (S i) x = W.ret (.go (S (i + 1)))) → W.forB b xs (S 0) = W.ret (.go (S xs.length)) := fun {xs} h => by
  induction xs generalizing S with
  | nil => rfl
  | cons x xs ih =>
    show W.bind (b (S 0) x) _ = _
    rw [h 0 x rfl]
    exact ih (fun i => S (i + 1)) fun i y hy => h (i + 1) y (by simpa using hy)
end Ev
namespace Ev
open PySem PySem.Spec PyProof.Rows L2
theorem fits_ok {n : Nat} {ms : List Nat} (h : NrOk n ms) (hn : n ≤ 8) {xs : List Int} (hl : xs.length = n) (pr : ∀ v w x y, v < n → w < n → xs[v]? = some x → xs[w]? = some y → nrA ms v w = true → x ≠ y) : f__law_fits (nI ms) (eT eI (nfL xs)) ((kys xs).length : Int) = W.ret true := by
  have bl : bLen [eT eI (nfL xs)] = some (.int (n : Int)) := by
    show some (PV.int (((nfL xs).map eI).length : Int)) = _
    rw [List.length_map, nf_len, hl]
  have at1 : ∀ (i : Nat) (x : Int), xs[i]? = some x → pIdx (eT eI (nfL xs)) (.int (i : Int)) = some (.int (idx (kys xs) x)) := fun i x hx => gd_at (.inl rfl) (atI_some (by omega) (by rw [Int.toNat_natCast, List.getElem?_map, nf_at hx]; rfl))
  unfold f__law_fits
  simp only [W.ret_bind, W.bind_bind, W.req_T, List.length_cons, List.length_nil, Nat.reduceAdd, Nat.reduceLeDiff, W.opt_some, W.no_ret, W.no_bind, W.no_opt, W.no_req, W.no_no, W.ite_ret, W.cont_go, W.cont_ret, W.cont_brk, if_true, if_false, Bool.false_eq_true, Bool.not_true, Bool.not_false, pyI_int, pyB_bl, py2_tup, gsz, kind_non, kind_bl, kind_int, kind_str, kind_tup, kind_lst, is_tt, is_tc, is_ct, cc_G, Bool.or_false, Bool.or_true, Bool.and_true, Bool.and_false, Bool.true_and, Bool.false_and, Bool.true_or, Bool.false_or, tg_non_non, tg_non_bl, tg_non_int, tg_non_str, tg_non_tup, tg_non_lst, tg_bl_non, tg_bl_bl, tg_bl_int, tg_bl_str, tg_bl_tup, tg_bl_lst, tg_int_non, tg_int_bl, tg_int_int, tg_int_str, tg_int_tup, tg_int_lst, tg_str_non, tg_str_bl, tg_str_int, tg_str_str, tg_str_tup, tg_str_lst, tg_tup_non, tg_tup_bl, tg_tup_int, tg_tup_str, tg_tup_tup, tg_tup_lst, tg_lst_non, tg_lst_bl, tg_lst_int, tg_lst_str, tg_lst_tup, tg_lst_lst, show kindOf CS (eT eI (nfL xs)) = some (.t .tup) from rfl, show Tg.is .tup .tup = true from rfl, W.ex_int bl, nI_len, h.len, W.rng1_nat (show n ≤ 1000000 by omega)]
  rw [if_neg (by simp)]
  refine Eq.trans (congrArg (fun z => W.bind z _) (W.forB_go2 (fun i => ((kys (xs.take i)).length : Int)) fun i v hv => ?_)) ?_
  · obtain ⟨rfl, hlt⟩ := rng_get hv
    have hi : i < n := by omega
    have hx : xs[i]? = some (xs[i]'(by omega)) := List.getElem?_eq_getElem (by omega)
    generalize xs[i]'(by omega) = x at hx
    obtain ⟨c0, c1, c2⟩ := nf_step hx
    generalize hc : idx (kys xs) x = c at c0 c1 c2
    have eq1 : ∀ a b : Int, pEqB (eA (.int a)) (eI b) = some (decide (a = b)) := fun a b => (dat_I).eq (by decide) a b
    rw [Int.zero_add, at1 i x hx, hc, W.opt_some, W.ret_bind, show kindOf CS (.int c) = some (.t .int) from rfl]
    simp only [W.ret_bind, W.bind_bind, W.req_T, List.length_cons, List.length_nil, Nat.reduceAdd, Nat.reduceLeDiff, W.opt_some, W.no_ret, W.no_bind, W.no_opt, W.no_req, W.no_no, W.ite_ret, W.cont_go, W.cont_ret, W.cont_brk, if_true, if_false, Bool.false_eq_true, Bool.not_true, Bool.not_false, pyI_int, pyB_bl, py2_tup, gsz, kind_non, kind_bl, kind_int, kind_str, kind_tup, kind_lst, is_tt, is_tc, is_ct, cc_G, Bool.or_false, Bool.or_true, Bool.and_true, Bool.and_false, Bool.true_and, Bool.false_and, Bool.true_or, Bool.false_or, tg_non_non, tg_non_bl, tg_non_int, tg_non_str, tg_non_tup, tg_non_lst, tg_bl_non, tg_bl_bl, tg_bl_int, tg_bl_str, tg_bl_tup, tg_bl_lst, tg_int_non, tg_int_bl, tg_int_int, tg_int_str, tg_int_tup, tg_int_lst, tg_str_non, tg_str_bl, tg_str_int, tg_str_str, tg_str_tup, tg_str_lst, tg_tup_non, tg_tup_bl, tg_tup_int, tg_tup_str, tg_tup_tup, tg_tup_lst, tg_lst_non, tg_lst_bl, tg_lst_int, tg_lst_str, tg_lst_tup, tg_lst_lst, show PT1.is (.t .int) (.t .int) = true from rfl, show PT1.is (.t .int) (.t .bl) = false from rfl, show pyI (.int c) = some c from rfl, eq1, W.rng1_nat (show i ≤ 1000000 by omega), decide_eq_false (show ¬ c < 0 by omega), decide_eq_false (show ¬ ((kys (xs.take i)).length : Int) < c by omega)]
    rw [W.forB_find (β := Bool) (fun _ => none) (fun w hw => ?_), List.findSome?_eq_none_iff.mpr fun _ _ => rfl]
    · show W.ret (St.go _) = _
      refine congrArg (fun z => W.ret (St.go z)) ?_
      by_cases e : c = (kys (xs.take i)).length
      · rw [if_pos e] at c2
        rw [if_pos (decide_eq_true e), c2]; omega
      · rw [if_neg e] at c2
        rw [if_neg (by rw [decide_eq_true_eq]; exact e), c2]
    · obtain ⟨w0, w1⟩ := rng_mem.mp hw
      obtain ⟨j, rfl⟩ : ∃ j : Nat, w = j := ⟨w.toNat, by omega⟩
      have hy : xs[j]? = some (xs[j]'(by omega)) := List.getElem?_eq_getElem (by omega)
      generalize xs[j]'(by omega) = y at hy
      have eq2 : ∀ a b : Int, pEqB (eA (.int a)) (eA (.int b)) = some (decide (a = b)) := eq1
      rw [nI_at (by rw [h.len]; exact hi), W.ret_bind, W.req_true (show (0 : Int) ≤ (j : Int) by omega), W.ret_bind, Int.toNat_natCast, b_m1, at1 j y hy, W.opt_some, W.ret_bind, eq2, W.opt_some]
      cases hb : (ms.getD i 0).testBit j with
      | false => rfl
      | true =>
        have ne := pr i j x y hi (by omega) hx hy hb
        have : ¬ idx (kys xs) y = c := fun z => ne (nf_inj (List.mem_of_getElem? hx) (List.mem_of_getElem? hy) (by rw [hc, z]))
        rw [if_pos rfl, if_pos (decide_eq_true rfl), decide_eq_false this]
        rfl
  · rw [rng_len, show ((n : Int) - 0).toNat = xs.length by omega, List.take_length, W.ret_bind]
    show W.ret (decide _) = _
    rw [decide_eq_true rfl]
theorem number_ok {g : Gr} (h : GoodE g.n g.qs) (hn : 1 ≤ g.n ∧ g.n ≤ 8) (b : Bool) : f__law_number g b = W.ret (eP2 eS eI (("answer" : Str), ((chi (ad g) (2 ^ g.n - 1) : Nat) : Int))) := by
  unfold f__law_number
  simp only [W.ret_bind, W.bind_bind, W.req_T, List.length_cons, List.length_nil, Nat.reduceAdd, Nat.reduceLeDiff, W.opt_some, W.no_ret, W.no_bind, W.no_opt, W.no_req, W.no_no, W.ite_ret, W.cont_go, W.cont_ret, W.cont_brk, if_true, if_false, Bool.false_eq_true, Bool.not_true, Bool.not_false, pyI_int, pyB_bl, py2_tup, gsz, kind_non, kind_bl, kind_int, kind_str, kind_tup, kind_lst, is_tt, is_tc, is_ct, cc_G, Bool.or_false, Bool.or_true, Bool.and_true, Bool.and_false, Bool.true_and, Bool.false_and, Bool.true_or, Bool.false_or, tg_non_non, tg_non_bl, tg_non_int, tg_non_str, tg_non_tup, tg_non_lst, tg_bl_non, tg_bl_bl, tg_bl_int, tg_bl_str, tg_bl_tup, tg_bl_lst, tg_int_non, tg_int_bl, tg_int_int, tg_int_str, tg_int_tup, tg_int_lst, tg_str_non, tg_str_bl, tg_str_int, tg_str_str, tg_str_tup, tg_str_lst, tg_tup_non, tg_tup_bl, tg_tup_int, tg_tup_str, tg_tup_tup, tg_tup_lst, tg_lst_non, tg_lst_bl, tg_lst_int, tg_lst_str, tg_lst_tup, tg_lst_lst, chromatic_number_ok h hn, if_same, W.try_ret]
theorem number_big {g : Gr} (hn : 8 < g.n) (b : Bool) : f__law_number g b = W.ret tooP := by
  unfold f__law_number
  simp only [W.ret_bind, W.bind_bind, W.req_T, List.length_cons, List.length_nil, Nat.reduceAdd, Nat.reduceLeDiff, W.opt_some, W.no_ret, W.no_bind, W.no_opt, W.no_req, W.no_no, W.ite_ret, W.cont_go, W.cont_ret, W.cont_brk, if_true, if_false, Bool.false_eq_true, Bool.not_true, Bool.not_false, pyI_int, pyB_bl, py2_tup, gsz, kind_non, kind_bl, kind_int, kind_str, kind_tup, kind_lst, is_tt, is_tc, is_ct, cc_G, Bool.or_false, Bool.or_true, Bool.and_true, Bool.and_false, Bool.true_and, Bool.false_and, Bool.true_or, Bool.false_or, tg_non_non, tg_non_bl, tg_non_int, tg_non_str, tg_non_tup, tg_non_lst, tg_bl_non, tg_bl_bl, tg_bl_int, tg_bl_str, tg_bl_tup, tg_bl_lst, tg_int_non, tg_int_bl, tg_int_int, tg_int_str, tg_int_tup, tg_int_lst, tg_str_non, tg_str_bl, tg_str_int, tg_str_str, tg_str_tup, tg_str_lst, tg_tup_non, tg_tup_bl, tg_tup_int, tg_tup_str, tg_tup_tup, tg_tup_lst, tg_lst_non, tg_lst_bl, tg_lst_int, tg_lst_str, tg_lst_tup, tg_lst_lst, chromatic_number_big hn, W.err_bind, if_same]
  rw [W.try_err (by decide), tell_too (β := Unit) (by decide)]
theorem coloring_ok {g : Gr} {xs : List Int} (h : f_optimal_coloring g = W.ret xs) (b : Bool) : f__law_coloring g b = W.ret (eP2 eS (eT eI) (("answer" : Str), xs)) := by
  unfold f__law_coloring
  simp only [W.ret_bind, W.bind_bind, W.req_T, List.length_cons, List.length_nil, Nat.reduceAdd, Nat.reduceLeDiff, W.opt_some, W.no_ret, W.no_bind, W.no_opt, W.no_req, W.no_no, W.ite_ret, W.cont_go, W.cont_ret, W.cont_brk, if_true, if_false, Bool.false_eq_true, Bool.not_true, Bool.not_false, pyI_int, pyB_bl, py2_tup, gsz, kind_non, kind_bl, kind_int, kind_str, kind_tup, kind_lst, is_tt, is_tc, is_ct, cc_G, Bool.or_false, Bool.or_true, Bool.and_true, Bool.and_false, Bool.true_and, Bool.false_and, Bool.true_or, Bool.false_or, tg_non_non, tg_non_bl, tg_non_int, tg_non_str, tg_non_tup, tg_non_lst, tg_bl_non, tg_bl_bl, tg_bl_int, tg_bl_str, tg_bl_tup, tg_bl_lst, tg_int_non, tg_int_bl, tg_int_int, tg_int_str, tg_int_tup, tg_int_lst, tg_str_non, tg_str_bl, tg_str_int, tg_str_str, tg_str_tup, tg_str_lst, tg_tup_non, tg_tup_bl, tg_tup_int, tg_tup_str, tg_tup_tup, tg_tup_lst, tg_lst_non, tg_lst_bl, tg_lst_int, tg_lst_str, tg_lst_tup, tg_lst_lst, h, if_same, W.try_ret]
theorem coloring_big {g : Gr} (hn : 8 < g.n) (b : Bool) : f__law_coloring g b = W.ret tooP := by
  unfold f__law_coloring
  simp only [W.ret_bind, W.bind_bind, W.req_T, List.length_cons, List.length_nil, Nat.reduceAdd, Nat.reduceLeDiff, W.opt_some, W.no_ret, W.no_bind, W.no_opt, W.no_req, W.no_no, W.ite_ret, W.cont_go, W.cont_ret, W.cont_brk, if_true, if_false, Bool.false_eq_true, Bool.not_true, Bool.not_false, pyI_int, pyB_bl, py2_tup, gsz, kind_non, kind_bl, kind_int, kind_str, kind_tup, kind_lst, is_tt, is_tc, is_ct, cc_G, Bool.or_false, Bool.or_true, Bool.and_true, Bool.and_false, Bool.true_and, Bool.false_and, Bool.true_or, Bool.false_or, tg_non_non, tg_non_bl, tg_non_int, tg_non_str, tg_non_tup, tg_non_lst, tg_bl_non, tg_bl_bl, tg_bl_int, tg_bl_str, tg_bl_tup, tg_bl_lst, tg_int_non, tg_int_bl, tg_int_int, tg_int_str, tg_int_tup, tg_int_lst, tg_str_non, tg_str_bl, tg_str_int, tg_str_str, tg_str_tup, tg_str_lst, tg_tup_non, tg_tup_bl, tg_tup_int, tg_tup_str, tg_tup_tup, tg_tup_lst, tg_lst_non, tg_lst_bl, tg_lst_int, tg_lst_str, tg_lst_tup, tg_lst_lst, optimal_big hn, W.err_bind, if_same]
  rw [W.try_err (by decide), tell_too (β := Unit) (by decide)]
theorem right_ok {n : Nat} {ms : List Nat} (h : NrOk n ms) (n1 : 1 ≤ n) (n24 : n ≤ 24) (b : Bool) : f__law_right (nI ms) ⟨n, edM n ms⟩ b = W.ret true := by
  unfold f__law_right
  by_cases hn : 8 < n
  · simp only [W.ret_bind, W.bind_bind, W.req_T, List.length_cons, List.length_nil, Nat.reduceAdd, Nat.reduceLeDiff, W.opt_some, W.no_ret, W.no_bind, W.no_opt, W.no_req, W.no_no, W.ite_ret, W.cont_go, W.cont_ret, W.cont_brk, if_true, if_false, Bool.false_eq_true, Bool.not_true, Bool.not_false, pyI_int, pyB_bl, py2_tup, gsz, kind_non, kind_bl, kind_int, kind_str, kind_tup, kind_lst, is_tt, is_tc, is_ct, cc_G, Bool.or_false, Bool.or_true, Bool.and_true, Bool.and_false, Bool.true_and, Bool.false_and, Bool.true_or, Bool.false_or, tg_non_non, tg_non_bl, tg_non_int, tg_non_str, tg_non_tup, tg_non_lst, tg_bl_non, tg_bl_bl, tg_bl_int, tg_bl_str, tg_bl_tup, tg_bl_lst, tg_int_non, tg_int_bl, tg_int_int, tg_int_str, tg_int_tup, tg_int_lst, tg_str_non, tg_str_bl, tg_str_int, tg_str_str, tg_str_tup, tg_str_lst, tg_tup_non, tg_tup_bl, tg_tup_int, tg_tup_str, tg_tup_tup, tg_tup_lst, tg_lst_non, tg_lst_bl, tg_lst_int, tg_lst_str, tg_lst_tup, tg_lst_lst, number_big (g := ⟨n, edM n ms⟩) hn, coloring_big (g := ⟨n, edM n ms⟩) hn, nI_len, h.len, decide_eq_true (show (8 : Int) < (n : Int) by omega), tooP_eq, al_too]
  · have hn8 : 1 ≤ n ∧ n ≤ 8 := ⟨n1, by omega⟩
    have p0 : 0 < 2 ^ n := Nat.two_pow_pos _
    have hA : ad ⟨n, edM n ms⟩ = nrA ms := ad_M h
    have num := number_ok (g := ⟨n, edM n ms⟩) (edM_good n ms) hn8
    obtain ⟨cs, H, op⟩ := optimal_ok (g := ⟨n, edM n ms⟩) (edM_good n ms) hn8
    have col := coloring_ok op
    rw [hA] at num H
    dsimp only at num H op col
    generalize hxs : (rowM n (2 ^ n - 1)).map (fun v => ((colO cs v.toNat : Nat) : Int)) = xs at op col
    have er : rowM n (2 ^ n - 1) = rng 0 (n : Int) := by
      unfold rowM
      rw [rng_zero, List.filter_eq_self.mpr fun i hi => by rw [Nat.testBit_two_pow_sub_one]; exact decide_eq_true (List.mem_range.mp hi)]
    have xl : xs.length = n := by rw [← hxs, er, List.length_map, rng_len]; omega
    have kl : (kys xs).length = chi (nrA ms) (2 ^ n - 1) := by
      rw [← hxs, kys_col (show 2 ^ n - 1 < 2 ^ n by omega) H, H.len]
    have xat : ∀ v x, xs[v]? = some x → x = ((colO cs v : Nat) : Int) ∧ v < n := fun v x hx => by
      rw [← hxs, er, List.getElem?_map] at hx
      obtain ⟨y, hy, rfl⟩ := Option.map_eq_some_iff.mp hx
      obtain ⟨rfl, hlt⟩ := rng_get hy
      rw [Int.zero_add, Int.toNat_natCast]
      exact ⟨rfl, by omega⟩
    have fb : ∀ v, v < n → (2 ^ n - 1).testBit v = true := fun v hv => by rw [Nat.testBit_two_pow_sub_one]; exact decide_eq_true hv
    have fit := fits_ok h hn8.2 xl fun v w x y hv hw hx hy ha => by
      rw [(xat v x hx).1, (xat w y hy).1]
      have := col_prop H (fb v hv) (fb w hw) (h.bd v w ha).2.2 ha
      omega
    rw [kl] at fit
    have few := fewest_ok h hn8.2 false
    have free := free_ok h hn8.2 false
    have hw : whA n false ms = coA n (nrA ms) := rfl
    rw [hw] at free
    have lst : W.opt (atI ((List.range (2 ^ n)).map fun m => ((chi (nrA ms) m : Nat) : Int)) (-1)) = W.ret ((chi (nrA ms) (2 ^ n - 1) : Nat) : Int) := by
      rw [at_last (v := ((chi (nrA ms) (2 ^ n - 1) : Nat) : Int)) (by rw [List.getLast?_map, List.getLast?_range, if_neg (by omega)]; rfl), W.opt_some]
    have al1 : f__law_alike 12 (eP2 eS eI (("answer" : Str), ((chi (nrA ms) (2 ^ n - 1) : Nat) : Int))) (eP2 eS eI (("answer" : Str), ((chi (nrA ms) (2 ^ n - 1) : Nat) : Int))) = W.ret true := al_gd (gd_2 (.str 0 _ str_ok1) (.int 0 _)) (by decide)
    have al2 : f__law_alike 12 (eP2 eS (eT eI) (("answer" : Str), nfL xs)) (eP2 eS (eT eI) (("answer" : Str), nfL xs)) = W.ret true := al_gd (d := 2) (gd_2 (.str 1 _ str_ok1) (gd_ints 0 _ (by rw [nf_len]; omega))) (by decide)
    have k0 : pIdx (eP2 eS (eT eI) (("answer" : Str), nfL xs)) (.int 0) = some (.str "answer") := rfl
    have k1 : pIdx (eP2 eS (eT eI) (("answer" : Str), nfL xs)) (.int 1) = some (eT eI (nfL xs)) := rfl
    have ps : pEqB (eA (.str "answer")) (eS ("answer" : Str)) = some true := eqB_str str_ok1
    simp only [W.ret_bind, W.bind_bind, W.req_T, List.length_cons, List.length_nil, Nat.reduceAdd, Nat.reduceLeDiff, W.opt_some, W.no_ret, W.no_bind, W.no_opt, W.no_req, W.no_no, W.ite_ret, W.cont_go, W.cont_ret, W.cont_brk, if_true, if_false, Bool.false_eq_true, Bool.not_true, Bool.not_false, pyI_int, pyB_bl, py2_tup, gsz, kind_non, kind_bl, kind_int, kind_str, kind_tup, kind_lst, is_tt, is_tc, is_ct, cc_G, Bool.or_false, Bool.or_true, Bool.and_true, Bool.and_false, Bool.true_and, Bool.false_and, Bool.true_or, Bool.false_or, tg_non_non, tg_non_bl, tg_non_int, tg_non_str, tg_non_tup, tg_non_lst, tg_bl_non, tg_bl_bl, tg_bl_int, tg_bl_str, tg_bl_tup, tg_bl_lst, tg_int_non, tg_int_bl, tg_int_int, tg_int_str, tg_int_tup, tg_int_lst, tg_str_non, tg_str_bl, tg_str_int, tg_str_str, tg_str_tup, tg_str_lst, tg_tup_non, tg_tup_bl, tg_tup_int, tg_tup_str, tg_tup_tup, tg_tup_lst, tg_lst_non, tg_lst_bl, tg_lst_int, tg_lst_str, tg_lst_tup, tg_lst_lst, num, col, nI_len, h.len, decide_eq_false (show ¬ (8 : Int) < (n : Int) by omega), free, few, lst, al1, al2, k0, k1, ps, fit]
theorem pure14_W (ns : List Int) (hns : ns.length ≤ 63) : f__law_asked ns (fun b => b = true) fun _ => False := by
  unfold f__law_asked
  simp only [W.ret_bind, W.bind_bind, W.req_T, List.length_cons, List.length_nil, Nat.reduceAdd, Nat.reduceLeDiff, W.opt_some, W.no_ret, W.no_bind, W.no_opt, W.no_req, W.no_no, W.ite_ret, W.cont_go, W.cont_ret, W.cont_brk, if_true, if_false, Bool.false_eq_true, Bool.not_true, Bool.not_false, pyI_int, pyB_bl, py2_tup, gsz, kind_non, kind_bl, kind_int, kind_str, kind_tup, kind_lst, is_tt, is_tc, is_ct, cc_G, Bool.or_false, Bool.or_true, Bool.and_true, Bool.and_false, Bool.true_and, Bool.false_and, Bool.true_or, Bool.false_or, tg_non_non, tg_non_bl, tg_non_int, tg_non_str, tg_non_tup, tg_non_lst, tg_bl_non, tg_bl_bl, tg_bl_int, tg_bl_str, tg_bl_tup, tg_bl_lst, tg_int_non, tg_int_bl, tg_int_int, tg_int_str, tg_int_tup, tg_int_lst, tg_str_non, tg_str_bl, tg_str_int, tg_str_str, tg_str_tup, tg_str_lst, tg_tup_non, tg_tup_bl, tg_tup_int, tg_tup_str, tg_tup_tup, tg_tup_lst, tg_lst_non, tg_lst_bl, tg_lst_int, tg_lst_str, tg_lst_tup, tg_lst_lst, f__law_draw]
  refine ⟨hns, W.bind_to (size_ok fun n n1 n24 => W.bind_to (near_ok n24 fun ms nr => W.draw_bind (by decide) (by decide) fun r r0 r1 => ?_))⟩
  obtain ⟨n', hn', n1', n5'⟩ : ∃ x : Nat, 1 + r = (x : Int) ∧ 1 ≤ x ∧ x ≤ 24 := ⟨(1 + r).toNat, by omega, by omega, by omega⟩
  rw [hn']
  refine W.bind_to (near_ok n5' fun ms' nr' => ?_)
  simp only [W.ret_bind, W.bind_bind, W.req_T, List.length_cons, List.length_nil, Nat.reduceAdd, Nat.reduceLeDiff, W.opt_some, W.no_ret, W.no_bind, W.no_opt, W.no_req, W.no_no, W.ite_ret, W.cont_go, W.cont_ret, W.cont_brk, if_true, if_false, Bool.false_eq_true, Bool.not_true, Bool.not_false, pyI_int, pyB_bl, py2_tup, gsz, kind_non, kind_bl, kind_int, kind_str, kind_tup, kind_lst, is_tt, is_tc, is_ct, cc_G, Bool.or_false, Bool.or_true, Bool.and_true, Bool.and_false, Bool.true_and, Bool.false_and, Bool.true_or, Bool.false_or, tg_non_non, tg_non_bl, tg_non_int, tg_non_str, tg_non_tup, tg_non_lst, tg_bl_non, tg_bl_bl, tg_bl_int, tg_bl_str, tg_bl_tup, tg_bl_lst, tg_int_non, tg_int_bl, tg_int_int, tg_int_str, tg_int_tup, tg_int_lst, tg_str_non, tg_str_bl, tg_str_int, tg_str_str, tg_str_tup, tg_str_lst, tg_tup_non, tg_tup_bl, tg_tup_int, tg_tup_str, tg_tup_tup, tg_tup_lst, tg_lst_non, tg_lst_bl, tg_lst_int, tg_lst_str, tg_lst_tup, tg_lst_lst, edges_ok nr n24, edges_ok nr' n5', nI_len, nr.len, nr'.len, gr_M n1 n24 ms, gr_M n1' n5' ms', right_ok nr n1 n24, right_ok nr' n1' n5', if_same]
  refine W.draw_bind (by decide) (by decide) fun f f0 f1 => ?_
  rw [show gr_edges ⟨n, edM n ms⟩ = edM n ms from rfl, al_gr n24 ms]
  rfl
end Ev
namespace Ev
open PySem PySem.Spec PyProof.Rows L2
theorem pure14 : ∀ ns : List Int, ns.length ≤ 63 → callP F__law_asked [.scr (ns.map .int)] = some (.bl true) := pure_of t__law_asked pure14_W
end Ev
namespace Ev
open PySem PySem.Spec PyProof.Rows L2
section
variable {P : Program} {w : World} {K : PySem.W.Frag} {mg : Str → Option Value} {base : Heap}
theorem ok_init_InvalidNumber {f : Addr} {fd : FuncData} (F : Fun K "__init__" "InvalidNumber.__init__" s_InvalidNumber___init__ f fd) : FnOk P w K mg base CX0 1 f fd ["self", "value"] (spOne K "value") := by
  refine F.ok scs_InvalidNumber___init__ (fun vs H Q E h => ?_) (fun cdv A outer s H vs Q E hr h => ?_)
  · obtain ⟨a, C, v, rfl, _⟩ := h
    rfl
  · obtain ⟨a, C, v, rfl, h1, T, hno, q⟩ := h
    exact ⟨_, pss_one (ps_ost (pv 0) (pv 1)), _, rfl, _, rfl, a, C, rfl, T, hno, .inl ⟨h1, fun dx n ne => q dx n ne⟩⟩
theorem ok_init_TooLarge {f : Addr} {fd : FuncData} (F : Fun K "__init__" "TooLarge.__init__" s_TooLarge___init__ f fd) : FnOk P w K mg base CX0 1 f fd ["self", "what"] (spOne K "what") := by
  refine F.ok scs_TooLarge___init__ (fun vs H Q E h => ?_) (fun cdv A outer s H vs Q E hr h => ?_)
  · obtain ⟨a, C, v, rfl, _⟩ := h
    rfl
  · obtain ⟨a, C, v, rfl, h1, T, hno, q⟩ := h
    exact ⟨_, pss_one (ps_ost (pv 0) (pv 1)), _, rfl, _, rfl, a, C, rfl, T, hno, .inl ⟨h1, fun dx n ne => q dx n ne⟩⟩
theorem ok_init_InvalidColoring {f : Addr} {fd : FuncData} (F : Fun K "__init__" "InvalidColoring.__init__" s_InvalidColoring___init__ f fd) : FnOk P w K mg base CX0 1 f fd ["self", "value"] (spOne K "value") := by
  refine F.ok scs_InvalidColoring___init__ (fun vs H Q E h => ?_) (fun cdv A outer s H vs Q E hr h => ?_)
  · obtain ⟨a, C, v, rfl, _⟩ := h
    rfl
  · obtain ⟨a, C, v, rfl, h1, T, hno, q⟩ := h
    exact ⟨_, pss_one (ps_ost (pv 0) (pv 1)), _, rfl, _, rfl, a, C, rfl, T, hno, .inl ⟨h1, fun dx n ne => q dx n ne⟩⟩
theorem ok_init_InvalidGraph {f : Addr} {fd : FuncData} (F : Fun K "__init__" "InvalidGraph.__init__" s_InvalidGraph___init__ f fd) : FnOk P w K mg base CX0 1 f fd ["self", "part", "place"] (spTwo K "part" "place") := by
  refine F.ok scs_InvalidGraph___init__ (fun vs H Q E h => ?_) (fun cdv A outer s H vs Q E hr h => ?_)
  · obtain ⟨a, C, v1, v2, rfl, _⟩ := h
    rfl
  · obtain ⟨a, C, v1, v2, rfl, h1, T, hno, hno2, q⟩ := h
    exact ⟨_, pss_cons (ps_ost (pv 0) (pv 1)) (pss_one (ps_ost (pv 0) (pv 2))), _, rfl, _, rfl, a, C, rfl, T, hno, .inl ⟨h1, fun dx n ne => ⟨_, rfl, _, rfl, a, C, rfl, T, hno2, .inr ⟨dx, _, upd_same, by rw [upd_ne ne]; exact upd_same, (by show 1 ≤ 900; decide), q dx n ne⟩⟩⟩⟩
def spAsked (K : PySem.W.Frag) : Sp := fun vs H Q _ => ∃ (a : Addr) (ns : List Int), vs = [.ref a] ∧ SqL K H a (ns.map V.int) ∧ ns.length ≤ 63 ∧ ∀ H', Q (.bl true) H'
theorem ok_askedP {k : Nat} {f : Addr} {fd : FuncData} (F : FnOk P w K mg base (L2.CX P w) k f fd ["script"] (spG K 1 F__law_asked)) (pure : ∀ ns : List Int, ns.length ≤ 63 → callP F__law_asked [.scr (ns.map .int)] = some (.bl true)) : FnOk P w K mg base (L2.CX P w) k f fd ["script"] (spAsked K) := F.imp (by
  rintro vs H Q E ⟨a, ns, rfl, hS, hlen, q⟩
  exact spG_frz (S := fun _ => False) (fun s z => z.elim) (reps1 (p := .scr (ns.map .int)) ⟨a, ns.map V.int, rfl, hS.imp (fun h => ⟨id, h⟩) id, reps_ints ns⟩) rfl (pure ns hlen) (fun v H' _ r => by cases r; exact q H'))
theorem ok_lawP {k : Nat} {f : Addr} {fd : FuncData} (F : Fun K "law" "law" s_law f fd) (cA : CaX P w K mg base k "_law_asked" (spAsked K)) : FnOk P w K mg base CX0 (k + 1) f fd ["script"] (spAsked K) := by
  refine F.ok scs_law (fun vs H Q E h => ?_) (fun cdv A outer s H vs Q E hr h => ?_)
  · obtain ⟨a, ns, rfl, _⟩ := h
    rfl
  · obtain ⟨a, ns, rfl, hS, hlen, q⟩ := h
    refine ⟨_, pss_one (ps_try_thru0 (pss_one (ps_ret (pe_cX (E := L2.E0) cA (by exact hr) (Nat.le_refl _) (by rfl) passL (pa_cons (pv 0) pa_nil))))), ?_⟩
    exact ⟨_, rfl, a, ns, rfl, hS, hlen, fun H' => q H'⟩
end
end Ev
namespace EvH
open PySem PySem.Spec PyProof.Rows L2 He Ev
theorem opB_ok {K : PySem.W.Frag} {C : Addr} {m : Str} (h : opB K C m = true) : PySem.W.findIn K (.ref C) m = some (some (.ref (ma K C m))) ∧ PySem.W.isFn K (.ref (ma K C m)) = true := by
  obtain ⟨h1, h2⟩ := ba h
  exact ⟨eqO_ok h1, h2⟩
theorem twoB_ok {K : PySem.W.Frag} {C : Addr} {f1 f2 : Str} (h : twoB K C f1 f2 = true) : TwoF K C (ma K C "__init__") f1 f2 := by
  obtain ⟨h1, h2⟩ := ba h
  have T := oneB_ok h1
  exact ⟨T.ox, T.no, eqO_ok h2, T.iC, T.tI, T.xf, T.ec⟩
theorem clssB_ok {K : PySem.W.Frag} {cs : List Str} (h : clssB K cs = true) : Clss K cs := by
  obtain ⟨h1, h2⟩ := ba h
  exact ⟨fun c hc => grB_ok (List.all_eq_true.mp h1 c hc), fun c hc d hd => of_decide_eq_true (List.all_eq_true.mp (List.all_eq_true.mp h2 c hc) d hd)⟩
theorem clspB_ok {K : PySem.W.Frag} {c : Str} {fs : List Str} (h : clspB K c fs = true) : ClsP K c fs := by
  obtain ⟨h1, h2⟩ := ba h
  exact ⟨(grB_ok h1).cl, fun f hf => eqO_ok (List.all_eq_true.mp h2 f hf)⟩
theorem ersB_ok {K : PySem.W.Frag} {es : List Str} {g : Str} {b : Bool} (h : ersB K es g b = true) : ErS K es g b := ⟨fun c hc => of_decide_eq_true (List.all_eq_true.mp h c hc)⟩
theorem erkB_ok {K : PySem.W.Frag} {es : List Str} (h : erkB K es = true) : ErK K es := by
  obtain ⟨h1, h2⟩ := ba h
  refine ⟨fun c hc d hd => of_decide_eq_true (List.all_eq_true.mp (List.all_eq_true.mp h1 c hc) d hd), fun c hc => ?_⟩
  obtain ⟨h3, h6⟩ := ba (List.all_eq_true.mp h2 c hc)
  have X := xfB_ok h3
  obtain ⟨g1, g⟩ := ba h6
  obtain ⟨g2, g⟩ := ba g
  obtain ⟨g3, g4⟩ := ba g
  exact ⟨X.ga, X.gg, X.exC, X.hdC, eqO_ok g1, of_decide_eq_true g2, of_decide_eq_true g3, of_decide_eq_true g4⟩
theorem xcpB_ok {K : PySem.W.Frag} {c : Str} {fl : List Str} (h : xcpB K c fl = true) : XcP K c fl := by
  obtain ⟨h1, h2⟩ := ba h
  exact ⟨xfB_ok h1, fun f hf => eqO_ok (List.all_eq_true.mp h2 f hf)⟩
theorem facts {P : Program} {w : World} {K : PySem.W.Frag} {h : Heap} {mg : Str → Option Value} (X : K.In h) (G : h.Ns mainGlobals mg) (c : SaysEv fa ex fn K) :
    ∃ fd : FuncData, (∀ (s : Shared) (v : Value), BindsTo s fd ⟨[v], []⟩ [("script", v)]) ∧ ∀ base : Heap, K.In base → base.Ns mainGlobals mg → FnOk P w K mg base CX0 15 (ga K "law") fd ["script"] (spAsked K) := by
  obtain ⟨fd__law_alike, Fn__law_alike⟩ := c.fun_ 0 (at_ := fun K => ga K "_law_alike") (x := "_law_alike") (q := "_law_alike") (st := s__law_alike) rfl
  have b__law_alike : Binds K fd__law_alike ["found", "due"] [] := Fn__law_alike.binds fun _ _ _ _ _ _ us hl => match us, hl with | [_, _], _ => rfl
  obtain ⟨fd__law_mixed, Fn__law_mixed⟩ := c.fun_ 1 (at_ := fun K => ga K "_law_mixed") (x := "_law_mixed") (q := "_law_mixed") (st := s__law_mixed) rfl
  have b__law_mixed : Binds K fd__law_mixed ["cell", "turn"] [] := Fn__law_mixed.binds fun _ _ _ _ _ _ us hl => match us, hl with | [_, _], _ => rfl
  obtain ⟨fd__law_draw, Fn__law_draw⟩ := c.fun_ 2 (at_ := fun K => ga K "_law_draw") (x := "_law_draw") (q := "_law_draw") (st := s__law_draw) rfl
  have b__law_draw : Binds K fd__law_draw ["pool", "limit"] [] := Fn__law_draw.binds fun _ _ _ _ _ _ us hl => match us, hl with | [_, _], _ => rfl
  obtain ⟨fd__law_edges, Fn__law_edges⟩ := c.fun_ 3 (at_ := fun K => ga K "_law_edges") (x := "_law_edges") (q := "_law_edges") (st := s__law_edges) rfl
  have b__law_edges : Binds K fd__law_edges ["near"] [] := Fn__law_edges.binds fun _ _ _ _ _ _ us hl => match us, hl with | [_], _ => rfl
  obtain ⟨fd__law_shuffled, Fn__law_shuffled⟩ := c.fun_ 4 (at_ := fun K => ga K "_law_shuffled") (x := "_law_shuffled") (q := "_law_shuffled") (st := s__law_shuffled) rfl
  have b__law_shuffled : Binds K fd__law_shuffled ["pool", "size"] [] := Fn__law_shuffled.binds fun _ _ _ _ _ _ us hl => match us, hl with | [_, _], _ => rfl
  obtain ⟨fd__law_near, Fn__law_near⟩ := c.fun_ 5 (at_ := fun K => ga K "_law_near") (x := "_law_near") (q := "_law_near") (st := s__law_near) rfl
  have b__law_near : Binds K fd__law_near ["pool", "size"] [] := Fn__law_near.binds fun _ _ _ _ _ _ us hl => match us, hl with | [_, _], _ => rfl
  obtain ⟨fd_is_within, Fn_is_within⟩ := c.fun_ 6 (at_ := fun K => ga K "is_within") (x := "is_within") (q := "is_within") (st := s_is_within) rfl
  have b_is_within : Binds K fd_is_within ["part", "mask"] [] := Fn_is_within.binds fun _ _ _ _ _ _ us hl => match us, hl with | [_, _], _ => rfl
  obtain ⟨fd_chromatic_numbers, Fn_chromatic_numbers⟩ := c.fun_ 7 (at_ := fun K => ga K "chromatic_numbers") (x := "chromatic_numbers") (q := "chromatic_numbers") (st := s_chromatic_numbers) rfl
  have b_chromatic_numbers : Binds K fd_chromatic_numbers ["sets"] [] := Fn_chromatic_numbers.binds fun _ _ _ _ _ _ us hl => match us, hl with | [_], _ => rfl
  obtain ⟨fd_mask_of, Fn_mask_of⟩ := c.fun_ 8 (at_ := fun K => ga K "mask_of") (x := "mask_of") (q := "mask_of") (st := s_mask_of) rfl
  have b_mask_of : Binds K fd_mask_of ["subset"] [] := Fn_mask_of.binds fun _ _ _ _ _ _ us hl => match us, hl with | [_], _ => rfl
  obtain ⟨fd_is_integer, Fn_is_integer⟩ := c.fun_ 9 (at_ := fun K => ga K "is_integer") (x := "is_integer") (q := "is_integer") (st := s_is_integer) rfl
  have b_is_integer : Binds K fd_is_integer ["value"] [] := Fn_is_integer.binds fun _ _ _ _ _ _ us hl => match us, hl with | [_], _ => rfl
  obtain ⟨fd_is_between, Fn_is_between⟩ := c.fun_ 10 (at_ := fun K => ga K "is_between") (x := "is_between") (q := "is_between") (st := s_is_between) rfl
  have b_is_between : Binds K fd_is_between ["value", "least", "greatest"] [] := Fn_is_between.binds fun _ _ _ _ _ _ us hl => match us, hl with | [_, _, _], _ => rfl
  obtain ⟨fd_Graph_neighbors, Fn_Graph_neighbors⟩ := c.fun_ 11 (at_ := fun K => ma K (ga K "Graph") "neighbors") (x := "neighbors") (q := "Graph.neighbors") (st := s_Graph_neighbors) rfl
  have b_Graph_neighbors : Binds K fd_Graph_neighbors ["self", "vertex"] [] := Fn_Graph_neighbors.binds fun _ _ _ _ _ _ us hl => match us, hl with | [_, _], _ => rfl
  obtain ⟨fd_Graph___iter__, Fn_Graph___iter__⟩ := c.fun_ 12 (at_ := fun K => ma K (ga K "Graph") "__iter__") (x := "__iter__") (q := "Graph.__iter__") (st := s_Graph___iter__) rfl
  have b_Graph___iter__ : Binds K fd_Graph___iter__ ["self"] [] := Fn_Graph___iter__.binds fun _ _ _ _ _ _ us hl => match us, hl with | [_], _ => rfl
  obtain ⟨fd_independent_masks, Fn_independent_masks⟩ := c.fun_ 13 (at_ := fun K => ga K "independent_masks") (x := "independent_masks") (q := "independent_masks") (st := s_independent_masks) rfl
  have b_independent_masks : Binds K fd_independent_masks ["graph"] [] := Fn_independent_masks.binds fun _ _ _ _ _ _ us hl => match us, hl with | [_], _ => rfl
  obtain ⟨fd_require_vertices, Fn_require_vertices⟩ := c.fun_ 14 (at_ := fun K => ga K "require_vertices") (x := "require_vertices") (q := "require_vertices") (st := s_require_vertices) rfl
  have b_require_vertices : Binds K fd_require_vertices ["count", "most"] [] := Fn_require_vertices.binds fun _ _ _ _ _ _ us hl => match us, hl with | [_, _], _ => rfl
  obtain ⟨fd_require_exhaustible, Fn_require_exhaustible⟩ := c.fun_ 15 (at_ := fun K => ga K "require_exhaustible") (x := "require_exhaustible") (q := "require_exhaustible") (st := s_require_exhaustible) rfl
  have b_require_exhaustible : Binds K fd_require_exhaustible ["graph"] [] := Fn_require_exhaustible.binds fun _ _ _ _ _ _ us hl => match us, hl with | [_], _ => rfl
  obtain ⟨fd_first_color, Fn_first_color⟩ := c.fun_ 16 (at_ := fun K => ga K "first_color") (x := "first_color") (q := "first_color") (st := s_first_color) rfl
  have b_first_color : Binds K fd_first_color ["mask", "sets", "numbers"] [] := Fn_first_color.binds fun _ _ _ _ _ _ us hl => match us, hl with | [_, _, _], _ => rfl
  obtain ⟨fd_color_masks, Fn_color_masks⟩ := c.fun_ 17 (at_ := fun K => ga K "color_masks") (x := "color_masks") (q := "color_masks") (st := s_color_masks) rfl
  have b_color_masks : Binds K fd_color_masks ["mask", "sets", "numbers"] [] := Fn_color_masks.binds fun _ _ _ _ _ _ us hl => match us, hl with | [_, _, _], _ => rfl
  obtain ⟨fd_has_vertex, Fn_has_vertex⟩ := c.fun_ 18 (at_ := fun K => ga K "has_vertex") (x := "has_vertex") (q := "has_vertex") (st := s_has_vertex) rfl
  have b_has_vertex : Binds K fd_has_vertex ["mask", "vertex"] [] := Fn_has_vertex.binds fun _ _ _ _ _ _ us hl => match us, hl with | [_, _], _ => rfl
  obtain ⟨fd_color_of, Fn_color_of⟩ := c.fun_ 19 (at_ := fun K => ga K "color_of") (x := "color_of") (q := "color_of") (st := s_color_of) rfl
  have b_color_of : Binds K fd_color_of ["vertex", "colors"] [] := Fn_color_of.binds fun _ _ _ _ _ _ us hl => match us, hl with | [_, _], _ => rfl
  obtain ⟨fd_are_colors, Fn_are_colors⟩ := c.fun_ 20 (at_ := fun K => ga K "are_colors") (x := "are_colors") (q := "are_colors") (st := s_are_colors) rfl
  have b_are_colors : Binds K fd_are_colors ["value"] [] := Fn_are_colors.binds fun _ _ _ _ _ _ us hl => match us, hl with | [_], _ => rfl
  obtain ⟨fd_normal_form, Fn_normal_form⟩ := c.fun_ 21 (at_ := fun K => ga K "normal_form") (x := "normal_form") (q := "normal_form") (st := s_normal_form) rfl
  have b_normal_form : Binds K fd_normal_form ["coloring"] [] := Fn_normal_form.binds fun _ _ _ _ _ _ us hl => match us, hl with | [_], _ => rfl
  obtain ⟨fd_subset_coloring, Fn_subset_coloring⟩ := c.fun_ 22 (at_ := fun K => ga K "subset_coloring") (x := "subset_coloring") (q := "subset_coloring") (st := s_subset_coloring) rfl
  have b_subset_coloring : Binds K fd_subset_coloring ["subset", "sets", "numbers"] [] := Fn_subset_coloring.binds fun _ _ _ _ _ _ us hl => match us, hl with | [_, _, _], _ => rfl
  obtain ⟨fd_Graph___len__, Fn_Graph___len__⟩ := c.fun_ 23 (at_ := fun K => ma K (ga K "Graph") "__len__") (x := "__len__") (q := "Graph.__len__") (st := s_Graph___len__) rfl
  have b_Graph___len__ : Binds K fd_Graph___len__ ["self"] [] := Fn_Graph___len__.binds fun _ _ _ _ _ _ us hl => match us, hl with | [_], _ => rfl
  obtain ⟨fd_optimal_coloring, Fn_optimal_coloring⟩ := c.fun_ 24 (at_ := fun K => ga K "optimal_coloring") (x := "optimal_coloring") (q := "optimal_coloring") (st := s_optimal_coloring) rfl
  have b_optimal_coloring : Binds K fd_optimal_coloring ["graph"] [] := Fn_optimal_coloring.binds fun _ _ _ _ _ _ us hl => match us, hl with | [_], _ => rfl
  obtain ⟨fd__law_coloring, Fn__law_coloring⟩ := c.fun_ 25 (at_ := fun K => ga K "_law_coloring") (x := "_law_coloring") (q := "_law_coloring") (st := s__law_coloring) rfl
  have b__law_coloring : Binds K fd__law_coloring ["graph", "named"] [] := Fn__law_coloring.binds fun _ _ _ _ _ _ us hl => match us, hl with | [_, _], _ => rfl
  obtain ⟨fd__law_fewest, Fn__law_fewest⟩ := c.fun_ 26 (at_ := fun K => ga K "_law_fewest") (x := "_law_fewest") (q := "_law_fewest") (st := s__law_fewest) rfl
  have b__law_fewest : Binds K fd__law_fewest ["near", "free"] [] := Fn__law_fewest.binds fun _ _ _ _ _ _ us hl => match us, hl with | [_, _], _ => rfl
  obtain ⟨fd__law_fits, Fn__law_fits⟩ := c.fun_ 27 (at_ := fun K => ga K "_law_fits") (x := "_law_fits") (q := "_law_fits") (st := s__law_fits) rfl
  have b__law_fits : Binds K fd__law_fits ["near", "value", "fewest"] [] := Fn__law_fits.binds fun _ _ _ _ _ _ us hl => match us, hl with | [_, _, _], _ => rfl
  obtain ⟨fd__law_free, Fn__law_free⟩ := c.fun_ 28 (at_ := fun K => ga K "_law_free") (x := "_law_free") (q := "_law_free") (st := s__law_free) rfl
  have b__law_free : Binds K fd__law_free ["near", "joined"] [] := Fn__law_free.binds fun _ _ _ _ _ _ us hl => match us, hl with | [_, _], _ => rfl
  obtain ⟨fd_chromatic_number, Fn_chromatic_number⟩ := c.fun_ 29 (at_ := fun K => ga K "chromatic_number") (x := "chromatic_number") (q := "chromatic_number") (st := s_chromatic_number) rfl
  have b_chromatic_number : Binds K fd_chromatic_number ["graph"] [] := Fn_chromatic_number.binds fun _ _ _ _ _ _ us hl => match us, hl with | [_], _ => rfl
  obtain ⟨fd__law_number, Fn__law_number⟩ := c.fun_ 30 (at_ := fun K => ga K "_law_number") (x := "_law_number") (q := "_law_number") (st := s__law_number) rfl
  have b__law_number : Binds K fd__law_number ["graph", "named"] [] := Fn__law_number.binds fun _ _ _ _ _ _ us hl => match us, hl with | [_, _], _ => rfl
  obtain ⟨fd__law_right, Fn__law_right⟩ := c.fun_ 31 (at_ := fun K => ga K "_law_right") (x := "_law_right") (q := "_law_right") (st := s__law_right) rfl
  have b__law_right : Binds K fd__law_right ["near", "graph", "named"] [] := Fn__law_right.binds fun _ _ _ _ _ _ us hl => match us, hl with | [_, _, _], _ => rfl
  obtain ⟨fd__law_size, Fn__law_size⟩ := c.fun_ 32 (at_ := fun K => ga K "_law_size") (x := "_law_size") (q := "_law_size") (st := s__law_size) rfl
  have b__law_size : Binds K fd__law_size ["pool"] [] := Fn__law_size.binds fun _ _ _ _ _ _ us hl => match us, hl with | [_], _ => rfl
  obtain ⟨fd_first_fault, Fn_first_fault⟩ := c.fun_ 33 (at_ := fun K => ga K "first_fault") (x := "first_fault") (q := "first_fault") (st := s_first_fault) rfl
  have b_first_fault : Binds K fd_first_fault ["values", "are_right"] [] := Fn_first_fault.binds fun _ _ _ _ _ _ us hl => match us, hl with | [_, _], _ => rfl
  obtain ⟨fd_is_pair, Fn_is_pair⟩ := c.fun_ 34 (at_ := fun K => ga K "is_pair") (x := "is_pair") (q := "is_pair") (st := s_is_pair) rfl
  have b_is_pair : Binds K fd_is_pair ["value"] [] := Fn_is_pair.binds fun _ _ _ _ _ _ us hl => match us, hl with | [_], _ => rfl
  obtain ⟨fd_is_ascending, Fn_is_ascending⟩ := c.fun_ 35 (at_ := fun K => ga K "is_ascending") (x := "is_ascending") (q := "is_ascending") (st := s_is_ascending) rfl
  have b_is_ascending : Binds K fd_is_ascending ["values"] [] := Fn_is_ascending.binds fun _ _ _ _ _ _ us hl => match us, hl with | [_], _ => rfl
  obtain ⟨fd_is_subset, Fn_is_subset⟩ := c.fun_ 36 (at_ := fun K => ga K "is_subset") (x := "is_subset") (q := "is_subset") (st := s_is_subset) rfl
  have b_is_subset : Binds K fd_is_subset ["value", "size"] [] := Fn_is_subset.binds fun _ _ _ _ _ _ us hl => match us, hl with | [_, _], _ => rfl
  obtain ⟨fd_is_edge, Fn_is_edge⟩ := c.fun_ 37 (at_ := fun K => ga K "is_edge") (x := "is_edge") (q := "is_edge") (st := s_is_edge) rfl
  have b_is_edge : Binds K fd_is_edge ["value", "size"] [] := Fn_is_edge.binds fun _ _ _ _ _ _ us hl => match us, hl with | [_, _], _ => rfl
  obtain ⟨fd_is_sequence, Fn_is_sequence⟩ := c.fun_ 38 (at_ := fun K => ga K "is_sequence") (x := "is_sequence") (q := "is_sequence") (st := s_is_sequence) rfl
  have b_is_sequence : Binds K fd_is_sequence ["value"] [] := Fn_is_sequence.binds fun _ _ _ _ _ _ us hl => match us, hl with | [_], _ => rfl
  obtain ⟨fd_first_wrong_edge, Fn_first_wrong_edge⟩ := c.fun_ 39 (at_ := fun K => ga K "first_wrong_edge") (x := "first_wrong_edge") (q := "first_wrong_edge") (st := s_first_wrong_edge) rfl
  have b_first_wrong_edge : Binds K fd_first_wrong_edge ["size", "edges"] [] := Fn_first_wrong_edge.binds fun _ _ _ _ _ _ us hl => match us, hl with | [_, _], _ => rfl
  obtain ⟨fd_neighbor_rows, Fn_neighbor_rows⟩ := c.fun_ 40 (at_ := fun K => ga K "neighbor_rows") (x := "neighbor_rows") (q := "neighbor_rows") (st := s_neighbor_rows) rfl
  have b_neighbor_rows : Binds K fd_neighbor_rows ["size", "edges"] [] := Fn_neighbor_rows.binds fun _ _ _ _ _ _ us hl => match us, hl with | [_, _], _ => rfl
  obtain ⟨fd_Graph___init__, Fn_Graph___init__⟩ := c.fun_ 41 (at_ := fun K => ma K (ga K "Graph") "__init__") (x := "__init__") (q := "Graph.__init__") (st := s_Graph___init__) rfl
  have b_Graph___init__ : Binds K fd_Graph___init__ ["self", "size", "edges"] [] := Fn_Graph___init__.binds fun _ _ _ _ _ _ us hl => match us, hl with | [_, _, _], _ => rfl
  obtain ⟨fd__law_asked, Fn__law_asked⟩ := c.fun_ 42 (at_ := fun K => ga K "_law_asked") (x := "_law_asked") (q := "_law_asked") (st := s__law_asked) rfl
  have b__law_asked : Binds K fd__law_asked ["script"] [] := Fn__law_asked.binds fun _ _ _ _ _ _ us hl => match us, hl with | [_], _ => rfl
  obtain ⟨fd_InvalidNumber___init__, Fn_InvalidNumber___init__⟩ := c.fun_ 43 (at_ := fun K => ma K (ga K "InvalidNumber") "__init__") (x := "__init__") (q := "InvalidNumber.__init__") (st := s_InvalidNumber___init__) rfl
  have b_InvalidNumber___init__ : Binds K fd_InvalidNumber___init__ ["self", "value"] [] := Fn_InvalidNumber___init__.binds fun _ _ _ _ _ _ us hl => match us, hl with | [_, _], _ => rfl
  obtain ⟨fd_TooLarge___init__, Fn_TooLarge___init__⟩ := c.fun_ 44 (at_ := fun K => ma K (ga K "TooLarge") "__init__") (x := "__init__") (q := "TooLarge.__init__") (st := s_TooLarge___init__) rfl
  have b_TooLarge___init__ : Binds K fd_TooLarge___init__ ["self", "what"] [] := Fn_TooLarge___init__.binds fun _ _ _ _ _ _ us hl => match us, hl with | [_, _], _ => rfl
  obtain ⟨fd_InvalidColoring___init__, Fn_InvalidColoring___init__⟩ := c.fun_ 45 (at_ := fun K => ma K (ga K "InvalidColoring") "__init__") (x := "__init__") (q := "InvalidColoring.__init__") (st := s_InvalidColoring___init__) rfl
  have b_InvalidColoring___init__ : Binds K fd_InvalidColoring___init__ ["self", "value"] [] := Fn_InvalidColoring___init__.binds fun _ _ _ _ _ _ us hl => match us, hl with | [_, _], _ => rfl
  obtain ⟨fd_InvalidGraph___init__, Fn_InvalidGraph___init__⟩ := c.fun_ 46 (at_ := fun K => ma K (ga K "InvalidGraph") "__init__") (x := "__init__") (q := "InvalidGraph.__init__") (st := s_InvalidGraph___init__) rfl
  have b_InvalidGraph___init__ : Binds K fd_InvalidGraph___init__ ["self", "part", "place"] [] := Fn_InvalidGraph___init__.binds fun _ _ _ _ _ _ us hl => match us, hl with | [_, _, _], _ => rfl
  obtain ⟨fd_law, D_law⟩ : ∃ fd, FunD K "law" "law" (defArgs s_law) (defBody s_law) (defScope s_law) [] [] (ga K "law") fd := c.def_ 47 (d := dG "law" s_law) rfl
  have Fn_law := He5.fun_of D_law
  have g__law_alike : mg "_law_alike" = some (.ref (ga K "_law_alike")) := He.glo_ok X G (c.fact 0 (f := .glo "_law_alike") rfl)
  have g__law_mixed : mg "_law_mixed" = some (.ref (ga K "_law_mixed")) := He.glo_ok X G (c.fact 1 (f := .glo "_law_mixed") rfl)
  have g__law_draw : mg "_law_draw" = some (.ref (ga K "_law_draw")) := He.glo_ok X G (c.fact 2 (f := .glo "_law_draw") rfl)
  have g__law_edges : mg "_law_edges" = some (.ref (ga K "_law_edges")) := He.glo_ok X G (c.fact 3 (f := .glo "_law_edges") rfl)
  have g__law_shuffled : mg "_law_shuffled" = some (.ref (ga K "_law_shuffled")) := He.glo_ok X G (c.fact 4 (f := .glo "_law_shuffled") rfl)
  have g__law_near : mg "_law_near" = some (.ref (ga K "_law_near")) := He.glo_ok X G (c.fact 5 (f := .glo "_law_near") rfl)
  have g_is_within : mg "is_within" = some (.ref (ga K "is_within")) := He.glo_ok X G (c.fact 6 (f := .glo "is_within") rfl)
  have g_chromatic_numbers : mg "chromatic_numbers" = some (.ref (ga K "chromatic_numbers")) := He.glo_ok X G (c.fact 7 (f := .glo "chromatic_numbers") rfl)
  have g_mask_of : mg "mask_of" = some (.ref (ga K "mask_of")) := He.glo_ok X G (c.fact 8 (f := .glo "mask_of") rfl)
  have g_is_integer : mg "is_integer" = some (.ref (ga K "is_integer")) := He.glo_ok X G (c.fact 9 (f := .glo "is_integer") rfl)
  have g_is_between : mg "is_between" = some (.ref (ga K "is_between")) := He.glo_ok X G (c.fact 10 (f := .glo "is_between") rfl)
  have g_independent_masks : mg "independent_masks" = some (.ref (ga K "independent_masks")) := He.glo_ok X G (c.fact 11 (f := .glo "independent_masks") rfl)
  have g_require_vertices : mg "require_vertices" = some (.ref (ga K "require_vertices")) := He.glo_ok X G (c.fact 12 (f := .glo "require_vertices") rfl)
  have g_require_exhaustible : mg "require_exhaustible" = some (.ref (ga K "require_exhaustible")) := He.glo_ok X G (c.fact 13 (f := .glo "require_exhaustible") rfl)
  have g_first_color : mg "first_color" = some (.ref (ga K "first_color")) := He.glo_ok X G (c.fact 14 (f := .glo "first_color") rfl)
  have g_color_masks : mg "color_masks" = some (.ref (ga K "color_masks")) := He.glo_ok X G (c.fact 15 (f := .glo "color_masks") rfl)
  have g_has_vertex : mg "has_vertex" = some (.ref (ga K "has_vertex")) := He.glo_ok X G (c.fact 16 (f := .glo "has_vertex") rfl)
  have g_color_of : mg "color_of" = some (.ref (ga K "color_of")) := He.glo_ok X G (c.fact 17 (f := .glo "color_of") rfl)
  have g_are_colors : mg "are_colors" = some (.ref (ga K "are_colors")) := He.glo_ok X G (c.fact 18 (f := .glo "are_colors") rfl)
  have g_normal_form : mg "normal_form" = some (.ref (ga K "normal_form")) := He.glo_ok X G (c.fact 19 (f := .glo "normal_form") rfl)
  have g_subset_coloring : mg "subset_coloring" = some (.ref (ga K "subset_coloring")) := He.glo_ok X G (c.fact 20 (f := .glo "subset_coloring") rfl)
  have g_optimal_coloring : mg "optimal_coloring" = some (.ref (ga K "optimal_coloring")) := He.glo_ok X G (c.fact 21 (f := .glo "optimal_coloring") rfl)
  have g__law_coloring : mg "_law_coloring" = some (.ref (ga K "_law_coloring")) := He.glo_ok X G (c.fact 22 (f := .glo "_law_coloring") rfl)
  have g__law_fewest : mg "_law_fewest" = some (.ref (ga K "_law_fewest")) := He.glo_ok X G (c.fact 23 (f := .glo "_law_fewest") rfl)
  have g__law_fits : mg "_law_fits" = some (.ref (ga K "_law_fits")) := He.glo_ok X G (c.fact 24 (f := .glo "_law_fits") rfl)
  have g__law_free : mg "_law_free" = some (.ref (ga K "_law_free")) := He.glo_ok X G (c.fact 25 (f := .glo "_law_free") rfl)
  have g_chromatic_number : mg "chromatic_number" = some (.ref (ga K "chromatic_number")) := He.glo_ok X G (c.fact 26 (f := .glo "chromatic_number") rfl)
  have g__law_number : mg "_law_number" = some (.ref (ga K "_law_number")) := He.glo_ok X G (c.fact 27 (f := .glo "_law_number") rfl)
  have g__law_right : mg "_law_right" = some (.ref (ga K "_law_right")) := He.glo_ok X G (c.fact 28 (f := .glo "_law_right") rfl)
  have g__law_size : mg "_law_size" = some (.ref (ga K "_law_size")) := He.glo_ok X G (c.fact 29 (f := .glo "_law_size") rfl)
  have g_first_fault : mg "first_fault" = some (.ref (ga K "first_fault")) := He.glo_ok X G (c.fact 30 (f := .glo "first_fault") rfl)
  have g_is_pair : mg "is_pair" = some (.ref (ga K "is_pair")) := He.glo_ok X G (c.fact 31 (f := .glo "is_pair") rfl)
  have g_is_ascending : mg "is_ascending" = some (.ref (ga K "is_ascending")) := He.glo_ok X G (c.fact 32 (f := .glo "is_ascending") rfl)
  have g_is_subset : mg "is_subset" = some (.ref (ga K "is_subset")) := He.glo_ok X G (c.fact 33 (f := .glo "is_subset") rfl)
  have g_is_edge : mg "is_edge" = some (.ref (ga K "is_edge")) := He.glo_ok X G (c.fact 34 (f := .glo "is_edge") rfl)
  have g_is_sequence : mg "is_sequence" = some (.ref (ga K "is_sequence")) := He.glo_ok X G (c.fact 35 (f := .glo "is_sequence") rfl)
  have g_first_wrong_edge : mg "first_wrong_edge" = some (.ref (ga K "first_wrong_edge")) := He.glo_ok X G (c.fact 36 (f := .glo "first_wrong_edge") rfl)
  have g_neighbor_rows : mg "neighbor_rows" = some (.ref (ga K "neighbor_rows")) := He.glo_ok X G (c.fact 37 (f := .glo "neighbor_rows") rfl)
  have g__law_asked : mg "_law_asked" = some (.ref (ga K "_law_asked")) := He.glo_ok X G (c.fact 38 (f := .glo "_law_asked") rfl)
  have g_law : mg "law" = some (.ref (ga K "law")) := He.glo_ok X G (c.fact 39 (f := .glo "law") rfl)
  have g_Graph : mg "Graph" = some (.ref (ga K "Graph")) := He.glo_ok X G (c.fact 40 (f := .glo "Graph") rfl)
  have g_GraphError : mg "GraphError" = some (.ref (ga K "GraphError")) := He.glo_ok X G (c.fact 41 (f := .glo "GraphError") rfl)
  have g_TooLarge : mg "TooLarge" = some (.ref (ga K "TooLarge")) := He.glo_ok X G (c.fact 42 (f := .glo "TooLarge") rfl)
  have g_InvalidNumber : mg "InvalidNumber" = some (.ref (ga K "InvalidNumber")) := He.glo_ok X G (c.fact 43 (f := .glo "InvalidNumber") rfl)
  have g_InvalidColoring : mg "InvalidColoring" = some (.ref (ga K "InvalidColoring")) := He.glo_ok X G (c.fact 44 (f := .glo "InvalidColoring") rfl)
  have g_InvalidGraph : mg "InvalidGraph" = some (.ref (ga K "InvalidGraph")) := He.glo_ok X G (c.fact 45 (f := .glo "InvalidGraph") rfl)
  have f_isinstance : mg "isinstance" = none := He.free_ok X G (c.fact 46 (f := .free "isinstance") rfl)
  have f_int : mg "int" = none := He.free_ok X G (c.fact 47 (f := .free "int") rfl)
  have f_bool : mg "bool" = none := He.free_ok X G (c.fact 48 (f := .free "bool") rfl)
  have f_len : mg "len" = none := He.free_ok X G (c.fact 49 (f := .free "len") rfl)
  have f_list : mg "list" = none := He.free_ok X G (c.fact 50 (f := .free "list") rfl)
  have f_tuple : mg "tuple" = none := He.free_ok X G (c.fact 51 (f := .free "tuple") rfl)
  have f_str : mg "str" = none := He.free_ok X G (c.fact 52 (f := .free "str") rfl)
  have f_all : mg "all" = none := He.free_ok X G (c.fact 53 (f := .free "all") rfl)
  have f_zip : mg "zip" = none := He.free_ok X G (c.fact 54 (f := .free "zip") rfl)
  have f_range : mg "range" = none := He.free_ok X G (c.fact 55 (f := .free "range") rfl)
  have f_enumerate : mg "enumerate" = none := He.free_ok X G (c.fact 56 (f := .free "enumerate") rfl)
  have f_abs : mg "abs" = none := He.free_ok X G (c.fact 57 (f := .free "abs") rfl)
  have f_min : mg "min" = none := He.free_ok X G (c.fact 58 (f := .free "min") rfl)
  have f_iter : mg "iter" = none := He.free_ok X G (c.fact 59 (f := .free "iter") rfl)
  have f_sum : mg "sum" = none := He.free_ok X G (c.fact 60 (f := .free "sum") rfl)
  have B : B0 mg := ⟨f_isinstance, f_int, f_bool, f_len, f_list, f_tuple, f_str, f_all, f_zip, f_range, f_enumerate, f_abs, f_min⟩
  obtain ⟨t_MOST_EXHAUSTIVE, e_MOST_EXHAUSTIVE⟩ := He.int_ok X G (c.fact 61 (f := .int "MOST_EXHAUSTIVE" 8) rfl)
  have h_MOST_EXHAUSTIVE : ∃ u, mg "MOST_EXHAUSTIVE" = some u ∧ RelV (.int C_MOST_EXHAUSTIVE) u := ⟨_, e_MOST_EXHAUSTIVE, t_MOST_EXHAUSTIVE, rfl⟩
  obtain ⟨t_MOST_VERTICES, e_MOST_VERTICES⟩ := He.int_ok X G (c.fact 62 (f := .int "MOST_VERTICES" 24) rfl)
  have h_MOST_VERTICES : ∃ u, mg "MOST_VERTICES" = some u ∧ RelV (.int C_MOST_VERTICES) u := ⟨_, e_MOST_VERTICES, t_MOST_VERTICES, rfl⟩
  have ME_Graph_neighbors := He.meth_ok (c.fact 63 (f := .meth "Graph" "neighbors") rfl)
  have x_0 := c.more
  obtain ⟨y_0, x_1⟩ := He.ba x_0
  obtain ⟨y_1, x_2⟩ := He.ba x_1
  obtain ⟨y_2, x_3⟩ := He.ba x_2
  obtain ⟨y_3, x_4⟩ := He.ba x_3
  obtain ⟨y_4, x_5⟩ := He.ba x_4
  obtain ⟨y_5, x_6⟩ := He.ba x_5
  obtain ⟨y_6, x_7⟩ := He.ba x_6
  obtain ⟨y_7, x_8⟩ := He.ba x_7
  obtain ⟨y_8, x_9⟩ := He.ba x_8
  obtain ⟨y_9, x_10⟩ := He.ba x_9
  obtain ⟨y_10, x_11⟩ := He.ba x_10
  have CC := clssB_ok y_0
  have K_Graph := clspB_ok y_1
  have x_TooLarge := xcpB_ok y_2
  have z_GraphError := ersB_ok y_3
  have zk := erkB_ok y_4
  have ON_InvalidNumber := oneB_ok y_5
  have ON_TooLarge := oneB_ok y_6
  have ON_InvalidColoring := oneB_ok y_7
  have TW_InvalidGraph := twoB_ok y_8
  have MK_Graph := mkB_ok y_9
  have OP_Graph_iter := opB_ok y_10
  have OP_Graph_len := opB_ok x_11
  refine ⟨fd_law, fun s v => FunD.bindsA (ps := ["script"]) D_law (fun _ _ _ _ _ _ us hl => match us, hl with | [_], _ => rfl) s [v] rfl, fun base hK hN => ?_⟩
  have r_InvalidNumber : ErrT P w K mg base "InvalidNumber" "value" (ga K "InvalidNumber") := ⟨⟨_, _, ON_InvalidNumber, ok_init_InvalidNumber Fn_InvalidNumber___init__, b_InvalidNumber___init__⟩, g_InvalidNumber⟩
  have r_TooLarge : ErrT P w K mg base "TooLarge" "what" (ga K "TooLarge") := ⟨⟨_, _, ON_TooLarge, ok_init_TooLarge Fn_TooLarge___init__, b_TooLarge___init__⟩, g_TooLarge⟩
  have r_InvalidColoring : ErrT P w K mg base "InvalidColoring" "value" (ga K "InvalidColoring") := ⟨⟨_, _, ON_InvalidColoring, ok_init_InvalidColoring Fn_InvalidColoring___init__, b_InvalidColoring___init__⟩, g_InvalidColoring⟩
  have r_InvalidGraph : ErrT2 P w K mg base "InvalidGraph" "part" "place" (ga K "InvalidGraph") := ⟨⟨_, _, TW_InvalidGraph, ok_init_InvalidGraph Fn_InvalidGraph___init__, b_InvalidGraph___init__⟩, g_InvalidGraph⟩
  have k__law_alike := okP__law_alike (P := P) (w := w) (base := base) Fn__law_alike g__law_alike Fn__law_alike.kp b__law_alike CC K_Graph f_bool f_int f_isinstance f_len f_list f_range f_str f_tuple g_Graph 12
  have k__law_mixed := okP__law_mixed (P := P) (w := w) (mg := mg) (base := base) Fn__law_mixed f_int
  have c__law_mixed : CaX P w K mg base L__law_mixed "_law_mixed" (spG K 2 F__law_mixed) := ⟨⟨_, _, _, k__law_mixed, g__law_mixed, Fn__law_mixed.kp, b__law_mixed⟩⟩
  have k__law_draw := okP__law_draw (P := P) (w := w) (mg := mg) (base := base) Fn__law_draw c__law_mixed f_abs f_int f_len
  have k__law_edges := okP__law_edges (P := P) (w := w) (mg := mg) (base := base) Fn__law_edges f_len f_range f_tuple
  have c__law_draw : CaX P w K mg base L__law_draw "_law_draw" (spG K 2 F__law_draw) := ⟨⟨_, _, _, k__law_draw, g__law_draw, Fn__law_draw.kp, b__law_draw⟩⟩
  have k__law_shuffled := okP__law_shuffled (P := P) (w := w) (mg := mg) (base := base) Fn__law_shuffled c__law_draw f_range
  have c__law_shuffled : CaX P w K mg base L__law_shuffled "_law_shuffled" (spG K 2 F__law_shuffled) := ⟨⟨_, _, _, k__law_shuffled, g__law_shuffled, Fn__law_shuffled.kp, b__law_shuffled⟩⟩
  have k__law_near := okP__law_near (P := P) (w := w) (mg := mg) (base := base) Fn__law_near c__law_draw c__law_shuffled f_range
  have k_is_within := okP_is_within (P := P) (w := w) (mg := mg) (base := base) Fn_is_within 
  have c_is_within : CaX P w K mg base L_is_within "is_within" (spG K 2 F_is_within) := ⟨⟨_, _, _, k_is_within, g_is_within, Fn_is_within.kp, b_is_within⟩⟩
  have k_chromatic_numbers := okP_chromatic_numbers (P := P) (w := w) (mg := mg) (base := base) Fn_chromatic_numbers c_is_within f_len f_min f_range
  have k_mask_of := okP_mask_of (P := P) (w := w) (mg := mg) (base := base) Fn_mask_of f_sum
  have k_is_integer := okP_is_integer (P := P) (w := w) (mg := mg) (base := base) Fn_is_integer CC f_bool f_int f_isinstance
  have c_is_integer : CaX P w K mg base L_is_integer "is_integer" (spG K 1 F_is_integer) := ⟨⟨_, _, _, k_is_integer, g_is_integer, Fn_is_integer.kp, b_is_integer⟩⟩
  have k_is_between := okP_is_between (P := P) (w := w) (mg := mg) (base := base) Fn_is_between c_is_integer
  have c_is_between : CaX P w K mg base L_is_between "is_between" (spG K 3 F_is_between) := ⟨⟨_, _, _, k_is_between, g_is_between, Fn_is_between.kp, b_is_between⟩⟩
  have k_Graph_neighbors := okP_Graph_neighbors (P := P) (w := w) (mg := mg) (base := base) Fn_Graph_neighbors K_Graph c_is_between r_InvalidNumber
  have k_Graph___iter__ := okI_Graph___iter__ (P := P) (w := w) (mg := mg) (base := base) Fn_Graph___iter__ K_Graph f_iter
  have c_mask_of : CaX P w K mg base L_mask_of "mask_of" (spG K 1 F_mask_of) := ⟨⟨_, _, _, k_mask_of, g_mask_of, Fn_mask_of.kp, b_mask_of⟩⟩
  have e_Graph_neighbors : MetP P w K mg base L_Graph_neighbors "Graph" "neighbors" (spG K 2 F_Graph_neighbors) := ⟨⟨_, _, _, (CC.g "Graph" (by decide)).cl, ME_Graph_neighbors, k_Graph_neighbors, b_Graph_neighbors⟩⟩
  have i_Graph : ItP P w K mg base 1 "Graph" := ⟨⟨_, _, _, k_Graph___iter__, OP_Graph_iter.1, OP_Graph_iter.2, b_Graph___iter__⟩⟩
  have k_independent_masks := okP_independent_masks (P := P) (w := w) (mg := mg) (base := base) Fn_independent_masks c_mask_of e_Graph_neighbors i_Graph
  have k_require_vertices := okP_require_vertices (P := P) (w := w) (mg := mg) (base := base) Fn_require_vertices r_TooLarge
  have c_require_vertices : CaX P w K mg base L_require_vertices "require_vertices" (spG K 2 F_require_vertices) := ⟨⟨_, _, _, k_require_vertices, g_require_vertices, Fn_require_vertices.kp, b_require_vertices⟩⟩
  have k_require_exhaustible := okP_require_exhaustible (P := P) (w := w) (mg := mg) (base := base) Fn_require_exhaustible K_Graph c_require_vertices h_MOST_EXHAUSTIVE
  have k_first_color := okP_first_color (P := P) (w := w) (mg := mg) (base := base) Fn_first_color c_is_within
  have c_first_color : CaX P w K mg base L_first_color "first_color" (spG K 3 F_first_color) := ⟨⟨_, _, _, k_first_color, g_first_color, Fn_first_color.kp, b_first_color⟩⟩
  have k_color_masks := okP_color_masks (P := P) (w := w) (mg := mg) (base := base) Fn_color_masks c_first_color
  have k_has_vertex := okP_has_vertex (P := P) (w := w) (mg := mg) (base := base) Fn_has_vertex 
  have c_has_vertex : CaX P w K mg base L_has_vertex "has_vertex" (spG K 2 F_has_vertex) := ⟨⟨_, _, _, k_has_vertex, g_has_vertex, Fn_has_vertex.kp, b_has_vertex⟩⟩
  have k_color_of := okP_color_of (P := P) (w := w) (mg := mg) (base := base) Fn_color_of c_has_vertex f_enumerate
  have k_are_colors := okP_are_colors (P := P) (w := w) (mg := mg) (base := base) Fn_are_colors CC c_is_between f_all f_isinstance f_tuple h_MOST_VERTICES
  have c_are_colors : CaX P w K mg base L_are_colors "are_colors" (spG K 1 F_are_colors) := ⟨⟨_, _, _, k_are_colors, g_are_colors, Fn_are_colors.kp, b_are_colors⟩⟩
  have k_normal_form := okP_normal_form (P := P) (w := w) (mg := mg) (base := base) Fn_normal_form c_are_colors f_len f_tuple h_MOST_VERTICES r_InvalidColoring
  have c_color_masks : CaX P w K mg base L_color_masks "color_masks" (spG K 3 F_color_masks) := ⟨⟨_, _, _, k_color_masks, g_color_masks, Fn_color_masks.kp, b_color_masks⟩⟩
  have c_color_of : CaX P w K mg base L_color_of "color_of" (spG K 2 F_color_of) := ⟨⟨_, _, _, k_color_of, g_color_of, Fn_color_of.kp, b_color_of⟩⟩
  have c_normal_form : CaX P w K mg base L_normal_form "normal_form" (spG K 1 F_normal_form) := ⟨⟨_, _, _, k_normal_form, g_normal_form, Fn_normal_form.kp, b_normal_form⟩⟩
  have k_subset_coloring := okP_subset_coloring (P := P) (w := w) (mg := mg) (base := base) Fn_subset_coloring c_color_masks c_color_of c_mask_of c_normal_form f_tuple
  have k_Graph___len__ := okP_Graph___len__ (P := P) (w := w) (mg := mg) (base := base) Fn_Graph___len__ K_Graph f_len
  have c_chromatic_numbers : CaX P w K mg base L_chromatic_numbers "chromatic_numbers" (spG K 1 F_chromatic_numbers) := ⟨⟨_, _, _, k_chromatic_numbers, g_chromatic_numbers, Fn_chromatic_numbers.kp, b_chromatic_numbers⟩⟩
  have c_independent_masks : CaX P w K mg base L_independent_masks "independent_masks" (spG K 1 F_independent_masks) := ⟨⟨_, _, _, k_independent_masks, g_independent_masks, Fn_independent_masks.kp, b_independent_masks⟩⟩
  have c_require_exhaustible : CaX P w K mg base L_require_exhaustible "require_exhaustible" (spG K 1 F_require_exhaustible) := ⟨⟨_, _, _, k_require_exhaustible, g_require_exhaustible, Fn_require_exhaustible.kp, b_require_exhaustible⟩⟩
  have c_subset_coloring : CaX P w K mg base L_subset_coloring "subset_coloring" (spG K 3 F_subset_coloring) := ⟨⟨_, _, _, k_subset_coloring, g_subset_coloring, Fn_subset_coloring.kp, b_subset_coloring⟩⟩
  have o_Graph_len : OpP P w K mg base L_Graph___len__ "Graph" "__len__" (spG K 1 F_Graph___len__) := ⟨⟨_, _, _, k_Graph___len__, OP_Graph_len.1, OP_Graph_len.2, b_Graph___len__⟩⟩
  have k_optimal_coloring := okP_optimal_coloring (P := P) (w := w) (mg := mg) (base := base) Fn_optimal_coloring c_chromatic_numbers c_independent_masks c_require_exhaustible c_subset_coloring f_tuple i_Graph o_Graph_len
  have c_optimal_coloring : CaX P w K mg base L_optimal_coloring "optimal_coloring" (spG K 1 F_optimal_coloring) := ⟨⟨_, _, _, k_optimal_coloring, g_optimal_coloring, Fn_optimal_coloring.kp, b_optimal_coloring⟩⟩
  have k_optimal_coloring_0 : CaKP P w K mg base L_optimal_coloring "optimal_coloring" ["graph"] [0] (spG K 1 F_optimal_coloring) := by
    refine ⟨⟨_, _, _, k_optimal_coloring, g_optimal_coloring, Fn_optimal_coloring.kp, ?_⟩⟩
    obtain ⟨oc, od, kV, doc, pm, an, cdv, ct, osl, rfl, lk, hcd⟩ := Fn_optimal_coloring.ex
    intro s ws _ hl
    match ws, hl with
    | [a], _ => exact BindsTo.of_eq rfl
  have k__law_coloring := okP__law_coloring (P := P) (w := w) (mg := mg) (base := base) Fn__law_coloring c_optimal_coloring f_isinstance g_GraphError g_TooLarge k_optimal_coloring_0 x_TooLarge z_GraphError zk
  have k__law_fewest := okP__law_fewest (P := P) (w := w) (mg := mg) (base := base) Fn__law_fewest f_len f_range
  have k__law_fits := okP__law_fits (P := P) (w := w) (mg := mg) (base := base) Fn__law_fits CC f_bool f_int f_isinstance f_len f_range f_tuple
  have k__law_free := okP__law_free (P := P) (w := w) (mg := mg) (base := base) Fn__law_free f_len f_range
  have k_chromatic_number := okP_chromatic_number (P := P) (w := w) (mg := mg) (base := base) Fn_chromatic_number c_chromatic_numbers c_independent_masks c_require_exhaustible
  have c_chromatic_number : CaX P w K mg base L_chromatic_number "chromatic_number" (spG K 1 F_chromatic_number) := ⟨⟨_, _, _, k_chromatic_number, g_chromatic_number, Fn_chromatic_number.kp, b_chromatic_number⟩⟩
  have k_chromatic_number_0 : CaKP P w K mg base L_chromatic_number "chromatic_number" ["graph"] [0] (spG K 1 F_chromatic_number) := by
    refine ⟨⟨_, _, _, k_chromatic_number, g_chromatic_number, Fn_chromatic_number.kp, ?_⟩⟩
    obtain ⟨oc, od, kV, doc, pm, an, cdv, ct, osl, rfl, lk, hcd⟩ := Fn_chromatic_number.ex
    intro s ws _ hl
    match ws, hl with
    | [a], _ => exact BindsTo.of_eq rfl
  have k__law_number := okP__law_number (P := P) (w := w) (mg := mg) (base := base) Fn__law_number c_chromatic_number f_isinstance g_GraphError g_TooLarge k_chromatic_number_0 x_TooLarge z_GraphError zk
  have c__law_alike : CaX P w K mg base (L__law_alike 12) "_law_alike" (spG K 2 (F__law_alike 12)) := ⟨⟨_, _, _, k__law_alike, g__law_alike, Fn__law_alike.kp, b__law_alike⟩⟩
  have c__law_coloring : CaX P w K mg base L__law_coloring "_law_coloring" (spG K 2 F__law_coloring) := ⟨⟨_, _, _, k__law_coloring, g__law_coloring, Fn__law_coloring.kp, b__law_coloring⟩⟩
  have c__law_fewest : CaX P w K mg base L__law_fewest "_law_fewest" (spG K 2 F__law_fewest) := ⟨⟨_, _, _, k__law_fewest, g__law_fewest, Fn__law_fewest.kp, b__law_fewest⟩⟩
  have c__law_fits : CaX P w K mg base L__law_fits "_law_fits" (spG K 3 F__law_fits) := ⟨⟨_, _, _, k__law_fits, g__law_fits, Fn__law_fits.kp, b__law_fits⟩⟩
  have c__law_free : CaX P w K mg base L__law_free "_law_free" (spG K 2 F__law_free) := ⟨⟨_, _, _, k__law_free, g__law_free, Fn__law_free.kp, b__law_free⟩⟩
  have c__law_number : CaX P w K mg base L__law_number "_law_number" (spG K 2 F__law_number) := ⟨⟨_, _, _, k__law_number, g__law_number, Fn__law_number.kp, b__law_number⟩⟩
  have k__law_right := okP__law_right (P := P) (w := w) (mg := mg) (base := base) Fn__law_right c__law_alike c__law_coloring c__law_fewest c__law_fits c__law_free c__law_number f_len
  have k__law_size := okP__law_size (P := P) (w := w) (mg := mg) (base := base) Fn__law_size c__law_draw
  have k_first_fault := okP_first_fault (P := P) (w := w) (mg := mg) (base := base) Fn_first_fault f_enumerate
  have k_is_pair := okP_is_pair (P := P) (w := w) (mg := mg) (base := base) Fn_is_pair CC f_isinstance f_len f_tuple
  have k_is_ascending := okP_is_ascending (P := P) (w := w) (mg := mg) (base := base) Fn_is_ascending f_all f_zip
  have c_is_ascending : CaX P w K mg base L_is_ascending "is_ascending" (spG K 1 F_is_ascending) := ⟨⟨_, _, _, k_is_ascending, g_is_ascending, Fn_is_ascending.kp, b_is_ascending⟩⟩
  have k_is_subset := okP_is_subset (P := P) (w := w) (mg := mg) (base := base) Fn_is_subset CC c_is_ascending c_is_between f_all f_isinstance f_tuple
  have c_is_pair : CaX P w K mg base L_is_pair "is_pair" (spG K 1 F_is_pair) := ⟨⟨_, _, _, k_is_pair, g_is_pair, Fn_is_pair.kp, b_is_pair⟩⟩
  have c_is_subset : CaX P w K mg base L_is_subset "is_subset" (spG K 2 F_is_subset) := ⟨⟨_, _, _, k_is_subset, g_is_subset, Fn_is_subset.kp, b_is_subset⟩⟩
  have k_is_edge := okP_is_edge (P := P) (w := w) (mg := mg) (base := base) Fn_is_edge c_is_pair c_is_subset
  have k_is_sequence := okP_is_sequence (P := P) (w := w) (mg := mg) (base := base) Fn_is_sequence CC f_isinstance f_list f_tuple
  have c_first_fault : CaX P w K mg base L_first_fault "first_fault" (spG K 2 F_first_fault) := ⟨⟨_, _, _, k_first_fault, g_first_fault, Fn_first_fault.kp, b_first_fault⟩⟩
  have c_is_edge : CaX P w K mg base L_is_edge "is_edge" (spG K 2 F_is_edge) := ⟨⟨_, _, _, k_is_edge, g_is_edge, Fn_is_edge.kp, b_is_edge⟩⟩
  have c_is_sequence : CaX P w K mg base L_is_sequence "is_sequence" (spG K 1 F_is_sequence) := ⟨⟨_, _, _, k_is_sequence, g_is_sequence, Fn_is_sequence.kp, b_is_sequence⟩⟩
  have k_first_wrong_edge := okP_first_wrong_edge (P := P) (w := w) (mg := mg) (base := base) Fn_first_wrong_edge c_first_fault c_is_edge c_is_sequence
  have k_neighbor_rows := okP_neighbor_rows (P := P) (w := w) (mg := mg) (base := base) Fn_neighbor_rows B
  have c_first_wrong_edge : CaX P w K mg base L_first_wrong_edge "first_wrong_edge" (spG K 2 F_first_wrong_edge) := ⟨⟨_, _, _, k_first_wrong_edge, g_first_wrong_edge, Fn_first_wrong_edge.kp, b_first_wrong_edge⟩⟩
  have c_neighbor_rows : CaX P w K mg base L_neighbor_rows "neighbor_rows" (spG K 2 F_neighbor_rows) := ⟨⟨_, _, _, k_neighbor_rows, g_neighbor_rows, Fn_neighbor_rows.kp, b_neighbor_rows⟩⟩
  have k_Graph___init__ := okP_Graph___init__ (P := P) (w := w) (mg := mg) (base := base) Fn_Graph___init__ K_Graph c_first_wrong_edge c_is_between c_neighbor_rows f_range f_tuple h_MOST_VERTICES r_InvalidGraph
  have c__law_edges : CaX P w K mg base L__law_edges "_law_edges" (spG K 1 F__law_edges) := ⟨⟨_, _, _, k__law_edges, g__law_edges, Fn__law_edges.kp, b__law_edges⟩⟩
  have c__law_near : CaX P w K mg base L__law_near "_law_near" (spG K 2 F__law_near) := ⟨⟨_, _, _, k__law_near, g__law_near, Fn__law_near.kp, b__law_near⟩⟩
  have c__law_right : CaX P w K mg base L__law_right "_law_right" (spG K 3 F__law_right) := ⟨⟨_, _, _, k__law_right, g__law_right, Fn__law_right.kp, b__law_right⟩⟩
  have c__law_size : CaX P w K mg base L__law_size "_law_size" (spG K 1 F__law_size) := ⟨⟨_, _, _, k__law_size, g__law_size, Fn__law_size.kp, b__law_size⟩⟩
  have m_Graph : MakP P w K mg base L_Graph___init__ "Graph" (spG K 3 F_Graph___init__) := ⟨⟨_, _, _, MK_Graph, k_Graph___init__, g_Graph, b_Graph___init__⟩⟩
  have k__law_asked := okP__law_asked (P := P) (w := w) (mg := mg) (base := base) Fn__law_asked K_Graph c__law_alike c__law_draw c__law_edges c__law_near c__law_right c__law_size f_len f_list m_Graph
  exact ok_lawP Fn_law ⟨⟨_, _, _, ok_askedP (k__law_asked.mono (show L__law_asked ≤ 14 by decide)) pure14, g__law_asked, Fn__law_asked.kp, b__law_asked⟩⟩
end EvH
set_option maxHeartbeats 0
open PySem PySem.W PySem.Calls PyProof.Rows
theorem PySem.Challenge.cw_everypart_k14_chromatic_number_and_an_op_holds : PySem.Challenge.rw_everypart_k14_chromatic_number_and_an_op.Holds := by
  w_on; o_law
  refine HandSHeadRun.head_any (r := OpenLaw.row PySem.Challenge.rw_everypart_k14_chromatic_number_and_an_op) (q := view (OpenLaw.row PySem.Challenge.rw_everypart_k14_chromatic_number_and_an_op).prog [60]) (H := EvH.hk) (ob := EvH.ob) (M := 6000) (loose := EvH.looseN) (d := HandSHeadRun.topDef (OpenLaw.row PySem.Challenge.rw_everypart_k14_chromatic_number_and_an_op).prog 60) (kwd := []) EvH.ob_eq
    (by kernel_rfl) (fun s => by kernel_rfl) EvH.run (by kernel_rfl) (by kernel_rfl) (by kernel_rfl) (by rfl) (by first | assumption | decide +kernel) (by decide +kernel) ⟨rfl, rfl, rfl, rfl, rfl, by decide +kernel⟩ ?hw ?hc
  case hw => w_witness2
  case hc =>
    refine L2.walk_ofE (l := PySem.Challenge.rw_everypart_k14_chromatic_number_and_an_op) (n := 63) (k := 15) (x := "script") (CX := L2.CX0) rfl (by decide) (by kernel_rfl) ⟨rfl, by decide, by decide⟩ ?F (fun _ _ _ _ z => z)
    intro w mg fa h Y G hmg0
    obtain ⟨K, KX, c⟩ := Y
    have hmg : mg ("law" : PySem.Str) = some (.ref fa) := by
      have e : (HandSHeadRun.topDef (OpenLaw.row PySem.Challenge.rw_everypart_k14_chromatic_number_and_an_op).prog 60).name = ("law" : PySem.Str) := by kernel_rfl
      rw [← e]
      exact hmg0
    obtain ⟨fd, hb, hF⟩ := EvH.facts (P := (PySem.Challenge.rw_everypart_k14_chromatic_number_and_an_op).prog) (w := w) KX G c
    have e2 : fa = He.ga K "law" := by
      have z := hmg.symm.trans (He.glo_ok KX G (c.fact 39 (f := .glo "law") rfl))
      cases z
      rfl
    subst e2
    exact ⟨K, fd, Ev.spAsked K, KX, hb, fun H a ns hl _ hS => ⟨a, ns, rfl, hS, hl, fun _ => rfl⟩, hF⟩
