import PyProof.Rows.All
import Wide.All
import OpenK.AllK
import Wide.FinOn
import KE.KStateDown
import Lean
import KE.GoesMore
import KE.GoesEnum
import KE.KExcIs
import HandS.ForMost
import HandS.Exc
import HandS.TryOnly
import HandS.ExcOwn
import HandS.WordsExc
import HandS.IsInst
import HandS.ExcInit
import HandS.ExcField
import HandS.ExcIs
import HandS.ClsMeth
import HandS.CallSlots
import HandS.Codes
import HandS.Zip
import HandS.Walk
import HandS.TupLe
import HandS.TupAny
import HandS.Conv
import HandS.Wide
import HandS.Flow
import HandS.SortRule
import PyProof.TupleOfSeq
import HandS.HeadNt
import HandS.Head0
import HandS.Head1
import HandS.Head2
import HandS.HeadEnd
import PySem.Challenge.RW_everypart_k03_union_join_complement
set_option Elab.async false
set_option linter.all false
set_option maxRecDepth 100000
set_option maxHeartbeats 4000000
namespace Ev
open PySem PySem.Spec PyProof.Rows L2
/-! ### kinds of values -/
inductive Tg where | non | bl | int | str | lst | tup | gr
  deriving DecidableEq
def Tg.s : Tg → String
  | .non => "NoneType" | .bl => "bool" | .int => "int" | .str => "str" | .lst => "list" | .tup => "tuple" | .gr => ""
def Tg.v (C : Addr) : Tg → Value
  | .gr => .ref C
  | g => .type g.s
def tag (C : Addr) (H : Hp) : V → Option Tg
  | .non => some .non
  | .bl _ => some .bl
  | .int _ => some .int
  | .str _ => some .str
  | .ref a => match H a with
    | some (.lst _) => some .lst
    | some (.tup _) => some .tup
    | some (.ins D _ _) => if D = C then some .gr else none
    | _ => none
  | _ => none
/-- what the text says of the class Graph -/
structure GrT (K : PySem.W.Frag) (C : Addr) : Prop where
  cl : Cls K C
  ha : PySem.W.findIn K (.ref C) "__class__" = some (some (.builtin "object.__class__"))
  hn : PySem.W.specialIn K (.builtin "object.__class__") "__get__" = some (some (.builtin "getset_descriptor.__get__"))
  htk : PySem.W.takesIn K (.builtin "object.__class__") = some true
  hm : PySem.W.mroIn K C (.type "object") = some true
  kg : ∀ g : Tg, g ≠ .gr → g ≠ .non → PySem.W.kitOne K (.ref C) (.type g.s) = some false
  kb : ∀ g : Tg, g ≠ .gr → PySem.W.kitOne K (.type g.s) (.ref C) = some false
  kk : PySem.W.kitOne K (.ref C) (.ref C) = some true
section
variable {K : PySem.W.Frag} {C : Addr} {H H' : Hp} {v : V} {g : Tg}
theorem tag_ty (G : GrT K C) (h : tag C H v = some g) : TyX K H v (g.v C) := by
  cases v with
  | non => cases h; exact .base .non
  | bl b => cases h; exact .base (.bl b)
  | int i => cases h; exact .base (.int i)
  | str x => cases h; exact .base (.str x)
  | byt b => cases h
  | flt b => cases h
  | ty n => cases h
  | ref a =>
    unfold tag at h
    dsimp only at h
    split at h
    · rename_i xs e; cases h; exact .base (.lst e)
    · rename_i xs e; cases h; exact .base (.tup e)
    · rename_i D dx fs e
      split at h
      · rename_i eD; cases h; subst eD; exact .base (.ins e G.cl G.ha G.hn G.htk G.hm)
      · cases h
    · cases h
def Tg.is (g : Tg) (n : Tg) : Bool := decide (g = n) || (decide (g = .bl) && decide (n = .int))
theorem kit_tag (G : GrT K C) (g n : Tg) (hn : n ≠ .gr) (hn2 : n ≠ .non) : PySem.W.kitOne K (g.v C) (.type n.s) = some (g.is n) := by
  cases g <;> cases n <;> first | exact absurd rfl hn | exact absurd rfl hn2 | exact kit_ty (by decide +kernel) | exact G.kg _ (by intro z; cases z) (by intro z; cases z)
theorem kit_gr (G : GrT K C) (g : Tg) : PySem.W.kitOne K (g.v C) (.ref C) = some (decide (g = .gr)) := by
  cases g <;> first | exact G.kk | exact G.kb _ (by intro z; cases z)
theorem tag_same (s : Same H H') (h : tag C H v = some g) : tag C H' v = some g := by
  cases v with
  | ref a =>
    unfold tag at h ⊢
    dsimp only at h ⊢
    cases e : H a with
    | none => rw [e] at h; cases h
    | some o => rw [e] at h; rw [s _ _ e]; exact h
  | _ => exact h
end

structure B0 (mg : Str → Option Value) : Prop where
  isi : mg "isinstance" = none
  int : mg "int" = none
  bool : mg "bool" = none
  len : mg "len" = none
  list : mg "list" = none
  tuple : mg "tuple" = none
  str : mg "str" = none
  all : mg "all" = none
  zip : mg "zip" = none
  range : mg "range" = none
  enumerate : mg "enumerate" = none
  abs : mg "abs" = none
  min : mg "min" = none
/-! ### heaps: all but the lists is kept, and of the lists all but the one at p -/
structure KP (p : Addr) (H H' : Hp) : Prop where
  nl : ∀ b o, H b = some o → (∀ zs, o ≠ .lst zs) → H' b = some o
  ls : ∀ b zs, b ≠ p → H b = some (.lst zs) → H' b = some (.lst zs)
theorem KP.refl (p : Addr) (H : Hp) : KP p H H := ⟨fun _ _ h _ => h, fun _ _ _ h => h⟩
theorem KP.trans {p : Addr} {H H1 H2 : Hp} (a : KP p H H1) (b : KP p H1 H2) : KP p H H2 := ⟨fun c o h n => b.nl c o (a.nl c o h n) n, fun c zs n h => b.ls c zs n (a.ls c zs n h)⟩
theorem KP.of {p : Addr} {H H' : Hp} (s : Same H H') : KP p H H' := ⟨fun b o h _ => s b o h, fun b zs _ h => s b _ h⟩
theorem KP.tup {p : Addr} {H H' : Hp} (k : KP p H H') {b : Addr} {xs : List V} (h : H b = some (.tup xs)) : H' b = some (.tup xs) := k.nl b _ h (fun _ z => nomatch z)
theorem KP.ins {p : Addr} {H H' : Hp} (k : KP p H H') {b C d : Addr} {fs : List (Str × V)} (h : H b = some (.ins C d fs)) : H' b = some (.ins C d fs) := k.nl b _ h (fun _ z => nomatch z)
theorem KP.put {p : Addr} {H : Hp} {zs ws : List V} (h : H p = some (.lst zs)) : KP p H (upd H p (.lst ws)) := ⟨fun b o e n => by
    have hb : b ≠ p := fun z => by
      rw [z, h] at e
      exact n zs (Option.some.inj e).symm
    rw [upd_ne hb]; exact e, fun b zs n e => by rw [upd_ne n]; exact e⟩
theorem same_new {H : Hp} {p : Addr} {o : HO} (h : H p = none) : Same H (upd H p o) := fun b x e => by
  rw [upd_ne (ne_of_none e h)]
  exact e
theorem KP.new {p q : Addr} {H : Hp} {o : HO} (h : H q = none) : KP p H (upd H q o) := .of (same_new h)
/-! ### pairs of ints -/
def PrAt (H : Hp) (x : V) (q : Int × Int) : Prop := ∃ t, x = .ref t ∧ H t = some (.tup [.int q.1, .int q.2])
abbrev PrsAt (H : Hp) : List V → List (Int × Int) → Prop := Paired (PrAt H)
theorem PrAt.kp {p : Addr} {H H' : Hp} {x : V} {q : Int × Int} (k : KP p H H') (h : PrAt H x q) : PrAt H' x q := by
  obtain ⟨t, e, h⟩ := h
  exact ⟨t, e, k.tup h⟩
theorem PrsAt.kp {p : Addr} {H H' : Hp} (k : KP p H H') : ∀ {xs : List V} {ps : List (Int × Int)}, PrsAt H xs ps → PrsAt H' xs ps
  | _, _, .nil => .nil
  | _, _, .cons r t => .cons (r.kp k) (PrsAt.kp k t)
theorem paired_app {α β : Type} {R : α → β → Prop} : ∀ {xs ys : List α} {us ws : List β}, Paired R xs us → Paired R ys ws → Paired R (xs ++ ys) (us ++ ws)
  | _, _, _, _, .nil, s => s
  | _, _, _, _, .cons r t, s => .cons r (paired_app t s)
theorem paired_get {α β : Type} {R : α → β → Prop} : ∀ {xs : List α} {us : List β} {i : Nat} {x : α}, Paired R xs us → xs[i]? = some x → ∃ u, us[i]? = some u ∧ R x u
  | _, _, _, _, .nil, e => by simp at e
  | _, _, 0, _, .cons r _, e => by simp at e; subst e; exact ⟨_, rfl, r⟩
  | _, _, i + 1, x, .cons _ t, e => by
    obtain ⟨u, h1, h2⟩ := paired_get (i := i) (x := x) t (by simpa using e)
    exact ⟨u, by simpa using h1, h2⟩
theorem paired_getR {α β : Type} {R : α → β → Prop} : ∀ {xs : List α} {us : List β} {i : Nat} {u : β}, Paired R xs us → us[i]? = some u → ∃ x, xs[i]? = some x ∧ R x u
  | _, _, _, _, .nil, e => by simp at e
  | _, _, 0, _, .cons r _, e => by simp at e; subst e; exact ⟨_, rfl, r⟩
  | _, _, i + 1, x, .cons _ t, e => by
    obtain ⟨u, h1, h2⟩ := paired_getR (i := i) (u := x) t (by simpa using e)
    exact ⟨u, by simpa using h1, h2⟩
theorem paired_len {α β : Type} {R : α → β → Prop} : ∀ {xs : List α} {us : List β}, Paired R xs us → xs.length = us.length
  | _, _, .nil => rfl
  | _, _, .cons _ t => congrArg Nat.succ (paired_len t)
/-! ### graphs -/
/-- the vertices joined to i by these edges, in the order of the edges -/
def nbr (ps : List (Int × Int)) (i : Int) : List Int := ps.flatMap fun q => (if q.1 = i then [q.2] else []) ++ (if q.2 = i then [q.1] else [])
def RowsAt (H : Hp) (rs : List V) (n : Nat) (ps : List (Int × Int)) : Prop := rs.length = n ∧ ∀ (i : Nat) (x : V), rs[i]? = some x → ∃ t, x = .ref t ∧ H t = some (.tup ((nbr ps (i : Int)).map V.int))
def upto (n : Nat) : List Int := (List.range n).map fun (i : Nat) => (i : Int)
def grFs (n : Nat) (e vt r : Addr) : List (Str × V) := putF "_rows" (.ref r) (putF "_vertices" (.ref vt) (putF "edges" (.ref e) (putF "size" (.int n) [])))
structure GrAt (C : Addr) (H : Hp) (a : Addr) (n : Nat) (ps : List (Int × Int)) : Prop where
  ex : ∃ dx e vt r xs rs, H a = some (.ins C dx (grFs n e vt r)) ∧ H e = some (.tup xs) ∧ PrsAt H xs ps ∧ H vt = some (.tup ((upto n).map V.int)) ∧ H r = some (.tup rs) ∧ RowsAt H rs n ps
theorem GrAt.kp {p C : Addr} {H H' : Hp} {a : Addr} {n : Nat} {ps : List (Int × Int)} (k : KP p H H') (h : GrAt C H a n ps) : GrAt C H' a n ps := by
  obtain ⟨dx, e, vt, r, xs, rs, h1, h2, h3, h4, h5, h6, h7⟩ := h.ex
  refine ⟨dx, e, vt, r, xs, rs, k.ins h1, k.tup h2, h3.kp k, k.tup h4, k.tup h5, h6, fun i x hx => ?_⟩
  obtain ⟨t, e1, e2⟩ := h7 i x hx
  exact ⟨t, e1, k.tup e2⟩
theorem GrAt.tag {C : Addr} {H : Hp} {a : Addr} {n : Nat} {ps : List (Int × Int)} (h : GrAt C H a n ps) : tag C H (.ref a) = some .gr := by
  obtain ⟨dx, e, vt, r, xs, rs, h1, _⟩ := h.ex
  unfold Ev.tag
  dsimp only
  rw [h1]
  dsimp only
  rw [if_pos rfl]
/-! ### values of any kind, alike to a depth -/
def sc : V → Bool
  | .non | .bl _ | .int _ | .str _ => true
  | _ => false
/-- no int here has more than 110 bits -/
def bnd : V → Prop
  | .int i => -1298074214633706907132624082305024 < i ∧ i < 1298074214633706907132624082305024
  | _ => True
def Leaf (C : Addr) (H : Hp) (x y : V) : Prop := (x = y ∧ sc x = true ∧ bnd x) ∨ ∃ a n ps, x = .ref a ∧ y = .ref a ∧ GrAt C H a n ps
def Alk (C : Addr) (S : Addr → Prop) : Nat → Hp → V → V → Prop
  | 0, H, x, y => Leaf C H x y
  | n + 1, H, x, y => Leaf C H x y ∨ ∃ a b xs ys, x = .ref a ∧ y = .ref b ∧ ¬ S a ∧ ¬ S b ∧ ((H a = some (.lst xs) ∧ H b = some (.lst ys)) ∨ (H a = some (.tup xs) ∧ H b = some (.tup ys))) ∧
      xs.length = ys.length ∧ xs.length ≤ 1000 ∧ ∀ (i : Nat) (x y : V), xs[i]? = some x → ys[i]? = some y → Alk C S n H x y
theorem Leaf.kp {C p : Addr} {H H' : Hp} {x y : V} (k : KP p H H') (h : Leaf C H x y) : Leaf C H' x y := by
  rcases h with h | ⟨a, n, ps, e1, e2, g⟩
  · exact .inl h
  · exact .inr ⟨a, n, ps, e1, e2, g.kp k⟩
theorem Leaf.alk {C : Addr} {S : Addr → Prop} {H : Hp} {x y : V} : ∀ {n : Nat}, Leaf C H x y → Alk C S n H x y
  | 0, h => h
  | _ + 1, h => .inl h
theorem Alk.kp {C p : Addr} {S : Addr → Prop} {H H' : Hp} (hp : S p) (k : KP p H H') : ∀ {n : Nat} {x y : V}, Alk C S n H x y → Alk C S n H' x y
  | 0, _, _, h => Leaf.kp k h
  | n + 1, x, y, h => by
    rcases h with h | ⟨a, b, xs, ys, e1, e2, na, nb, ho, hl, hm, hc⟩
    · exact .inl (h.kp k)
    · refine .inr ⟨a, b, xs, ys, e1, e2, na, nb, ?_, hl, hm, fun i x y hx hy => Alk.kp hp k (hc i x y hx hy)⟩
      rcases ho with ⟨h1, h2⟩ | ⟨h1, h2⟩
      · exact .inl ⟨k.ls _ _ (fun z => na (z ▸ hp)) h1, k.ls _ _ (fun z => nb (z ▸ hp)) h2⟩
      · exact .inr ⟨k.tup h1, k.tup h2⟩
theorem Alk.same {C : Addr} {S : Addr → Prop} {H H' : Hp} (s : Same H H') : ∀ {n : Nat} {x y : V}, Alk C S n H x y → Alk C S n H' x y
  | 0, _, _, h => Leaf.kp (p := 0) (.of s) h
  | n + 1, x, y, h => by
    rcases h with h | ⟨a, b, xs, ys, e1, e2, na, nb, ho, hl, hm, hc⟩
    · exact .inl (h.kp (p := 0) (.of s))
    · refine .inr ⟨a, b, xs, ys, e1, e2, na, nb, ?_, hl, hm, fun i x y hx hy => Alk.same s (hc i x y hx hy)⟩
      rcases ho with ⟨h1, h2⟩ | ⟨h1, h2⟩
      · exact .inl ⟨s _ _ h1, s _ _ h2⟩
      · exact .inr ⟨s _ _ h1, s _ _ h2⟩
theorem Alk.more {C : Addr} {S T : Addr → Prop} {H : Hp} (hT : ∀ s, T s → S s ∨ H s = none) : ∀ {n : Nat} {x y : V}, Alk C S n H x y → Alk C T n H x y
  | 0, _, _, h => h
  | n + 1, x, y, h => by
    rcases h with h | ⟨a, b, xs, ys, e1, e2, na, nb, ho, hl, hm, hc⟩
    · exact .inl h
    · have f : ∀ {c : Addr} {o : HO}, ¬ S c → H c = some o → ¬ T c := fun {c o} n e t => by
        rcases hT c t with z | z
        · exact n z
        · rw [z] at e; cases e
      refine .inr ⟨a, b, xs, ys, e1, e2, ?_, ?_, ho, hl, hm, fun i x y hx hy => Alk.more hT (hc i x y hx hy)⟩
      · rcases ho with ⟨h1, _⟩ | ⟨h1, _⟩ <;> exact f na h1
      · rcases ho with ⟨_, h1⟩ | ⟨_, h1⟩ <;> exact f nb h1
theorem Alk.up {C : Addr} {S : Addr → Prop} {H : Hp} : ∀ {n : Nat} {x y : V}, Alk C S n H x y → Alk C S (n + 1) H x y
  | 0, _, _, h => .inl h
  | n + 1, x, y, h => by
    rcases h with h | ⟨a, b, xs, ys, e1, e2, na, nb, ho, hl, hm, hc⟩
    · exact .inl h
    · exact .inr ⟨a, b, xs, ys, e1, e2, na, nb, ho, hl, hm, fun i x y hx hy => Alk.up (hc i x y hx hy)⟩
theorem Leaf.tag {C : Addr} {H : Hp} {x y : V} (h : Leaf C H x y) : ∃ g, tag C H x = some g ∧ tag C H y = some g ∧ g ≠ .lst ∧ g ≠ .tup := by
  rcases h with ⟨e, h, _⟩ | ⟨a, n, ps, e1, e2, g⟩
  · subst e
    cases x with
    | non => exact ⟨.non, rfl, rfl, by decide, by decide⟩
    | bl b => exact ⟨.bl, rfl, rfl, by decide, by decide⟩
    | int b => exact ⟨.int, rfl, rfl, by decide, by decide⟩
    | str b => exact ⟨.str, rfl, rfl, by decide, by decide⟩
    | _ => cases h
  · subst e1 e2
    exact ⟨.gr, g.tag, g.tag, by decide, by decide⟩
theorem tag_lst {C : Addr} {H : Hp} {a : Addr} {xs : List V} (h : H a = some (.lst xs)) : tag C H (.ref a) = some .lst := by
  unfold tag; dsimp only; rw [h]
theorem tag_tup {C : Addr} {H : Hp} {a : Addr} {xs : List V} (h : H a = some (.tup xs)) : tag C H (.ref a) = some .tup := by
  unfold tag; dsimp only; rw [h]
theorem Alk.tag {C : Addr} {S : Addr → Prop} {H : Hp} {n : Nat} {x y : V} (h : Alk C S n H x y) : ∃ g, tag C H x = some g ∧ tag C H y = some g := by
  cases n with
  | zero => obtain ⟨g, h1, h2, _⟩ := Leaf.tag h; exact ⟨g, h1, h2⟩
  | succ n =>
    rcases h with h | ⟨a, b, xs, ys, e1, e2, na, nb, ho, hl, hm, hc⟩
    · obtain ⟨g, h1, h2, _⟩ := h.tag; exact ⟨g, h1, h2⟩
    · subst e1 e2
      rcases ho with ⟨h1, h2⟩ | ⟨h1, h2⟩
      · exact ⟨.lst, tag_lst h1, tag_lst h2⟩
      · exact ⟨.tup, tag_tup h1, tag_tup h2⟩
theorem Leaf.bnd {C : Addr} {H : Hp} {x y : V} (h : Leaf C H x y) : bnd x := by
  rcases h with ⟨_, _, h⟩ | ⟨a, n, ps, e1, e2, g⟩
  · exact h
  · subst e1; exact True.intro
theorem Alk.bnd {C : Addr} {S : Addr → Prop} {H : Hp} {n : Nat} {x y : V} (h : Alk C S n H x y) : bnd x := by
  cases n with
  | zero => exact Leaf.bnd h
  | succ n =>
    rcases h with h | ⟨a, b, xs, ys, e1, e2, _⟩
    · exact h.bnd
    · subst e1; exact True.intro
theorem tag_int {C : Addr} {H : Hp} {x : V} (h : tag C H x = some .int) : ∃ i, x = .int i := by
  cases x with
  | int i => exact ⟨i, rfl⟩
  | ref a =>
    unfold tag at h
    dsimp only at h
    split at h <;> first | cases h | (split at h <;> cases h)
  | _ => cases h
/-! ### the pool of draws -/
def Pool (p l : Addr) (H : Hp) : Prop := ∃ (i : Nat) (j t : Int) (ns : List Int), H p = some (.lst [.ref l, .int i, .int j, .int t]) ∧ l ≠ p ∧ H l = some (.lst (ns.map V.int)) ∧ ns.length ≤ 63
theorem Pool.same {p l : Addr} {H H' : Hp} (s : Same H H') (h : Pool p l H) : Pool p l H' := by
  obtain ⟨i, j, t, ns, h1, h2, h3, h4⟩ := h
  exact ⟨i, j, t, ns, s _ _ h1, h2, s _ _ h3, h4⟩
theorem Pool.put {p l D : Addr} {H : Hp} {o : HO} (h : Pool p l H) (n1 : p ≠ D) (n2 : l ≠ D) : Pool p l (upd H D o) := by
  obtain ⟨i, j, t, ns, h1, h2, h3, h4⟩ := h
  exact ⟨i, j, t, ns, by rw [upd_ne n1]; exact h1, h2, by rw [upd_ne n2]; exact h3, h4⟩
theorem Pool.at_ {p l : Addr} {H : Hp} (h : Pool p l H) : ∃ o, H p = some o := by
  obtain ⟨i, j, t, ns, h1, _⟩ := h
  exact ⟨_, h1⟩
theorem Pool.atl {p l : Addr} {H : Hp} (h : Pool p l H) : ∃ o, H l = some o := by
  obtain ⟨i, j, t, ns, _, _, h1, _⟩ := h
  exact ⟨_, h1⟩
end Ev
namespace Ev
open PySem PySem.Spec PyProof.Rows L2
def top (i : Nat) : Stmt := PySem.Challenge.pw_everypart_k03_union_join_complement.main.body.getD i (.Pass ⟨0, 0, 0, 0⟩)
abbrev s_InvalidGraph___init__ : Stmt := inClass (top 3) 0
abbrev Ns_InvalidGraph___init__ : List Str := ["self", "part", "place"]
theorem scs_InvalidGraph___init__ : FnScope Ns_InvalidGraph___init__ ["self", "part", "place"] (defScope s_InvalidGraph___init__) := ⟨rfl, rfl, rfl, by decide +kernel, rfl, by decide +kernel, by decide +kernel⟩
abbrev s_TooLarge___init__ : Stmt := inClass (top 4) 0
abbrev Ns_TooLarge___init__ : List Str := ["self", "what"]
theorem scs_TooLarge___init__ : FnScope Ns_TooLarge___init__ ["self", "what"] (defScope s_TooLarge___init__) := ⟨rfl, rfl, rfl, by decide +kernel, rfl, by decide +kernel, by decide +kernel⟩
abbrev s_is_integer : Stmt := top 6
abbrev Ns_is_integer : List Str := ["value"]
theorem scs_is_integer : FnScope Ns_is_integer ["value"] (defScope s_is_integer) := ⟨rfl, rfl, rfl, by decide +kernel, rfl, by decide +kernel, by decide +kernel⟩
abbrev s_is_between : Stmt := top 7
abbrev Ns_is_between : List Str := ["value", "least", "greatest"]
theorem scs_is_between : FnScope Ns_is_between ["value", "least", "greatest"] (defScope s_is_between) := ⟨rfl, rfl, rfl, by decide +kernel, rfl, by decide +kernel, by decide +kernel⟩
abbrev s_is_sequence : Stmt := top 8
abbrev Ns_is_sequence : List Str := ["value"]
theorem scs_is_sequence : FnScope Ns_is_sequence ["value"] (defScope s_is_sequence) := ⟨rfl, rfl, rfl, by decide +kernel, rfl, by decide +kernel, by decide +kernel⟩
abbrev s_is_pair : Stmt := top 9
abbrev Ns_is_pair : List Str := ["value"]
theorem scs_is_pair : FnScope Ns_is_pair ["value"] (defScope s_is_pair) := ⟨rfl, rfl, rfl, by decide +kernel, rfl, by decide +kernel, by decide +kernel⟩
abbrev s_is_ascending : Stmt := top 10
abbrev Ns_is_ascending : List Str := ["values", "before", "behind"]
theorem scs_is_ascending : FnScope Ns_is_ascending ["values"] (defScope s_is_ascending) := ⟨rfl, rfl, rfl, by decide +kernel, rfl, by decide +kernel, by decide +kernel⟩
abbrev s_first_fault : Stmt := top 11
abbrev Ns_first_fault : List Str := ["values", "are_right", "place", "value"]
theorem scs_first_fault : FnScope Ns_first_fault ["values", "are_right"] (defScope s_first_fault) := ⟨rfl, rfl, rfl, by decide +kernel, rfl, by decide +kernel, by decide +kernel⟩
abbrev s_require_vertices : Stmt := top 14
abbrev Ns_require_vertices : List Str := ["count", "most"]
theorem scs_require_vertices : FnScope Ns_require_vertices ["count", "most"] (defScope s_require_vertices) := ⟨rfl, rfl, rfl, by decide +kernel, rfl, by decide +kernel, by decide +kernel⟩
abbrev s_is_subset : Stmt := top 16
abbrev Ns_is_subset : List Str := ["value", "size", "vertex"]
theorem scs_is_subset : FnScope Ns_is_subset ["value", "size"] (defScope s_is_subset) := ⟨rfl, rfl, rfl, by decide +kernel, rfl, by decide +kernel, by decide +kernel⟩
abbrev s_vertex_pairs : Stmt := top 17
abbrev Ns_vertex_pairs : List Str := ["subset", "place", "one", "other"]
theorem scs_vertex_pairs : FnScope Ns_vertex_pairs ["subset"] (defScope s_vertex_pairs) := ⟨rfl, rfl, rfl, by decide +kernel, rfl, by decide +kernel, by decide +kernel⟩
abbrev s_Graph___init__ : Stmt := inClass (top 19) 0
abbrev Ns_Graph___init__ : List Str := ["self", "size", "edges", "place"]
theorem scs_Graph___init__ : FnScope Ns_Graph___init__ ["self", "size", "edges"] (defScope s_Graph___init__) := ⟨rfl, rfl, rfl, by decide +kernel, rfl, by decide +kernel, by decide +kernel⟩
abbrev s_Graph___len__ : Stmt := inClass (top 19) 1
abbrev Ns_Graph___len__ : List Str := ["self"]
theorem scs_Graph___len__ : FnScope Ns_Graph___len__ ["self"] (defScope s_Graph___len__) := ⟨rfl, rfl, rfl, by decide +kernel, rfl, by decide +kernel, by decide +kernel⟩
abbrev s_Graph___iter__ : Stmt := inClass (top 19) 2
abbrev Ns_Graph___iter__ : List Str := ["self"]
theorem scs_Graph___iter__ : FnScope Ns_Graph___iter__ ["self"] (defScope s_Graph___iter__) := ⟨rfl, rfl, rfl, by decide +kernel, rfl, by decide +kernel, by decide +kernel⟩
abbrev s_Graph___contains__ : Stmt := inClass (top 19) 3
abbrev Ns_Graph___contains__ : List Str := ["self", "value", "one", "other"]
theorem scs_Graph___contains__ : FnScope Ns_Graph___contains__ ["self", "value"] (defScope s_Graph___contains__) := ⟨rfl, rfl, rfl, by decide +kernel, rfl, by decide +kernel, by decide +kernel⟩
abbrev s_Graph___eq__ : Stmt := inClass (top 19) 4
abbrev Ns_Graph___eq__ : List Str := ["self", "other"]
theorem scs_Graph___eq__ : FnScope Ns_Graph___eq__ ["self", "other"] (defScope s_Graph___eq__) := ⟨rfl, rfl, rfl, by decide +kernel, rfl, by decide +kernel, by decide +kernel⟩
abbrev s_Graph___invert__ : Stmt := inClass (top 19) 5
abbrev Ns_Graph___invert__ : List Str := ["self", "pair"]
theorem scs_Graph___invert__ : FnScope Ns_Graph___invert__ ["self"] (defScope s_Graph___invert__) := ⟨rfl, rfl, rfl, by decide +kernel, rfl, by decide +kernel, by decide +kernel⟩
abbrev s_Graph___add__ : Stmt := inClass (top 19) 6
abbrev Ns_Graph___add__ : List Str := ["self", "other", "size"]
theorem scs_Graph___add__ : FnScope Ns_Graph___add__ ["self", "other"] (defScope s_Graph___add__) := ⟨rfl, rfl, rfl, by decide +kernel, rfl, by decide +kernel, by decide +kernel⟩
abbrev s_Graph___mul__ : Stmt := inClass (top 19) 7
abbrev Ns_Graph___mul__ : List Str := ["self", "other", "size", "between", "one", "two"]
theorem scs_Graph___mul__ : FnScope Ns_Graph___mul__ ["self", "other"] (defScope s_Graph___mul__) := ⟨rfl, rfl, rfl, by decide +kernel, rfl, by decide +kernel, by decide +kernel⟩
abbrev s_first_wrong_edge : Stmt := top 20
abbrev Ns_first_wrong_edge : List Str := ["size", "edges", "edge"]
theorem scs_first_wrong_edge : FnScope Ns_first_wrong_edge ["size", "edges"] (defScope s_first_wrong_edge) := ⟨rfl, rfl, rfl, by decide +kernel, rfl, by decide +kernel, by decide +kernel⟩
abbrev s_is_edge : Stmt := top 21
abbrev Ns_is_edge : List Str := ["value", "size"]
theorem scs_is_edge : FnScope Ns_is_edge ["value", "size"] (defScope s_is_edge) := ⟨rfl, rfl, rfl, by decide +kernel, rfl, by decide +kernel, by decide +kernel⟩
abbrev s_neighbor_rows : Stmt := top 22
abbrev Ns_neighbor_rows : List Str := ["size", "edges", "rows", "one", "other", "_", "row"]
theorem scs_neighbor_rows : FnScope Ns_neighbor_rows ["size", "edges"] (defScope s_neighbor_rows) := ⟨rfl, rfl, rfl, by decide +kernel, rfl, by decide +kernel, by decide +kernel⟩
abbrev s_common_size : Stmt := top 23
abbrev Ns_common_size : List Str := ["one", "other", "size"]
theorem scs_common_size : FnScope Ns_common_size ["one", "other"] (defScope s_common_size) := ⟨rfl, rfl, rfl, by decide +kernel, rfl, by decide +kernel, by decide +kernel⟩
abbrev s_moved_edges : Stmt := top 24
abbrev Ns_moved_edges : List Str := ["edges", "steps", "one", "other"]
theorem scs_moved_edges : FnScope Ns_moved_edges ["edges", "steps"] (defScope s_moved_edges) := ⟨rfl, rfl, rfl, by decide +kernel, rfl, by decide +kernel, by decide +kernel⟩
abbrev s__law_mixed : Stmt := top 26
abbrev Ns__law_mixed : List Str := ["cell", "turn", "first"]
theorem scs__law_mixed : FnScope Ns__law_mixed ["cell", "turn"] (defScope s__law_mixed) := ⟨rfl, rfl, rfl, by decide +kernel, rfl, by decide +kernel, by decide +kernel⟩
abbrev s__law_draw : Stmt := top 27
abbrev Ns__law_draw : List Str := ["pool", "limit", "cell", "digit"]
theorem scs__law_draw : FnScope Ns__law_draw ["pool", "limit"] (defScope s__law_draw) := ⟨rfl, rfl, rfl, by decide +kernel, rfl, by decide +kernel, by decide +kernel⟩
abbrev s__law_edges : Stmt := top 28
abbrev Ns__law_edges : List Str := ["pool", "size", "dense", "found", "a", "b"]
theorem scs__law_edges : FnScope Ns__law_edges ["pool", "size"] (defScope s__law_edges) := ⟨rfl, rfl, rfl, by decide +kernel, rfl, by decide +kernel, by decide +kernel⟩
abbrev s__law_sizes : Stmt := top 29
abbrev Ns__law_sizes : List Str := ["pool", "kind", "one"]
theorem scs__law_sizes : FnScope Ns__law_sizes ["pool"] (defScope s__law_sizes) := ⟨rfl, rfl, rfl, by decide +kernel, rfl, by decide +kernel, by decide +kernel⟩
abbrev s__law_complement : Stmt := top 30
abbrev Ns__law_complement : List Str := ["pair", "found", "at", "a", "b"]
theorem scs__law_complement : FnScope Ns__law_complement ["pair"] (defScope s__law_complement) := ⟨rfl, rfl, rfl, by decide +kernel, rfl, by decide +kernel, by decide +kernel⟩
abbrev s__law_union : Stmt := top 31
abbrev Ns__law_union : List Str := ["one", "other", "moved", "edge"]
theorem scs__law_union : FnScope Ns__law_union ["one", "other"] (defScope s__law_union) := ⟨rfl, rfl, rfl, by decide +kernel, rfl, by decide +kernel, by decide +kernel⟩
abbrev s__law_join : Stmt := top 32
abbrev Ns__law_join : List Str := ["one", "other"]
theorem scs__law_join : FnScope Ns__law_join ["one", "other"] (defScope s__law_join) := ⟨rfl, rfl, rfl, by decide +kernel, rfl, by decide +kernel, by decide +kernel⟩
abbrev s__law_is : Stmt := top 33
abbrev Ns__law_is : List Str := ["graph", "due", "edge"]
theorem scs__law_is : FnScope Ns__law_is ["graph", "due"] (defScope s__law_is) := ⟨rfl, rfl, rfl, by decide +kernel, rfl, by decide +kernel, by decide +kernel⟩
abbrev s__law_sum : Stmt := top 34
abbrev Ns__law_sum : List Str := ["one", "other", "joined", "e"]
theorem scs__law_sum : FnScope Ns__law_sum ["one", "other", "joined"] (defScope s__law_sum) := ⟨rfl, rfl, rfl, by decide +kernel, rfl, by decide +kernel, by decide +kernel⟩
abbrev s__law_sums_right : Stmt := top 35
abbrev Ns__law_sums_right : List Str := ["first", "second", "one", "other", "joined", "told", "due"]
theorem scs__law_sums_right : FnScope Ns__law_sums_right ["first", "second", "one", "other"] (defScope s__law_sums_right) := ⟨rfl, rfl, rfl, by decide +kernel, rfl, by decide +kernel, by decide +kernel⟩
abbrev s__law_asked : Stmt := top 36
abbrev Ns__law_asked : List Str := ["script", "pool", "sizes", "one", "other", "first", "second", "k", "due"]
theorem scs__law_asked : FnScope Ns__law_asked ["script"] (defScope s__law_asked) := ⟨rfl, rfl, rfl, by decide +kernel, rfl, by decide +kernel, by decide +kernel⟩
abbrev s_law : Stmt := top 37
abbrev Ns_law : List Str := ["script"]
theorem scs_law : FnScope Ns_law ["script"] (defScope s_law) := ⟨rfl, rfl, rfl, by decide +kernel, rfl, by decide +kernel, by decide +kernel⟩
end Ev
namespace Ev
open PySem PySem.Spec PyProof.Rows L2
abbrev Ca (P : Program) (w : World) (K : PySem.W.Frag) (mg : Str → Option Value) (base : Heap) (k : Nat) (x : Str) (sp : Sp) : Prop := C8.Cal P w K mg base k x sp []
/-! ### the kinds -/
def spInteger (C : Addr) : Sp := fun vs H Q _ => ∃ v g, vs = [v] ∧ tag C H v = some g ∧ Q (.bl (decide (g = .int))) H
def betw (v : V) (lo hi : Int) : Bool := match v with
  | .int i => decide (lo ≤ i) && decide (i ≤ hi)
  | _ => false
def spBetween (C : Addr) : Sp := fun vs H Q _ => ∃ v g lo hi, vs = [v, .int lo, .int hi] ∧ tag C H v = some g ∧ Q (.bl (betw v lo hi)) H
def spSequence (C : Addr) : Sp := fun vs H Q _ => ∃ v g, vs = [v] ∧ tag C H v = some g ∧ ∀ H', Same H H' → Q (.bl (decide (g = .lst) || decide (g = .tup))) H'
def tupOf (H : Hp) : V → Option (List V)
  | .ref a => match H a with
    | some (.tup xs) => some xs
    | _ => none
  | _ => none
def spPair (C : Addr) : Sp := fun vs H Q _ => ∃ v g, vs = [v] ∧ tag C H v = some g ∧ Q (.bl (match tupOf H v with | some xs => decide (xs.length = 2) | none => false)) H
theorem tag_tupOf {C : Addr} {H : Hp} {v : V} {g : Tg} (h : tag C H v = some g) : (g = .tup ∧ ∃ a xs, v = .ref a ∧ H a = some (.tup xs) ∧ tupOf H v = some xs) ∨ (g ≠ .tup ∧ tupOf H v = none) := by
  cases v with
  | ref a =>
    unfold tag at h
    unfold tupOf
    dsimp only at h ⊢
    split at h
    · rename_i xs e; cases h; exact .inr ⟨by decide, by rw [e]⟩
    · rename_i xs e; cases h; exact .inl ⟨rfl, a, xs, rfl, e, by rw [e]⟩
    · rename_i D dx fs e
      split at h
      · cases h; exact .inr ⟨by decide, by rw [e]⟩
      · cases h
    · cases h
  | non => cases h; exact .inr ⟨by decide, rfl⟩
  | bl b => cases h; exact .inr ⟨by decide, rfl⟩
  | int b => cases h; exact .inr ⟨by decide, rfl⟩
  | str b => cases h; exact .inr ⟨by decide, rfl⟩
  | _ => cases h
section
variable {P : Program} {w : World} {K : PySem.W.Frag} {mg : Str → Option Value} {base : Heap} {C : Addr}
theorem ok_is_integer {x : Str} {st : Stmt} {f : Addr} {fd : FuncData} (F : Fun K "is_integer" "is_integer" s_is_integer f fd) (G : GrT K C) (B : B0 mg) : FnOk P w K mg base CX0 1 f fd ["value"] (spInteger C) := by
  refine F.ok scs_is_integer (fun vs H Q E h => ?_) (fun cdv A outer s H vs Q E hr h => ?_)
  · obtain ⟨v, g, rfl, _⟩ := h
    rfl
  · obtain ⟨v, g, rfl, hg, q⟩ := h
    refine ⟨_, pss_one (ps_ret (pe_and (pe_callB call_isi (by rfl) B.isi (by decide +kernel) (pa_cons (pv 0) (pa_cons (pe_bltn (v := .ty "int") (by rfl) B.int (by decide +kernel) rfl) pa_nil)))
      (pe_one (pe_not (pe_callB call_isi (by rfl) B.isi (by decide +kernel) (pa_cons (pv 0) (pa_cons (pe_bltn (v := .ty "bool") (by rfl) B.bool (by decide +kernel) rfl) pa_nil))))))), ?_⟩
    refine ⟨v, rfl, v, .ty "int", _, _, _, rfl, .ty _, tag_ty G hg, kit_tag G g .int (by decide) (by decide), _, rfl, ?_⟩
    cases e : g.is .int with
    | true =>
      refine iteT ⟨v, rfl, v, .ty "bool", _, _, _, rfl, .ty _, tag_ty G hg, kit_tag G g .bl (by decide) (by decide), _, rfl, ?_⟩
      have : (!(g.is .bl)) = decide (g = .int) := by cases g <;> first | rfl | (cases e)
      rw [this]; exact q
    | false =>
      refine iteF ?_
      have : false = decide (g = .int) := by cases g <;> first | rfl | (cases e)
      rw [this]; exact q
theorem ok_is_between {f : Addr} {fd : FuncData} (F : Fun K "is_between" "is_between" s_is_between f fd) (cI : Ca P w K mg base 1 "is_integer" (spInteger C)) : FnOk P w K mg base CX0 2 f fd ["value", "least", "greatest"] (spBetween C) := by
  refine F.ok scs_is_between (fun vs H Q E h => ?_) (fun cdv A outer s H vs Q E hr h => ?_)
  · obtain ⟨v, g, lo, hi, rfl, _⟩ := h
    rfl
  · obtain ⟨v, g, lo, hi, rfl, hg, q⟩ := h
    refine ⟨_, pss_one (ps_ret (pe_and (C8.pe_c cI hr (by decide) (by rfl) (pa_cons (pv 0) pa_nil))
      (pe_one (pe_chain op_le op_le (pv 1) (pv 0) (pv 2))))), ?_⟩
    refine ⟨v, rfl, v, g, rfl, hg, _, rfl, ?_⟩
    by_cases e : g = .int
    · obtain ⟨i, rfl⟩ := tag_int (e ▸ hg)
      rw [decide_eq_true e]
      refine iteT ⟨_, rfl, _, rfl, _, _, rfl, rfl, _, rfl, ?_⟩
      unfold betw at q
      dsimp only at q
      cases e1 : decide (lo ≤ i) with
      | true => rw [e1] at q; exact iteT ⟨_, rfl, _, _, rfl, rfl, q⟩
      | false => rw [e1] at q; exact iteF q
    · rw [decide_eq_false e]
      refine iteF ?_
      have : betw v lo hi = false := by
        cases v with
        | int i => exact absurd (Option.some.inj hg).symm e
        | _ => rfl
      rw [this] at q
      exact q
theorem ok_is_sequence {f : Addr} {fd : FuncData} (F : Fun K "is_sequence" "is_sequence" s_is_sequence f fd) (G : GrT K C) (B : B0 mg) : FnOk P w K mg base CX0 1 f fd ["value"] (spSequence C) := by
  refine F.ok scs_is_sequence (fun vs H Q E h => ?_) (fun cdv A outer s H vs Q E hr h => ?_)
  · obtain ⟨v, g, rfl, _⟩ := h
    rfl
  · obtain ⟨v, g, rfl, hg, q⟩ := h
    refine ⟨_, pss_one (ps_ret (pe_callB call_isiT (by rfl) B.isi (by decide +kernel) (pa_cons (pv 0) (pa_cons (pe_tup (pa_cons (pe_bltn (v := .ty "list") (by rfl) B.list (by decide +kernel) rfl)
      (pa_cons (pe_bltn (v := .ty "tuple") (by rfl) B.tuple (by decide +kernel) rfl) pa_nil))) pa_nil)))), ?_⟩
    refine ⟨v, rfl, (by show 2 ≤ sizeLine; decide), fun p hp => ?_⟩
    have s1 := same_new (o := .tup [.ty "list", .ty "tuple"]) hp
    have hk : PySem.W.kitAny K (g.v C) [.type "list", .type "tuple"] = some (decide (g = .lst) || decide (g = .tup)) :=
      kitAny_cons (kit_tag G g .lst (by decide) (by decide)) (fun e1 => kitAny_cons (kit_tag G g .tup (by decide) (by decide)) (fun e2 => by
        have : (decide (g = .lst) || decide (g = .tup)) = false := by cases g <;> first | rfl | exact absurd e1 (by decide) | exact absurd e2 (by decide)
        rw [this]; exact kitAny_nil) (fun e2 => by cases g <;> first | rfl | exact absurd e2 (by decide))) (fun e1 => by cases g <;> first | rfl | exact absurd e1 (by decide))
    exact ⟨v, p, _, _, _, _, rfl, upd_same, .cons (.ty _) (.cons (.ty _) .nil), tag_ty G (tag_same s1 hg), hk, q _ s1⟩
theorem ok_is_pair {f : Addr} {fd : FuncData} (F : Fun K "is_pair" "is_pair" s_is_pair f fd) (G : GrT K C) (B : B0 mg) : FnOk P w K mg base CX0 1 f fd ["value"] (spPair C) := by
  refine F.ok scs_is_pair (fun vs H Q E h => ?_) (fun cdv A outer s H vs Q E hr h => ?_)
  · obtain ⟨v, g, rfl, _⟩ := h
    rfl
  · obtain ⟨v, g, rfl, hg, q⟩ := h
    refine ⟨_, pss_one (ps_ret (pe_and (pe_callB call_isi (by rfl) B.isi (by decide +kernel) (pa_cons (pv 0) (pa_cons (pe_bltn (v := .ty "tuple") (by rfl) B.tuple (by decide +kernel) rfl) pa_nil)))
      (pe_one (pe_cmpR op_eq (pe_callB call_len_seq (by rfl) B.len (by decide +kernel) (pa_cons (pv 0) pa_nil)) pe_int (nomark _))))), ?_⟩
    refine ⟨v, rfl, v, .ty "tuple", _, _, _, rfl, .ty _, tag_ty G hg, kit_tag G g .tup (by decide) (by decide), _, rfl, ?_⟩
    rcases tag_tupOf hg with ⟨rfl, a, xs, rfl, ha, ht⟩ | ⟨hn, ht⟩
    · rw [ht] at q
      refine iteT ⟨_, rfl, a, xs, rfl, .inr (.inl (.inl ha)), rfl, ?_⟩
      have : decide (V.int (xs.length : Int) = V.int 2) = decide (xs.length = 2) := by
        by_cases e : xs.length = 2
        · rw [decide_eq_true e, decide_eq_true]; rw [e]; rfl
        · rw [decide_eq_false e, decide_eq_false]; intro z; injection z with z; omega
      rw [this]
      exact q
    · rw [ht] at q
      have : g.is .tup = false := by cases g <;> first | rfl | exact absurd rfl hn
      rw [this]
      exact iteF q
end
end Ev
namespace PySem
open AutoSeq1 (wpAny_loadPart')
theorem ev_meets_enum {v : Value} {o : Obj} {H : Heap → Prop} (B : Begins v o H) :
    Meets (Builtin.«enumerate.__new__» ⟨[.type "enumerate", v], []⟩) (fun _ R s => H s.heap ∧
      R (.ok (.ret (.ref (s.heap.push o).objs.size))) { s with heap := (s.heap.push o).push { cls := .type "enumerate", data := .fields #[.none, .bool false, .ref s.heap.objs.size, rawInt 0, .none, .none] } }) :=
  .of_wp fun prog w A R s h => by
    obtain ⟨hp, g, d, tk, os⟩ := s; obtain ⟨h1, h⟩ := h
    have hsub := sub_enumerate
    have q1 : ∀ {A' : Around} {E : Value → Shared → Prop} {Q : Value → Shared → Prop}, Q (.ref hp.objs.size) ⟨hp.push o, g, d, tk, os⟩ → wpAny (model prog w) A' (pyIter v) Q E ⟨hp, g, d, tk, os⟩ :=
      fun q => B.iter prog w _ _ ⟨hp, g, d, tk, os⟩ _ h1 q
    wp_walk using q1
    refine wpAny_stack_any fun st => wpAny_pure ?_
    split
    · rename_i c _ _ _ _ _
      cases (c == Value.type "enumerate")
      · wp_walk using q1
        exact ⟨_, rfl, h⟩
      · wp_walk using q1
        exact ⟨_, rfl, h⟩
    · wp_walk using q1
      exact ⟨_, rfl, h⟩
theorem ev_call_enum {prog : Program} {w : World} {A : Around} {E : Value → Shared → Prop} {s : Shared} {v : Value} {o : Obj} {H : Heap → Prop} {Q : Value → Shared → Prop} (B : Begins v o H) (h1 : H s.heap)
    (h : ∀ h', IsEnum h' (s.heap.objs.size + 1) s.heap.objs.size 0 .none → h'.get? s.heap.objs.size = some o → h'.objs.size = s.heap.objs.size + 2 →
      (∀ b o, s.heap.get? b = some o → h'.get? b = some o) → Q (.ref (s.heap.objs.size + 1)) { s with heap := h' }) :
    wpAny (model prog w) A (call (.type "enumerate") [v]) Q E s := by
  refine callType_new F.called_enumerate (by decide) (F.typeCall_enumerate_1 _) (F.newCall_enumerate_1 _) (fun obj => F.args_object_init_2 obj _) F.entry_enumerate_new
    (ev_meets_enum B) ⟨h1, ?_⟩
  have hz : (s.heap.push o).objs.size = s.heap.objs.size + 1 := Heap.size_push ..
  show _ ∧ _
  rw [hz]
  have he : IsEnum ((s.heap.push o).push { cls := .type "enumerate", data := .fields #[.none, .bool false, .ref s.heap.objs.size, rawInt 0, .none, .none] }) (s.heap.objs.size + 1) s.heap.objs.size 0 .none := by
    have := Heap.get?_push_size (s.heap.push o) (o := { cls := .type "enumerate", data := .fields #[.none, .bool false, .ref s.heap.objs.size, rawInt 0, .none, .none] }) rfl
    rw [hz] at this; exact this
  exact ⟨⟨_, he, rfl⟩, h _ he (Heap.get?_push_of_some _ (Heap.get?_push_size _ B.free)) (by rw [Heap.size_push, hz]) fun b o x => Heap.get?_push_of_some _ (Heap.get?_push_of_some _ x)⟩
theorem ev_enum_end {prog : Program} {w : World} {A : Around} {E : Value → Shared → Prop} {s : Shared} {e it l : Addr} {i : Nat} {items : Array Value} {old : Value} {Q : Option Value → Shared → Prop} (hh : A.handled = none)
    (he : IsEnum s.heap e it i old) (hit : s.heap.IsTupleIter it l i) (hl : s.heap.IsTuple l items) (hx : items[i]? = none)
    (hQ : ∀ h', Heap.ExtBut it s.heap h' → Q none { s with heap := h' }) : wpAny (model prog w) A (pyNext (.ref e)) Q E s := by
  have hT : s.TypeIs (.ref e) "enumerate" := ⟨_, he, rfl⟩
  unfold pyNext
  refine wpAny_bind (wpAny_attempt (wpAny_callSpecial?_slot (name := Str.ofString "__next__") hT F.slot_enumerate_next
    (wpAny_call_entry F.slot_enumerate_next hT F.entry_enumerate_next ?_ (F.args_enumerate_next_1 _))))
  show wpAny _ _ (field (.ref e) 2 >>= _) _ _ _
  refine wpAny_bind (wpAny_field he rfl (x := .ref it) rfl ?_)
  refine wpAny_bind (wpAny_nextOf_tuple_end hh hit hl hx fun h' x he' hx' => ?_)
  obtain ⟨o, ho, hc⟩ := hx'
  refine wpAny_bind (wpAny_isInstance (T := "StopIteration") (b := true) ⟨o, ho, hc⟩ isSubtype_stop ?_)
  exact wpAny_pure (hQ _ he')
end PySem
namespace Ev
open PySem PySem.Spec PyProof.Rows L2
/-- enumerate of the tuple at a -/
def IteT (K : PySem.W.Frag) (a : Addr) : It :=
  ⟨fun i H => ∃ (xs : List V) (x : V), SqT K H a xs ∧ xs[i]? = some x, fun i H v H' => ∃ T x, v = .ref T ∧ H T = none ∧ H' = upd H T (.tup [.int (i : Nat), x]) ∧ ∀ xs, SqT K H a xs → xs[i]? = some x, fun i H => ∃ xs : List V, SqT K H a xs ∧ xs.length ≤ i⟩
theorem turn_enumT {P : Program} {w : World} {K : PySem.W.Frag} {elts : List Expr} {kk : Nat} {tpos : Pos} (a e it : Addr) :
    Turn P w K (.Tuple elts kk tpos) (IteT K a) [e, it] e (fun i h => (∃ old, IsEnum h e it ((i : Nat) : Int) old) ∧ h.IsTupleIter it a i ∧ e ≠ it ∧ a ≠ it ∧ a ≠ e) where
  mem := by simp
  obj := fun i h st b hb => by
    obtain ⟨⟨old, he⟩, ⟨o, ho, hc, hd⟩, _⟩ := st
    have e' : b = e ∨ b = it := by simpa using hb
    rcases e' with z | z
    · rw [z]; exact ⟨_, he, fun v q => nomatch q⟩
    · rw [z]; exact ⟨o, ho, fun v q => by rw [hd] at q; cases q⟩
  keep := fun i h h' st k => let ⟨⟨old, he⟩, hi, hne⟩ := st; ⟨⟨old, k e (by simp) _ he⟩, (let ⟨o, ho, r⟩ := hi; ⟨o, k it (by simp) o ho, r⟩), hne⟩
  item := by
    intro X hP hw hK hc i pins s σ H E I hf st hg
    subst hP hw hK
    obtain ⟨⟨old, he⟩, hit, hne, hai, hae⟩ := st
    obtain ⟨xs, x, hq, hx⟩ := hg
    obtain ⟨its, rv, p, hz⟩ := I.tuple hq
    obtain ⟨u, hu, ru⟩ := rv.get hx
    have hel : e < s.heap.objs.size := Heap.lt_size he
    have hil : it < s.heap.objs.size := by obtain ⟨_, q, _⟩ := hit; exact Heap.lt_size q
    have hD : Draws X.prog X.w X.A.in1 it [it, a] its.toArray.size (fun i v => its.toArray[i]? = some v) (fun i h => h.IsTupleIter it a i ∧ h.IsTuple a its.toArray) := Draws.tuple (A := X.A.in1) (show X.A.in1.handled = none from I.ok.hd hc) it a hai its.toArray
    have hlt : i < its.toArray.size := by
      have := (List.getElem?_eq_some_iff.mp hu).1
      rw [List.size_toArray]; exact this
    refine wpAny_pyNext_enum_itemD hD he ⟨hit, p⟩ hlt hne (by simp [hne, Ne.symm hae]) fun y h' tk hP ho hst hT hsz hk => ?_
    have hy : y = u := by
      have hP' : its[i]? = some y := by simpa using hP
      exact (Option.some.inj (hu.symm.trans hP')).symm
    subst hy
    refine ⟨_, rfl, wpAny_letOwnedTupleGo_enum (s := { s with heap := h', toks := tk + 1 }) ho fun h'' he' sb => ?_⟩
    have hT2 : h''.get? s.heap.objs.size = some { cls := .type "tuple", data := .seq #[.int i tk, y] } := (sb.2 _ (Nat.ne_of_gt hel)).trans hT
    have new : ObjOk X.prog X.w (upd H s.heap.objs.size (.tup [.int (i : Nat), x])) h'' s.heap.objs.size (.tup [.int (i : Nat), x]) :=
      ⟨by show 2 ≤ sizeLine; decide, [.int i tk, y], .cons ⟨_, rfl⟩ (.cons ru .nil), ⟨_, hT2, rfl, _, rfl⟩⟩
    have I1 : Inv X pins σ (upd H s.heap.objs.size (.tup [.int (i : Nat), x])) { s with heap := h'', toks := tk + 1 } :=
      I.turnedNew (ch := [e, it]) (fun b ob hb q => (sb.2 b (fun z => hb (by simp [z]))).trans (hk b ob (fun z => hb (by simp [z])) (fun z => hb (by simp [z])) q)) hf (Nat.le_refl _) new
    refine ⟨.ref s.heap.objs.size, _, I1, rfl, ⟨_, x, rfl, I.hok.fresh (Nat.le_refl _), rfl, fun ys hy => by
      have := I.tuple_inj hy hq
      rw [this]; exact hx⟩, ⟨⟨y, ?_⟩, (let ⟨o, ho, r⟩ := hst.1; ⟨o, (sb.2 it (Ne.symm hne)).trans ho, r⟩), hne, hai, hae⟩, fun b hb => ?_⟩
    · have e1 : ((i + 1 : Nat) : Int) = (i : Int) + 1 := by omega
      rw [e1]; exact he'
    · have hb' : b < s.heap.objs.size := by
        have e' : b = e ∨ b = it := by simpa using hb
        rcases e' with z | z
        · rw [z]; exact hel
        · rw [z]; exact hil
      rw [upd_ne (Nat.ne_of_lt hb')]
      exact (hf b hb).1
  done := by
    intro X hP hw hK hc i pins s σ H E I hf st hg
    subst hP hw hK
    obtain ⟨⟨old, he⟩, hit, hne, hai, hae⟩ := st
    obtain ⟨xs, hq, hx⟩ := hg
    obtain ⟨its, rv, p, hz⟩ := I.tuple hq
    obtain ⟨f0, f1, f2, f3, f4, f5⟩ := hf it (by simp)
    have hl := rv.length
    have hn : its.toArray[i]? = none := by
      rw [List.getElem?_toArray, List.getElem?_eq_none_iff]; omega
    exact ev_enum_end (I.ok.hd hc) he hit p hn fun h' eb => ⟨rfl, I.turned (t' := s.toks) (fun b o hb q => eb b o hb q) f0 f1 f3 f4 f5⟩
  self := fun A i s Q E st h => let ⟨⟨_, he⟩, _⟩ := st; wpAny_pyIter_enum he h
def iEnumA (K : PySem.W.Frag) (ta : TA) : TI := fun σ H R => ta σ H fun vs H1 => ∃ a xs, vs = [.ref a] ∧ ((SqL K H1 a xs ∧ R (Ite K a) H1) ∨ (SqT K H1 a xs ∧ R (IteT K a) H1))
theorem pi_enumA {X : Cx} {e : Expr} {ta : TA} {p pos tpos : Pos} {elts : List Expr} {kk : Nat} (hg : Gl X "enumerate") (hm : X.mg "enumerate" = none) (ha : PA X [e] ta) (hs : starEach [e] X.env = [(false, eval e X.env)] := by rfl) :
    PI X (.Tuple elts kk tpos) (.Call (.Name "enumerate" p) [e] [] pos) (iEnumA X.K ta) := by
  refine ⟨fun pins s σ H R I h => ?_⟩
  refine Call_ (ld_blt I hg hm boot_enumerate (PyProof.Rows.callWith_type1 (thn (ha.run pos pins s σ H _ I h) fun us s1 ⟨vs, H1, I1, r1, q1⟩ => ?_) hs rfl))
  obtain ⟨a, xs, ex, q1⟩ := q1
  subst ex
  cases r1 with
  | cons r rr =>
    cases rr
    cases r
    have fps : ∀ b ∈ [s1.heap.objs.size + 1, s1.heap.objs.size], FpOk X pins H1 b := fun b hb => by
      have e' : b = s1.heap.objs.size + 1 ∨ b = s1.heap.objs.size := by simpa using hb
      have hle : s1.heap.objs.size ≤ b := by
        rcases e' with z | z
        · rw [z]; exact Nat.le_add_right _ _
        · rw [z]; exact Nat.le_refl _
      exact I1.fpOk hle (I1.hok.fresh hle)
    rcases q1 with ⟨hq, q⟩ | ⟨hq, q⟩
    · obtain ⟨its, rv, p', hz⟩ := I1.list hq
      refine call_enumerate_list p'.isList fun h' he hit hsz hk => wpAny_pyIter_enum he ?_
      have I2 : Inv X pins σ H1 { s1 with heap := h' } := I1.kept (t' := s1.toks) hk
      exact ⟨s1.heap.objs.size + 1, [s1.heap.objs.size + 1, s1.heap.objs.size], _, _, H1, rfl, I2, turn_enum a (s1.heap.objs.size + 1) s1.heap.objs.size, ⟨⟨.none, he⟩, hit, Nat.succ_ne_self _⟩, fps, q⟩
    · obtain ⟨its, rv, p', hz⟩ := I1.tuple hq
      have hal : a < s1.heap.objs.size := by obtain ⟨o, ho, _⟩ := p'; exact Heap.lt_size ho
      refine ev_call_enum (begins_tuple a its.toArray) p' fun h' he hit hsz hk => wpAny_pyIter_enum he ?_
      have I2 : Inv X pins σ H1 { s1 with heap := h' } := I1.kept (t' := s1.toks) hk
      exact ⟨s1.heap.objs.size + 1, [s1.heap.objs.size + 1, s1.heap.objs.size], _, _, H1, rfl, I2, turn_enumT a (s1.heap.objs.size + 1) s1.heap.objs.size, ⟨⟨.none, he⟩, ⟨_, hit, rfl, rfl⟩, Nat.succ_ne_self _, Nat.ne_of_lt hal, Nat.ne_of_lt (Nat.lt_succ_of_lt hal)⟩, fps, q⟩
theorem walk_enumT {K : PySem.W.Frag} {a : Addr} {xs : List V} : Walk (IteT K a) xs.length (fun H => SqT K H a xs) (YPair (fun i => some (.int (i : Nat))) (fun i => xs[i]?)) where
  goes := fun i H hi h => ⟨xs, xs[i], h, List.getElem?_eq_getElem hi⟩
  stops := fun H h => ⟨xs, h, Nat.le_refl _⟩
  yields := fun i H x H' hi h hy => by
    obtain ⟨T, y, rfl, hT, rfl, hx⟩ := hy
    exact ⟨T, _, y, rfl, hT, rfl, rfl, hx xs h⟩
theorem walk_zipT {K : PySem.W.Frag} {a b : Addr} {xs ys : List V} {n : Nat} (hn : n = min xs.length ys.length) : Walk (RZ.ItzT K a b) n (fun H => SqT K H a xs ∧ SqT K H b ys) (YPair (fun i => xs[i]?) (fun i => ys[i]?)) where
  goes := fun i H hi h => ⟨xs, ys, xs[i]'(by omega), ys[i]'(by omega), h.1, h.2, List.getElem?_eq_getElem _, List.getElem?_eq_getElem _⟩
  stops := fun H h => ⟨xs, ys, h.1, h.2, by omega⟩
  yields := fun i H x H' hi h hy => by
    obtain ⟨T, y, z, rfl, hT, rfl, hx, hy⟩ := hy
    exact ⟨T, y, z, rfl, hT, rfl, hx xs h.1, hy ys h.2⟩
end Ev
namespace Ev
open PySem PySem.Spec PyProof.Rows L2
theorem tYes_i {σ : L2.St} {H : Hp} {A B : Hp → Prop} (h : A H) : tYes σ H (fun b H3 => if b = true then A H3 else B H3) := by
  unfold tYes
  dsimp only
  rw [if_pos rfl]
  exact h
def cmpL (ns : List Int) : List Bool := (ns.zip (ns.drop 1)).map fun q => decide (q.1 < q.2)
def asc (ns : List Int) : Bool := (cmpL ns).all id
theorem cmpL_len (ns : List Int) : (cmpL ns).length = ns.length - 1 := by
  unfold cmpL
  rw [List.length_map, List.length_zip, List.length_drop]; omega
theorem cmpL_get {ns : List Int} {i : Nat} {x y : Int} (hx : ns[i]? = some x) (hy : (ns.drop 1)[i]? = some y) : (cmpL ns)[i]? = some (decide (x < y)) := by
  unfold cmpL
  rw [List.getElem?_map]
  have : (ns.zip (ns.drop 1))[i]? = some (x, y) := List.getElem?_zip_eq_some.mpr ⟨hx, hy⟩
  rw [this]; rfl
theorem ints_get {ns : List Int} {i : Nat} {x : V} (h : (ns.map V.int)[i]? = some x) : ∃ n, ns[i]? = some n ∧ x = .int n := by
  rw [List.getElem?_map] at h
  cases e : ns[i]? with
  | none => rw [e] at h; cases h
  | some n => rw [e] at h; exact ⟨n, rfl, (Option.some.inj h).symm⟩
theorem cut1 (xs : List V) : cutV xs (some 1) none = xs.drop 1 := by
  unfold cutV
  rw [show HT.sIx xs.length 0 (some 1) = min 1 xs.length from HT.sIx_nat xs.length 0 1, HT.sIx_none]
  cases xs with
  | nil => rfl
  | cons x r =>
    rw [show min 1 (x :: r).length = 1 by rw [List.length_cons]; omega]
    show (List.take ((x :: r).length - 1) r) = r
    rw [List.length_cons, Nat.add_sub_cancel]
    exact List.take_length
def spAscending : Sp := fun vs H Q _ => ∃ (a : Addr) (ns : List Int), vs = [.ref a] ∧ H a = some (.tup (ns.map V.int)) ∧ ns.length ≤ 1000 ∧ ∀ H', Same H H' → Q (.bl (asc ns)) H'
section
variable {P : Program} {w : World} {K : PySem.W.Frag} {mg : Str → Option Value} {base : Heap} {C : Addr}
theorem ok_is_ascending {f : Addr} {fd : FuncData} (F : Fun K "is_ascending" "is_ascending" s_is_ascending f fd) (B : B0 mg) : FnOk P w K mg base CX0 1 f fd ["values"] spAscending := by
  refine F.ok scs_is_ascending (fun vs H Q E h => ?_) (fun cdv A outer s H vs Q E hr h => ?_)
  · obtain ⟨a, ns, rfl, _⟩ := h
    rfl
  · obtain ⟨a, ns, rfl, ha, hlen, q⟩ := h
    refine ⟨_, pss_one (ps_ret (pe_callB (cr_all rfl) (by rfl) B.all (by decide +kernel) (pa_cons (pe_lc (own := [("before", 1), ("behind", 2)]) (g := gTup K 2 (gCons (gName 1) (gCons (gName 2) gNil))) (tt := tYes) rfl scs_is_ascending.nd
      (RZ.pi_zipA (by rfl) B.zip (pa_cons (pv 0) (pa_cons (pe_slice sl_tupA (pv 0) (po_some pe_int) po_none) pa_nil)))
      (blkOk_by (N := Ns_is_ascending) (sc := defScope s_is_ascending) (by decide +kernel))
      (fun _ _ _ _ _ => pg_tup rfl (pgs_cons (pg_name (i := 1) scs_is_ascending.nd rfl (Or.inl rfl)) (pgs_cons (pg_name (i := 2) scs_is_ascending.nd rfl (Or.inl rfl)) pgs_nil)))
      (fun _ _ _ _ _ => pts_nil) (fun _ _ _ _ _ => pe_cmpR op_lt (pv 1) (pv 2) (nomark _))) pa_nil))), ?_⟩
    refine ⟨.ref a, rfl, .ref a, rfl, 1, rfl, a, ns.map V.int, rfl, .inl (.inl ha), fun hw => ?_, fun hw b hb => ?_⟩
    · have h0 : ns = [] := by
        obtain ⟨h1, _⟩ := hw
        rw [show HT.sIx (ns.map V.int).length 0 (some 1) = min 1 (ns.map V.int).length from HT.sIx_nat _ 0 1, List.length_map] at h1
        cases ns with
        | nil => rfl
        | cons x r => rw [List.length_cons] at h1; omega
      subst h0
      refine ⟨a, a, [], [], rfl, .inr ⟨.inl (.inl ha), .inl (.inl ha), fun D hD => lc_it (walk_zipT (n := 0) rfl) (fun i H' => Same H H' ∧ H' D = some (.lst [])) ⟨same_new hD, upd_same⟩ (fun i H' _ h => ⟨.inl (.inl (h.1 _ _ ha)), .inl (.inl (h.1 _ _ ha))⟩)
        (fun i x H1 H2 hi => absurd hi (Nat.not_lt_zero _)) (fun H' h => ⟨D, [], rfl, .inl (.inl h.2), q _ h.1⟩)⟩⟩
    · have s1 : Same H (upd H b (.tup (cutV (ns.map V.int) (some 1) none))) := same_new hb
      have hb1 : (upd H b (.tup (cutV (ns.map V.int) (some 1) none))) b = some (.tup ((ns.drop 1).map V.int)) := by rw [upd_same, cut1, List.map_drop]
      generalize upd H b (.tup (cutV (ns.map V.int) (some 1) none)) = H1 at s1 hb1 ⊢
      refine ⟨a, b, ns.map V.int, (ns.drop 1).map V.int, rfl, .inr ⟨.inl (.inl (s1 _ _ ha)), .inl (.inl hb1), fun D hD => lc_it (walk_zipT (n := ns.length - 1) (by rw [List.length_map, List.length_map, List.length_drop]; omega))
        (fun i H' => Same H1 H' ∧ H' D = some (.lst (((cmpL ns).take i).map V.bl))) ⟨same_new hD, upd_same⟩ (fun i H' _ h => ⟨.inl (.inl (h.1 _ _ (s1 _ _ ha))), .inl (.inl (h.1 _ _ hb1))⟩) ?_ ?_⟩⟩
      · rintro i x H2 H3 hi ⟨s2, hD2⟩ ⟨T, x1, x2, rfl, hT, rfl, e1, e2⟩
        obtain ⟨n1, g1, rfl⟩ := ints_get e1
        obtain ⟨n2, g2, rfl⟩ := ints_get e2
        refine ⟨T, _, rfl, .inl (.inl upd_same), rfl, _, _, rfl, _, _, rfl, rfl, rfl, ?_⟩
        refine tYes_i ?_
        refine ⟨_, rfl, _, rfl, _, _, rfl, rfl, _, Eq.trans (upd_ne (ne_of_none hD2 hT)) hD2, ?_, ?_⟩
        · rw [List.length_map, List.length_take, cmpL_len]
          exact small1000 (by omega)
        · have nTD : D ≠ T := ne_of_none hD2 hT
          refine ⟨fun c o e => ?_, ?_⟩
          · have hc : c ≠ D := ne_of_none e hD
            rw [upd_ne hc]
            exact same_new hT _ _ (s2 _ _ e)
          · rw [upd_same, List.take_add_one, cmpL_get g1 g2, List.map_append]
            rfl
      · rintro H' ⟨s2, hD2⟩
        have et : (cmpL ns).take (ns.length - 1) = cmpL ns := List.take_of_length_le (by rw [cmpL_len]; exact Nat.le_refl _)
        rw [et] at hD2
        exact ⟨D, cmpL ns, rfl, .inl (.inl hD2), q _ (s1.trans s2)⟩
end
end Ev
namespace Ev
open PySem PySem.Spec PyProof.Rows L2
/-! ### is_subset -/
def intOf : V → Option Int
  | .int i => some i
  | _ => none
def subL (xs : List V) (n : Int) : Bool := xs.all (fun x => betw x 0 (n - 1)) && asc (xs.filterMap intOf)
def subV (H : Hp) (v : V) (n : Int) : Bool := match tupOf H v with
  | some xs => subL xs n
  | none => false
theorem all_ints {xs : List V} {n : Int} (h : xs.all (fun x => betw x 0 (n - 1)) = true) : xs = (xs.filterMap intOf).map V.int := by
  induction xs with
  | nil => rfl
  | cons x r ih =>
    rw [List.all_cons, Bool.and_eq_true] at h
    obtain ⟨h1, h2⟩ := h
    cases x with
    | int i =>
      exact congrArg (V.int i :: ·) (ih h2)
    | _ => cases h1
def spSubset (C : Addr) : Sp := fun vs H Q _ => ∃ v g n, vs = [v, .int n] ∧ tag C H v = some g ∧ (∀ xs, tupOf H v = some xs → xs.length ≤ 1000 ∧ ∀ x ∈ xs, ∃ g, tag C H x = some g) ∧ ∀ H', Same H H' → Q (.bl (subV H v n)) H'
def spEdge (C : Addr) : Sp := fun vs H Q _ => ∃ v n a b, vs = [v, .int n] ∧ PrAt H v (a, b) ∧ 0 ≤ a ∧ a < b ∧ b < n ∧ ∀ H', Same H H' → Q (.bl true) H'
def spRing : Sp := fun vs H Q _ => ∃ a b n : Int, vs = [.int a, .int b, .int n] ∧ Q (.int (if n - b + a < b - a then n - b + a else b - a)) H
section
variable {P : Program} {w : World} {K : PySem.W.Frag} {mg : Str → Option Value} {base : Heap} {C : Addr}
theorem ok_is_subset {f : Addr} {fd : FuncData} (F : Fun K "is_subset" "is_subset" s_is_subset f fd) (G : GrT K C) (B : B0 mg) (cB : Ca P w K mg base 2 "is_between" (spBetween C)) (cA : Ca P w K mg base 1 "is_ascending" spAscending) :
    FnOk P w K mg base CX0 3 f fd ["value", "size"] (spSubset C) := by
  refine F.ok scs_is_subset (fun vs H Q E h => ?_) (fun cdv A outer s H vs Q E hr h => ?_)
  · obtain ⟨v, g, n, rfl, _⟩ := h
    rfl
  · obtain ⟨v, g, n, rfl, hg, hx, q⟩ := h
    refine ⟨_, pss_cons (ps_if (pt_not (pt_val (pe_callB call_isi (by rfl) B.isi (by decide +kernel) (pa_cons (pv 0) (pa_cons (pe_bltn (v := .ty "tuple") (by rfl) B.tuple (by decide +kernel) rfl) pa_nil))))) (pss_one (ps_ret pe_bl)) pss_nil)
      (pss_one (ps_ret (pe_and (pe_callB (cr_all rfl) (by rfl) B.all (by decide +kernel) (pa_cons (pe_lc (own := [("vertex", 2)]) (g := gName 2) (tt := tYes) rfl scs_is_subset.nd (pi_tup (pv 0))
        (blkOk_by (N := Ns_is_subset) (sc := defScope s_is_subset) (by decide +kernel)) (fun _ _ _ _ _ => pg_name (i := 2) scs_is_subset.nd rfl (Or.inl rfl)) (fun _ _ _ _ _ => pts_nil)
        (fun _ _ _ _ _ => C8.pe_c cB (by exact hr) (by decide) (by rfl) (pa_cons (pv 2) (pa_cons pe_int (pa_cons (pe_op op_sub (pv 1) pe_int) pa_nil))))) pa_nil))
        (pe_one (C8.pe_c cA hr (by decide) (by rfl) (pa_cons (pv 0) pa_nil)))))), ?_⟩
    refine ⟨v, rfl, v, .ty "tuple", _, _, _, rfl, .ty _, tag_ty G hg, kit_tag G g .tup (by decide) (by decide), _, rfl, ?_⟩
    rcases tag_tupOf hg with ⟨rfl, a, xs, rfl, ha, ht⟩ | ⟨hn, ht⟩
    · have hq : subV H (.ref a) n = subL xs n := by unfold subV; rw [ht]
      rw [hq] at q
      obtain ⟨hl, hxs⟩ := hx xs ht
      refine iteF ?_
      refine ⟨.ref a, rfl, a, rfl, ⟨_, .inl (.inl ha)⟩, fun D hD => lc_tup (K := K) (a := a) (xs := xs) (fun i H' => Same H H' ∧ H' D = some (.lst (((xs.map fun x => betw x 0 (n - 1)).take i).map V.bl))) ⟨same_new hD, upd_same⟩ (fun i H' _ h => .inl (.inl (h.1 _ _ ha))) ?_ ?_⟩
      · rintro i x H2 hi ⟨s2, hD2⟩
        obtain ⟨g, hgx⟩ := hxs x (List.mem_of_getElem? hi)
        refine ⟨rfl, tYes_i ?_⟩
        refine ⟨_, rfl, _, rfl, _, _, rfl, rfl, x, g, 0, n - 1, rfl, tag_same s2 hgx, _, hD2, ?_, ?_⟩
        · rw [List.length_map, List.length_take, List.length_map]
          exact small1000 (by omega)
        · refine ⟨fun c o e => by rw [upd_ne (ne_of_none e hD)]; exact s2 _ _ e, ?_⟩
          rw [upd_same, List.take_add_one, List.getElem?_map, hi, List.map_append]
          rfl
      · rintro H' ⟨s2, hD2⟩
        have et : (xs.map fun x => betw x 0 (n - 1)).take xs.length = xs.map fun x => betw x 0 (n - 1) := List.take_of_length_le (by rw [List.length_map]; exact Nat.le_refl _)
        rw [et] at hD2
        refine ⟨D, _, rfl, .inl (.inl hD2), _, rfl, ?_⟩
        have eall : (xs.map fun x => betw x 0 (n - 1)).all id = xs.all fun x => betw x 0 (n - 1) := by rw [List.all_map]; rfl
        unfold subL at q
        rw [eall]
        cases e : xs.all fun x => betw x 0 (n - 1) with
        | true =>
          rw [e] at q
          have ex := all_ints e
          refine iteT ⟨_, rfl, a, xs.filterMap intOf, rfl, by rw [← ex]; exact s2 _ _ ha, ?_, fun H3 s3 => q _ (s2.trans s3)⟩
          have := congrArg List.length ex
          rw [List.length_map] at this
          omega
        | false =>
          rw [e] at q
          exact iteF (q _ s2)
    · have hq : subV H v n = false := by unfold subV; rw [ht]
      rw [hq] at q
      have : g.is .tup = false := by cases g <;> first | rfl | exact absurd rfl hn
      rw [this]
      exact iteT (q _ (Same.refl _))
theorem ok_is_edge {f : Addr} {fd : FuncData} (F : Fun K "is_edge" "is_edge" s_is_edge f fd) (cP : Ca P w K mg base 1 "is_pair" (spPair C)) (cS : Ca P w K mg base 3 "is_subset" (spSubset C)) : FnOk P w K mg base CX0 4 f fd ["value", "size"] (spEdge C) := by
  refine F.ok scs_is_edge (fun vs H Q E h => ?_) (fun cdv A outer s H vs Q E hr h => ?_)
  · obtain ⟨v, n, a, b, rfl, _⟩ := h
    rfl
  · obtain ⟨v, n, a, b, rfl, ⟨t, rfl, ht⟩, h0, h1, h2, q⟩ := h
    refine ⟨_, pss_one (ps_ret (pe_and (C8.pe_c cP hr (by decide) (by rfl) (pa_cons (pv 0) pa_nil)) (pe_one (C8.pe_c cS hr (by decide) (by rfl) (pa_cons (pv 0) (pa_cons (pv 1) pa_nil)))))), ?_⟩
    have htt : tupOf H (.ref t) = some [.int a, .int b] := by unfold tupOf; dsimp only; rw [ht]
    refine ⟨_, rfl, .ref t, .tup, rfl, tag_tup ht, _, rfl, ?_⟩
    rw [htt]
    refine iteT ⟨_, rfl, _, rfl, .ref t, .tup, n, rfl, tag_tup ht, fun xs e => ?_, fun H' s' => ?_⟩
    · rw [htt] at e
      cases e
      refine ⟨(by show 2 ≤ 1000; decide), fun x hx => ?_⟩
      rcases List.mem_cons.mp hx with e | hx
      · rw [e]; exact ⟨.int, rfl⟩
      · rcases List.mem_cons.mp hx with e | hx
        · rw [e]; exact ⟨.int, rfl⟩
        · cases hx
    · have : subV H (.ref t) n = true := by
        unfold subV
        rw [htt]
        show ((betw (.int a) 0 (n - 1) && (betw (.int b) 0 (n - 1) && true)) && ((decide (a < b)) && true)) = true
        unfold betw
        simp only [Bool.and_eq_true, decide_eq_true_eq, Bool.and_true]
        omega
      rw [this]
      exact q _ s'
end
end Ev
namespace Ev
open PySem PySem.Spec PyProof.Rows L2
def lexlt (p q : Int × Int) : Prop := p.1 < q.1 ∨ (p.1 = q.1 ∧ p.2 < q.2)
structure Good (n : Int) (ps : List (Int × Int)) : Prop where
  bd : ∀ q ∈ ps, 0 ≤ q.1 ∧ q.1 < q.2 ∧ q.2 < n
  pw : ps.Pairwise lexlt
theorem Good.next {n : Int} {ps : List (Int × Int)} (g : Good n ps) {i : Nat} {p q : Int × Int} (h1 : ps[i]? = some p) (h2 : ps[i + 1]? = some q) : lexlt p q := by
  obtain ⟨a1, b1⟩ := List.getElem?_eq_some_iff.mp h1
  obtain ⟨a2, b2⟩ := List.getElem?_eq_some_iff.mp h2
  have := List.pairwise_iff_getElem.mp g.pw i (i + 1) a1 a2 (Nat.lt_succ_self _)
  rw [b1, b2] at this
  exact this
theorem lex_le {p q : Int × Int} (h : lexlt p q) : Ob.lexAt (fun j => decide ([q.1, q.2].getD j 0 = [p.1, p.2].getD j 0)) (fun j => decide ([q.1, q.2].getD j 0 ≤ [p.1, p.2].getD j 0)) (decide (([q.1, q.2] : List Int).length ≤ ([p.1, p.2] : List Int).length)) 0 (min ([q.1, q.2] : List Int).length ([p.1, p.2] : List Int).length) = false := by
  show (if decide (q.1 = p.1) = true then (if decide (q.2 = p.2) = true then true else decide (q.2 ≤ p.2)) else decide (q.1 ≤ p.1)) = false
  rcases h with h | ⟨h1, h2⟩
  · rw [if_neg (by rw [decide_eq_true_eq]; omega)]
    exact decide_eq_false (by omega)
  · rw [if_pos (by rw [decide_eq_true_eq]; omega), if_neg (by rw [decide_eq_true_eq]; omega)]
    exact decide_eq_false (by omega)
def SeqOf (H : Hp) (e : Addr) (xs : List V) : Prop := H e = some (.lst xs) ∨ H e = some (.tup xs)
theorem SeqOf.same {H H' : Hp} {e : Addr} {xs : List V} (s : Same H H') (h : SeqOf H e xs) : SeqOf H' e xs := h.elim (fun h => .inl (s _ _ h)) fun h => .inr (s _ _ h)
instance (p q : Int × Int) : Decidable (lexlt p q) := inferInstanceAs (Decidable (_ ∨ _))
theorem lex_ge {p q : Int × Int} (h : ¬ lexlt p q) : Ob.lexAt (fun j => decide ([q.1, q.2].getD j 0 = [p.1, p.2].getD j 0)) (fun j => decide ([q.1, q.2].getD j 0 ≤ [p.1, p.2].getD j 0)) (decide (([q.1, q.2] : List Int).length ≤ ([p.1, p.2] : List Int).length)) 0 (min ([q.1, q.2] : List Int).length ([p.1, p.2] : List Int).length) = true := by
  show (if decide (q.1 = p.1) = true then (if decide (q.2 = p.2) = true then true else decide (q.2 ≤ p.2)) else decide (q.1 ≤ p.1)) = true
  unfold lexlt at h
  by_cases h1 : q.1 = p.1
  · rw [if_pos (decide_eq_true h1)]
    by_cases h2 : q.2 = p.2
    · rw [if_pos (decide_eq_true h2)]
    · rw [if_neg (by rw [decide_eq_true_eq]; exact h2)]
      exact decide_eq_true (by omega)
  · rw [if_neg (by rw [decide_eq_true_eq]; exact h1)]
    exact decide_eq_true (by omega)
/-! ### the first fault of a row of which some are right (pairs of ints) -/
def fweL : List (Option (Int × Int)) → (Int × Int) → Option Nat
  | [], _ => none
  | none :: _, _ => some 0
  | some q :: r, b => if b.1 < q.1 ∨ (b.1 = q.1 ∧ b.2 < q.2) then (fweL r q).map (· + 1) else some 0
def atV : Option Nat → V
  | none => .non
  | some k => .int (k : Int)
def OptAt (H : Hp) (xs : List V) (qs : List (Option (Int × Int))) : Prop := xs.length = qs.length ∧ ∀ (i : Nat) (x : V) (q : Int × Int), xs[i]? = some x → qs[i]? = some (some q) → PrAt H x q
theorem OptAt.same {H H' : Hp} {xs : List V} {qs : List (Option (Int × Int))} (s : Same H H') (h : OptAt H xs qs) : OptAt H' xs qs := ⟨h.1, fun i x q h1 h2 => (h.2 i x q h1 h2).kp (p := 0) (.of s)⟩
theorem PrsAt.opt {H : Hp} {xs : List V} {ps : List (Int × Int)} (h : PrsAt H xs ps) : OptAt H xs (ps.map some) := ⟨by rw [List.length_map]; exact paired_len h, fun i x q h1 h2 => by
  obtain ⟨u, e1, e2⟩ := paired_get h h1
  rw [List.getElem?_map, e1] at h2
  cases h2
  exact e2⟩
theorem fweL_some : ∀ {ps : List (Int × Int)} {b : Int × Int}, ps.Pairwise lexlt → (∀ q ∈ ps, lexlt b q) → fweL (ps.map some) b = none
  | [], _, _, _ => rfl
  | q :: r, b, hp, hl => by
    have hq := hl q List.mem_cons_self
    have e : fweL ((q :: r).map some) b = (fweL (r.map some) q).map (· + 1) := if_pos hq
    rw [e, fweL_some (List.pairwise_cons.mp hp).2 (List.pairwise_cons.mp hp).1]
    rfl
def spFF : Sp := fun vs H Q _ => ∃ (e r : Addr) (xs : List V) (qs : List (Option (Int × Int))), vs = [.ref e, .ref r] ∧ SeqOf H e xs ∧ OptAt H xs qs ∧ (∀ q, some q ∈ qs → lexlt (0, 0) q) ∧ H r = some (.lst (qs.map fun o => V.bl o.isSome)) ∧ ∀ H', Same H H' → Q (atV (fweL qs (0, 0))) H'
def FFInv (H : Hp) (e r : Addr) (qs : List (Option (Int × Int))) : Nat → L2.St → Hp → Prop := fun i σ H' => Same H H' ∧ ∃ (y2 y3 : Option V) (q0 : Int × Int), σ = [some (.ref e), some (.ref r), y2, y3] ∧ ((i = 0 ∧ q0 = (0, 0)) ∨ (0 < i ∧ qs[i - 1]? = some (some q0))) ∧ fweL qs (0, 0) = (fweL (qs.drop i) q0).map (· + i)
def spFwe : Sp := fun vs H Q _ => ∃ (n : Int) (e : Addr) (xs : List V) (ps : List (Int × Int)), vs = [.int n, .ref e] ∧ SeqOf H e xs ∧ PrsAt H xs ps ∧ Good n ps ∧ ps.length ≤ 1000 ∧ ∀ H', Same H H' → Q .non H'
/-! ### a walk over a list or a tuple -/
def iSeq (K : PySem.W.Frag) (tl : TE) : TI := fun σ H R => tl σ H fun x H1 => ∃ a xs, x = .ref a ∧ ((SqL K H1 a xs ∧ R (Itl K a) H1) ∨ (SqT K H1 a xs ∧ R (Itt K a) H1))
theorem pi_seq {X : Cx} {tg l : Expr} {tl : TE} (hl : PE X l tl) : PI X tg l (iSeq X.K tl) := by
  refine ⟨fun pins s σ H R I h => ?_⟩
  refine thn (hl.run pins s σ H _ I h) fun v s1 ⟨x, H1, I1, r1, q1⟩ => ?_
  obtain ⟨a, xs, e, q1⟩ := q1
  subst e
  cases r1
  rcases q1 with ⟨hq, q⟩ | ⟨hq, q⟩
  · obtain ⟨its, rv, p, hz⟩ := I1.list hq
    refine wpAny_pyIter_list p.isList ?_
    refine ⟨s1.heap.objs.size, [s1.heap.objs.size], _, _, H1, rfl, I1.kept (t' := s1.toks) fun b o e => Heap.get?_push_of_some _ e, turn_list a _, ⟨_, Heap.get?_push_size _ rfl, rfl, rfl⟩, fun b hb => ?_, q⟩
    have e : b = s1.heap.objs.size := by simpa using hb
    subst e
    exact I1.fpOk (Nat.le_refl _) (I1.hok.fresh (Nat.le_refl _))
  · obtain ⟨its, rv, p, hz⟩ := I1.tuple hq
    refine wpAny_pyIter_tuple (show s1.heap.IsTuple a its.toArray from p) ?_
    refine ⟨s1.heap.objs.size, [s1.heap.objs.size], _, _, H1, rfl, I1.kept (t' := s1.toks) fun b o e => Heap.get?_push_of_some _ e, turn_tuple a _, ⟨_, Heap.get?_push_size _ rfl, rfl, rfl⟩, fun b hb => ?_, q⟩
    have e : b = s1.heap.objs.size := by simpa using hb
    subst e
    exact I1.fpOk (Nat.le_refl _) (I1.hok.fresh (Nat.le_refl _))
section
variable {P : Program} {w : World} {K : PySem.W.Frag} {mg : Str → Option Value} {base : Heap} {C : Addr}
theorem ok_first_fault {f : Addr} {fd : FuncData} (F : Fun K "first_fault" "first_fault" s_first_fault f fd) (B : B0 mg) : FnOk P w K mg base CX0 1 f fd ["values", "are_right"] spFF := by
  refine F.ok scs_first_fault (fun vs H Q E h => ?_) (fun cdv A' outer s H vs Q E hr h => ?_)
  · obtain ⟨e, r, xs, qs, rfl, _⟩ := h
    rfl
  · obtain ⟨e, r, xs, qs, rfl, hS, hO, h00, hR, q⟩ := h
    refine ⟨_, (pss_cons (ps_for PassesOwn.never rfl (pi_enumA (by rfl) B.enumerate (pa_cons (pv 0) pa_nil)) (pg_tup rfl (pgs_cons (pg_name (i := 2) scs_first_fault.nd rfl (Or.inl rfl)) (pgs_cons (pg_name (i := 3) scs_first_fault.nd rfl (Or.inl rfl)) pgs_nil)))
        (pss_one (ps_if (PW.pt (pw_or (pt_not (pt_val (pe_ix ix_list (pv 1) (pv 2) (fun _ _ => rfl)))) (pw_or1 (PW.pt (pw_and (pt_cmpR op_gt (pv 2) pe_int (nomark _)) (pw_and1 (pt_cmpR (op_leT (Nat.lt_of_le_of_lt (Nat.le_add_right _ 64) hr.units)) (pv 3) (pe_ix ix_seq (pv 0) (pe_op op_sub (pv 2) pe_int) (fun _ _ => rfl)) (nomark _))))))))
          (pss_one (ps_ret (pv 2))) pss_nil)))
      (pss_one (ps_ret pe_non))), ?_⟩
    have st0 : FFInv H e r qs 0 [some (.ref e), some (.ref r), none, none] H := ⟨Same.refl _, none, none, (0, 0), rfl, .inl ⟨rfl, rfl⟩, by rw [List.drop_zero]; cases fweL qs (0, 0) <;> rfl⟩
    have hln := hO.1
    have fin : ∀ σ H', FFInv H e r qs xs.length σ H' → Q .non H' := fun σ H' ⟨s1, y2, y3, q0, _, _, hT⟩ => by
      rw [hln, List.drop_of_length_le (Nat.le_refl _)] at hT
      have := q H' s1
      rw [hT] at this
      exact this
    have step : ∀ (i : Nat) (x2 : V) (q0 : Int × Int) (H4 : Hp), Same H H4 → ((i = 0 ∧ q0 = (0, 0)) ∨ (0 < i ∧ qs[i - 1]? = some (some q0))) → fweL qs (0, 0) = (fweL (qs.drop i) q0).map (· + i) → xs[i]? = some x2 →
        (qs[i]? = some none → ∀ H', Same H H' → Q (.int (i : Int)) H') ∧
        (∀ q1, qs[i]? = some (some q1) → PrAt H4 x2 q1 ∧ (lexlt q0 q1 → fweL qs (0, 0) = (fweL (qs.drop (i + 1)) q1).map (· + (i + 1))) ∧ (¬ lexlt q0 q1 → ∀ H', Same H H' → Q (.int (i : Int)) H')) := fun i x2 q0 H4 s4 hp hT hx => by
      have back : (fweL (qs.drop i) q0) = some 0 → ∀ H', Same H H' → Q (.int (i : Int)) H' := fun h H' s' => by
        have := q H' s'
        rw [hT, h] at this
        rw [show (atV ((some 0 : Option Nat).map (· + i))) = V.int (i : Int) from congrArg V.int (by show ((0 + i : Nat) : Int) = _; rw [Nat.zero_add])] at this
        exact this
      refine ⟨fun h => back ?_, fun q1 h => ⟨(hO.2 i x2 q1 hx h).kp (p := 0) (.of s4), fun hl => ?_, fun hl => back ?_⟩⟩
      · obtain ⟨h1, h2⟩ := List.getElem?_eq_some_iff.mp h
        rw [List.drop_eq_getElem_cons h1, h2]
        rfl
      · obtain ⟨h1, h2⟩ := List.getElem?_eq_some_iff.mp h
        rw [hT, List.drop_eq_getElem_cons h1, h2]
        show ((if lexlt q0 q1 then _ else _ : Option Nat)).map _ = _
        rw [if_pos hl, Option.map_map]
        congr 1
        funext k
        show k + 1 + i = k + (i + 1)
        omega
      · obtain ⟨h1, h2⟩ := List.getElem?_eq_some_iff.mp h
        rw [List.drop_eq_getElem_cons h1, h2]
        exact if_neg hl
    rcases hS with h | h
    all_goals
      first
        | refine ⟨.ref e, rfl, e, xs, rfl, .inl ⟨.inl (.inl h), for_it walk_enum (FFInv H e r qs) st0 (fun i σ H' _ k => .inl (.inl (k.1 _ _ h))) ?_ fin⟩⟩
        | refine ⟨.ref e, rfl, e, xs, rfl, .inr ⟨.inl (.inl h), for_it walk_enumT (FFInv H e r qs) st0 (fun i σ H' _ k => .inl (.inl (k.1 _ _ h))) ?_ fin⟩⟩
      rintro i x σ H3 H4 hi ⟨s3, y2, y3, q0, rfl, hq0, hT⟩ ⟨T, x1, x2, rfl, hTn, rfl, e1, e2⟩
      cases e1
      have s4 := s3.trans (same_new (o := .tup [.int (i : Nat), x2]) hTn)
      have hT4 : (upd H3 T (.tup [.int (i : Nat), x2])) T = some (.tup [.int (i : Nat), x2]) := upd_same
      generalize upd H3 T (.tup [.int (i : Nat), x2]) = H5 at s4 hT4 ⊢
      obtain ⟨k1, k2⟩ := step i x2 q0 H5 s4 hq0 hT e2
      have hiq : i < qs.length := by omega
      refine ⟨T, _, rfl, .inl (.inl hT4), rfl, _, _, rfl, _, _, rfl, rfl, ?_⟩
      have hRi : (qs.map fun o => V.bl o.isSome)[i]? = some (.bl (qs[i]'hiq).isSome) := by rw [List.getElem?_map, List.getElem?_eq_getElem hiq]; rfl
      refine ⟨_, rfl, _, rfl, r, _, (i : Int), _, rfl, rfl, SqL.of (s4 _ _ hR), atI_nat hRi, _, rfl, ?_⟩
      cases hqi : qs[i]'hiq with
      | none =>
        have hqi2 : qs[i]? = some none := by rw [List.getElem?_eq_getElem hiq, hqi]
        exact iteT ⟨_, rfl, k1 hqi2 H5 s4⟩
      | some q1 =>
        have hqi2 : qs[i]? = some (some q1) := by rw [List.getElem?_eq_getElem hiq, hqi]
        obtain ⟨⟨t1, rfl, ht1⟩, m1, m2⟩ := k2 q1 hqi2
        refine iteF ?_
        refine ⟨_, rfl, _, _, rfl, rfl, _, rfl, ?_⟩
        rcases hq0 with ⟨h1, rfl⟩ | ⟨h1, h2⟩
        · subst h1
          refine iteF (iteF ?_)
          exact ⟨s4, _, _, q1, rfl, .inr ⟨by omega, hqi2⟩, m1 (h00 q1 (List.mem_of_getElem? hqi2))⟩
        · refine (ite2 (fun c => ?_) (fun c => absurd (decide_eq_true (by omega)) c))
          have hx0 : xs[i - 1]? = some (xs[i - 1]'(by omega)) := List.getElem?_eq_getElem _
          obtain ⟨t0, et0, ht0⟩ := (hO.2 (i - 1) _ q0 hx0 h2).kp (p := 0) (.of s4)
          rw [et0] at hx0
          have hi0 : (i : Int) - 1 = ((i - 1 : Nat) : Int) := by omega
          have hA : atI xs ((i : Int) - 1) = some (.ref t0) := by rw [hi0]; exact atI_nat hx0
          have sq : SqL K H5 e xs ∨ SqT K H5 e xs := by first | exact .inl (.inl (.inl (s4 _ _ h))) | exact .inr (.inl (.inl (s4 _ _ h)))
          refine ⟨_, rfl, _, rfl, _, rfl, _, _, rfl, rfl, ?_⟩
          have go : (rIx K (.ref e) (.int ((i : Int) - 1)) H5 = rIx K (.ref e) (.int ((i : Int) - 1)) H5) := rfl
          by_cases hlt : lexlt q0 q1
          · first
              | refine .inl ⟨e, xs, _, _, rfl, rfl, .inl (.inl (s4 _ _ h)), hA, t1, t0, [q1.1, q1.2], [q0.1, q0.2], rfl, rfl, .inl (.inl ht1), .inl (.inl ht0), _, rfl, ?_⟩
              | refine .inr (.inl ⟨e, xs, _, _, rfl, rfl, .inl (.inl (s4 _ _ h)), hA, t1, t0, [q1.1, q1.2], [q0.1, q0.2], rfl, rfl, .inl (.inl ht1), .inl (.inl ht0), _, rfl, ?_⟩)
            rw [lex_le hlt]
            exact iteF ⟨s4, _, _, q1, rfl, .inr ⟨by omega, hqi2⟩, m1 hlt⟩
          · first
              | refine .inl ⟨e, xs, _, _, rfl, rfl, .inl (.inl (s4 _ _ h)), hA, t1, t0, [q1.1, q1.2], [q0.1, q0.2], rfl, rfl, .inl (.inl ht1), .inl (.inl ht0), _, rfl, ?_⟩
              | refine .inr (.inl ⟨e, xs, _, _, rfl, rfl, .inl (.inl (s4 _ _ h)), hA, t1, t0, [q1.1, q1.2], [q0.1, q0.2], rfl, rfl, .inl (.inl ht1), .inl (.inl ht0), _, rfl, ?_⟩)
            rw [lex_ge hlt]
            exact iteT ⟨_, rfl, m2 hlt H5 s4⟩
theorem ok_first_wrong_edge {f : Addr} {fd : FuncData} (F : Fun K "first_wrong_edge" "first_wrong_edge" s_first_wrong_edge f fd) (B : B0 mg) (c_is_sequence : Ca P w K mg base 1 "is_sequence" (spSequence C)) (c_is_edge : Ca P w K mg base 4 "is_edge" (spEdge C)) (c_first_fault : Ca P w K mg base 1 "first_fault" spFF) : FnOk P w K mg base CX0 5 f fd ["size", "edges"] spFwe := by
  refine F.ok scs_first_wrong_edge (fun vs H Q E h => ?_) (fun cdv A' outer s H vs Q E hr h => ?_)
  · obtain ⟨n, e, xs, ps, rfl, _⟩ := h
    rfl
  · obtain ⟨n, e, xs, ps, rfl, hS, hP, g, hl, q⟩ := h
    refine ⟨_, (pss_cons (ps_if (pt_not (pt_val (C8.pe_c c_is_sequence hr (by decide) (by rfl) (pa_cons (pv 1) pa_nil))))
        (pss_one (ps_ret pe_int)) pss_nil)
      (pss_one (ps_ret (C8.pe_c c_first_fault hr (by decide) (by rfl) (pa_cons (pv 1) (pa_cons (pe_lc (own := [("edge", 2)]) (g := (gName 2)) (tt := tYes) rfl scs_first_wrong_edge.nd (pi_seq (pv 1)) (blkOk_by (N := Ns_first_wrong_edge) (sc := defScope s_first_wrong_edge) (by decide +kernel)) (fun _ _ _ _ _ => (pg_name (i := 2) scs_first_wrong_edge.nd rfl (Or.inl rfl))) (fun _ _ _ _ _ => pts_nil) (fun _ _ _ _ _ => (C8.pe_c c_is_edge (by exact hr) (by decide) (by rfl) (pa_cons (pv 2) (pa_cons (pv 0) pa_nil))))) pa_nil)))))), ?_⟩
    have ht : ∃ t, tag C H (.ref e) = some t ∧ (decide (t = .lst) || decide (t = .tup)) = true := by
      rcases hS with h | h
      · exact ⟨.lst, tag_lst h, rfl⟩
      · exact ⟨.tup, tag_tup h, rfl⟩
    obtain ⟨t, ht, htt⟩ := ht
    refine ⟨_, rfl, .ref e, t, rfl, ht, fun H1 s1 => ⟨_, rfl, ?_⟩⟩
    rw [htt]
    refine iteF ?_
    have hlx : xs.length = ps.length := paired_len hP
    have lex0 : ∀ q ∈ ps, lexlt (0, 0) q := fun q hq => by
      have := g.bd q hq
      unfold lexlt
      show 0 < q.1 ∨ (0 = q.1 ∧ 0 < q.2)
      omega
    have fin : ∀ D H', Same H H' → H' D = some (.lst (xs.map fun _ => V.bl true)) → spFF [.ref e, .ref D] H' Q E := fun D H' s' hD => by
      have s'2 := s'
      refine ⟨e, D, xs, ps.map some, rfl, hS.same s', (hP.kp (p := 0) (.of s')).opt, fun q hq => ?_, ?_, fun H2 s2 => ?_⟩
      · obtain ⟨r, hr, e⟩ := List.mem_map.mp hq
        cases e
        exact lex0 _ hr
      · rw [hD, List.map_map]
        refine congrArg (fun l => some (HO.lst l)) ?_
        refine List.ext_getElem? fun i => ?_
        rw [List.getElem?_map, List.getElem?_map]
        by_cases hi : i < xs.length
        · rw [List.getElem?_eq_getElem hi, List.getElem?_eq_getElem (hlx ▸ hi)]; rfl
        · rw [List.getElem?_eq_none (by omega), List.getElem?_eq_none (by omega)]; rfl
      · rw [fweL_some g.pw lex0]
        exact q _ (s'.trans s2)
    have step : ∀ (D : Addr), H1 D = none → ∀ (i : Nat) (x : V) (H2 : Hp), (Same H1 H2 ∧ H2 D = some (.lst ((xs.map fun _ => V.bl true).take i))) → xs[i]? = some x →
        spEdge C [x, .int n] H2 (fun y H7 => ∃ acc, H7 D = some (.lst acc) ∧ acc.length < sizeLine ∧ (Same H1 (upd H7 D (.lst (acc ++ [y]))) ∧ (upd H7 D (.lst (acc ++ [y]))) D = some (.lst ((xs.map fun _ => V.bl true).take (i + 1))))) E := fun D hD i x H2 ⟨s2, hD2⟩ hx => by
      obtain ⟨q1, hq1, hx2⟩ := paired_get (hP.kp (p := 0) (.of (s1.trans s2))) hx
      have hbd := g.bd q1 (List.mem_of_getElem? hq1)
      refine ⟨x, n, q1.1, q1.2, rfl, hx2, hbd.1, hbd.2.1, hbd.2.2, fun H7 s7 => ⟨_, s7 _ _ hD2, ?_, ?_, ?_⟩⟩
      · rw [List.length_take, List.length_map]
        exact small1000 (by omega)
      · exact fun c o e => by rw [upd_ne (ne_of_none e hD)]; exact s7 _ _ (s2 _ _ e)
      · rw [upd_same, List.take_add_one, List.getElem?_map, hx]
        rfl
    rcases hS with h | h
    · refine ⟨_, rfl, .ref e, rfl, e, xs, rfl, .inl ⟨.inl (.inl (s1 _ _ h)), fun D hD => lc_it (walk_list (xs := xs)) (fun i H' => Same H1 H' ∧ H' D = some (.lst ((xs.map fun _ => V.bl true).take i))) ⟨same_new hD, upd_same⟩ (fun i H' _ h' => .inl (.inl (h'.1 _ _ (s1 _ _ h)))) ?_ ?_⟩⟩
      · rintro i x H2 H3 hi hp ⟨rfl, hx⟩
        refine ⟨rfl, tYes_i ?_⟩
        exact ⟨_, rfl, _, rfl, step D hD i x _ hp hx⟩
      · rintro H' ⟨s2, hD2⟩
        rw [List.take_of_length_le (by rw [List.length_map]; exact Nat.le_refl _)] at hD2
        exact fin D H' (s1.trans s2) hD2
    · refine ⟨_, rfl, .ref e, rfl, e, xs, rfl, .inr ⟨.inl (.inl (s1 _ _ h)), fun D hD => lc_it (walk_tup (xs := xs)) (fun i H' => Same H1 H' ∧ H' D = some (.lst ((xs.map fun _ => V.bl true).take i))) ⟨same_new hD, upd_same⟩ (fun i H' _ h' => .inl (.inl (h'.1 _ _ (s1 _ _ h)))) ?_ ?_⟩⟩
      · rintro i x H2 H3 hi hp ⟨rfl, hx⟩
        refine ⟨rfl, tYes_i ?_⟩
        exact ⟨_, rfl, _, rfl, step D hD i x _ hp hx⟩
      · rintro H' ⟨s2, hD2⟩
        rw [List.take_of_length_le (by rw [List.length_map]; exact Nat.le_refl _)] at hD2
        exact fin D H' (s1.trans s2) hD2
end
end Ev
namespace Ev
open PySem PySem.Spec PyProof.Rows L2
abbrev rTupOf (K : PySem.W.Frag) : List V → Hp → VK → Prop := fun xs H Q => ∃ p ys, xs = [.ref p] ∧ ((SqL K H p ys ∧ ∀ l, H l = none → Q (.ref l) (upd H l (.tup ys))) ∨ (SqT K H p ys ∧ Q (.ref p) H))
/-! ### rows that grow -/
/-- at D a list of new lists, the i-th holds f i -/
structure RowsF (H0 H : Hp) (D : Addr) (ls : List Addr) (f : Nat → List Int) : Prop where
  top : H D = some (.lst (ls.map V.ref))
  nd : ls.Nodup
  nD : D ∉ ls
  new : ∀ l ∈ ls, H0 l = none
  row : ∀ i l, ls[i]? = some l → H l = some (.lst ((f i).map V.int))
theorem RowsF.same {H0 H H' : Hp} {D : Addr} {ls : List Addr} {f : Nat → List Int} (s : Same H H') (r : RowsF H0 H D ls f) : RowsF H0 H' D ls f := ⟨s _ _ r.top, r.nd, r.nD, r.new, fun i l h => s _ _ (r.row i l h)⟩
theorem RowsF.put {H0 H : Hp} {D : Addr} {ls : List Addr} {f : Nat → List Int} (r : RowsF H0 H D ls f) {i0 : Nat} {l0 : Addr} (h0 : ls[i0]? = some l0) (ns : List Int) :
    RowsF H0 (upd H l0 (.lst (ns.map V.int))) D ls (fun i => if i = i0 then ns else f i) where
  top := by
    rw [upd_ne (a := l0) (b := D) (fun z => r.nD (by rw [z]; exact List.mem_of_getElem? h0))]
    exact r.top
  nd := r.nd
  nD := r.nD
  new := r.new
  row := fun i l h => by
    by_cases e : i = i0
    · subst e
      rw [h0] at h
      cases h
      rw [upd_same, if_pos rfl]
    · rw [if_neg e]
      have hne : l ≠ l0 := fun z => e (by
        subst z
        obtain ⟨a1, b1⟩ := List.getElem?_eq_some_iff.mp h
        obtain ⟨a2, b2⟩ := List.getElem?_eq_some_iff.mp h0
        rcases Nat.lt_trichotomy i i0 with q | q | q
        · exact absurd (b1.trans b2.symm) (List.pairwise_iff_getElem.mp r.nd i i0 a1 a2 q)
        · exact q
        · exact absurd (b2.trans b1.symm) (List.pairwise_iff_getElem.mp r.nd i0 i a2 a1 q))
      rw [upd_ne hne]
      exact r.row i l h
theorem RowsF.keep0 {H0 H : Hp} {D : Addr} {ls : List Addr} {f : Nat → List Int} (r : RowsF H0 H D ls f) (s : Same H0 H) {i0 : Nat} {l0 : Addr} (h0 : ls[i0]? = some l0) (o : HO) : Same H0 (upd H l0 o) := fun b u e => by
  rw [upd_ne (ne_of_none e (r.new l0 (List.mem_of_getElem? h0)))]
  exact s _ _ e
theorem nbr_snoc (ps : List (Int × Int)) (q : Int × Int) (i : Int) : nbr (ps ++ [q]) i = nbr ps i ++ ((if q.1 = i then [q.2] else []) ++ (if q.2 = i then [q.1] else [])) := by
  unfold nbr
  rw [List.flatMap_append, List.flatMap_singleton]
theorem nbr_len (i : Int) : ∀ ps : List (Int × Int), (nbr ps i).length ≤ 2 * ps.length
  | [] => Nat.le_refl _
  | q :: r => by
    have ih := nbr_len i r
    unfold nbr at ih ⊢
    rw [List.flatMap_cons, List.length_append, List.length_append, List.length_cons]
    have h1 : (if q.1 = i then [q.2] else []).length ≤ 1 := by split <;> simp
    have h2 : (if q.2 = i then [q.1] else []).length ≤ 1 := by split <;> simp
    omega
def spRows : Sp := fun vs H Q _ => ∃ (n : Nat) (e : Addr) (xs : List V) (ps : List (Int × Int)), vs = [.int (n : Int), .ref e] ∧ n ≤ 24 ∧ H e = some (.tup xs) ∧ PrsAt H xs ps ∧ ps.length ≤ 300 ∧ (∀ q ∈ ps, 0 ≤ q.1 ∧ q.1 < q.2 ∧ q.2 < n) ∧
  ∀ H' r rs, Same H H' → H' r = some (.tup rs) → RowsAt H' rs n ps → Q (.ref r) H'
section
variable {P : Program} {w : World} {K : PySem.W.Frag} {mg : Str → Option Value} {base : Heap} {C : Addr}
theorem ok_neighbor_rows {f : Addr} {fd : FuncData} (F : Fun K "neighbor_rows" "neighbor_rows" s_neighbor_rows f fd) (B : B0 mg) : FnOk P w K mg base CX0 1 f fd ["size", "edges"] spRows := by
  refine F.ok scs_neighbor_rows (fun vs H Q E h => ?_) (fun cdv A outer s H vs Q E hr h => ?_)
  · obtain ⟨n, e, xs, ps, rfl, _⟩ := h
    rfl
  · obtain ⟨n, e, xs, ps, rfl, hn, he, hP, hpl, hbd, q⟩ := h
    refine ⟨_, pss_cons (ps_setLc (i := 2) (own := [("_", 5)]) (g := gName 5) (tt := tYes) rfl scs_neighbor_rows.nd rfl rfl (sw_true rfl rfl rfl (by decide +kernel)) (pi_range1 rfl B.range (pa_cons (pv 0) pa_nil))
        (blkOk_by (N := Ns_neighbor_rows) (sc := defScope s_neighbor_rows) (by decide +kernel)) (fun _ _ _ _ _ => pg_name (i := 5) scs_neighbor_rows.nd rfl (Or.inl rfl)) (fun _ _ _ _ _ => pts_nil) (fun _ _ _ _ _ => pe_lst pa_nil))
      (pss_cons (ps_for PassesOwn.never rfl (pi_tup (pv 1)) (pg_tup rfl (pgs_cons (pg_name (i := 3) scs_neighbor_rows.nd rfl (Or.inl rfl)) (pgs_cons (pg_name (i := 4) scs_neighbor_rows.nd rfl (Or.inl rfl)) pgs_nil)))
        (pss_cons (ps_expr (pe_bm PySem.F.plainAttrs_list PySem.F.slot_list_append PySem.F.type_list_append mt_append (pe_ix ix_list (pv 2) (pv 3) (fun _ _ => rfl)) (pa_cons (pv 4) pa_nil)))
        (pss_one (ps_expr (pe_bm PySem.F.plainAttrs_list PySem.F.slot_list_append PySem.F.type_list_append mt_append (pe_ix ix_list (pv 2) (pv 4) (fun _ _ => rfl)) (pa_cons (pv 3) pa_nil))))))
      (pss_one (ps_ret (pe_callTy call_tuple_of (by rfl) B.tuple (by decide +kernel) (pa_cons (pe_lc (own := [("row", 6)]) (g := gName 6) (tt := tYes) (te := tCB (rTupOf K) (tCons (tVar 6) tNil)) rfl scs_neighbor_rows.nd (pi_list (pv 2))
        (blkOk_by (N := Ns_neighbor_rows) (sc := defScope s_neighbor_rows) (by decide +kernel)) (fun _ _ _ _ _ => pg_name (i := 6) scs_neighbor_rows.nd rfl (Or.inl rfl)) (fun _ _ _ _ _ => pts_nil)
        (fun _ _ _ _ _ => by exact pe_callTy call_tuple_of (by rfl) B.tuple (by decide +kernel) (pa_cons (pv 6) pa_nil))) pa_nil))))), ?_⟩
    refine ⟨_, rfl, (n : Int), rfl, by omega, by omega, fun D hD => lc_range (lo := 0) (n := ((n : Nat) : Int).toNat) (fun i H' => Same H H' ∧ ∃ ls, ls.length = i ∧ RowsF H H' D ls (fun _ => [])) ⟨same_new hD, [], rfl, upd_same, .nil, by simp, by simp, by simp⟩ ?_ ?_⟩
    · rintro i H2 hi ⟨s2, ls, hl, r⟩
      refine ⟨rfl, tYes_i ?_⟩
      refine ⟨Nat.zero_le _, fun l hl0 => ?_⟩
      have sl := same_new (o := .lst []) hl0
      refine ⟨ls.map V.ref, sl _ _ r.top, ?_, ?_, ls ++ [l], ?_, ?_⟩
      · rw [List.length_map, hl]; exact small1000 (by omega)
      · exact fun c o e => by rw [upd_ne (ne_of_none e hD)]; exact sl _ _ (s2 _ _ e)
      · rw [List.length_append, hl]; rfl
      · have hDl : D ≠ l := ne_of_none r.top hl0
        have hln : l ∉ ls := fun hm => by
          obtain ⟨j, hj⟩ := List.getElem?_of_mem hm
          have := r.row j l hj
          rw [hl0] at this
          cases this
        refine ⟨by rw [upd_same, List.map_append]; rfl, ?_, ?_, ?_, ?_⟩
        · rw [List.nodup_append]
          exact ⟨r.nd, by simp, fun a ha b hb => by
            rw [List.mem_singleton.mp hb]
            exact fun z => hln (z ▸ ha)⟩
        · intro hm
          rcases List.mem_append.mp hm with hm | hm
          · exact r.nD hm
          · exact hDl (List.mem_singleton.mp hm)
        · intro m hm
          rcases List.mem_append.mp hm with hm | hm
          · exact r.new m hm
          · rw [List.mem_singleton.mp hm]; exact s2.free hl0
        · intro j m hj
          have hm : m ∈ ls ++ [l] := List.mem_of_getElem? hj
          have hmD : m ≠ D := fun z => by
            rcases List.mem_append.mp hm with hm | hm
            · exact r.nD (z ▸ hm)
            · exact hDl (z.symm.trans (List.mem_singleton.mp hm))
          rw [upd_ne hmD]
          rcases List.mem_append.mp hm with hm | hm
          · obtain ⟨j2, hj2⟩ := List.getElem?_of_mem hm
            exact sl _ _ (r.row j2 m hj2)
          · rw [List.mem_singleton.mp hm]; exact upd_same
    · rintro H1 ⟨s1, ls, hl, r⟩
      rw [Int.toNat_natCast] at hl
      have he1 := s1 _ _ he
      refine ⟨.ref e, rfl, e, rfl, ⟨_, .inl (.inl he1)⟩, for_tup (K := K) (a := e) (xs := xs) (fun i σ H' => Same H H' ∧ RowsF H H' D ls (fun j => nbr (ps.take i) (j : Int)) ∧ ∃ y3 y4, σ = [some (.int (n : Int)), some (.ref e), some (.ref D), y3, y4, none, none]) ⟨s1, r, none, none, rfl⟩
        (fun i σ H' _ h => .inl (.inl (h.1 _ _ he))) ?_ ?_⟩
      · rintro i x σ H2 hx ⟨s2, r2, y3, y4, rfl⟩
        obtain ⟨p, hp, t, rfl, ht⟩ := paired_get (hP.kp (p := 0) (.of s2)) hx
        have hb := hbd p (List.mem_of_getElem? hp)
        obtain ⟨a, ea⟩ : ∃ a : Nat, p.1 = a := ⟨p.1.toNat, by omega⟩
        obtain ⟨b, eb⟩ : ∃ b : Nat, p.2 = b := ⟨p.2.toNat, by omega⟩
        have ha : a < ls.length := by omega
        have hb2 : b < ls.length := by omega
        have ga : (ls.map V.ref)[a]? = some (.ref ls[a]) := by rw [List.getElem?_map, List.getElem?_eq_getElem ha]; rfl
        have gb : (ls.map V.ref)[b]? = some (.ref ls[b]) := by rw [List.getElem?_map, List.getElem?_eq_getElem hb2]; rfl
        refine ⟨t, _, rfl, .inl (.inl ht), rfl, _, _, rfl, _, _, rfl, rfl, ?_⟩
        have h1 := r2.row a _ (List.getElem?_eq_getElem ha)
        have hsz : ∀ j : Nat, ((nbr (ps.take i) (j : Int)).map V.int).length < sizeLine := fun j => by
          rw [List.length_map]
          have := nbr_len (j : Int) (ps.take i)
          rw [List.length_take] at this
          exact small1000 (by omega)
        refine ⟨_, rfl, _, rfl, D, _, p.1, .ref ls[a], rfl, rfl, .inl (.inl r2.top), (by rw [ea]; exact atI_nat ga), .inl ⟨rfl, _, .inl (.inl h1)⟩, _, rfl, _, _, _, rfl, rfl, h1, hsz a, ?_⟩
        have r3 := r2.put (List.getElem?_eq_getElem ha) (nbr (ps.take i) (a : Int) ++ [p.2])
        have s3 := r2.keep0 s2 (List.getElem?_eq_getElem ha) (.lst ((nbr (ps.take i) (a : Int) ++ [p.2]).map V.int))
        have e3 : (nbr (ps.take i) (a : Int)).map V.int ++ [V.int p.2] = (nbr (ps.take i) (a : Int) ++ [p.2]).map V.int := by rw [List.map_append]; rfl
        rw [e3]
        generalize upd H2 ls[a] (.lst ((nbr (ps.take i) (a : Int) ++ [p.2]).map V.int)) = H3 at r3 s3 ⊢
        have hab : b ≠ a := by omega
        have h2 := r3.row b _ (List.getElem?_eq_getElem hb2)
        rw [if_neg hab] at h2
        refine ⟨_, rfl, _, rfl, D, _, p.2, .ref ls[b], rfl, rfl, .inl (.inl r3.top), (by rw [eb]; exact atI_nat gb), .inl ⟨rfl, _, .inl (.inl h2)⟩, _, rfl, _, _, _, rfl, rfl, h2, hsz b, ?_⟩
        have r4 := r3.put (List.getElem?_eq_getElem hb2) (nbr (ps.take i) (b : Int) ++ [p.1])
        have s4 := r3.keep0 s3 (List.getElem?_eq_getElem hb2) (.lst ((nbr (ps.take i) (b : Int) ++ [p.1]).map V.int))
        have e4 : (nbr (ps.take i) (b : Int)).map V.int ++ [V.int p.1] = (nbr (ps.take i) (b : Int) ++ [p.1]).map V.int := by rw [List.map_append]; rfl
        rw [e4]
        refine ⟨s4, ?_, _, _, rfl⟩
        have ef : (fun j : Nat => if j = b then nbr (ps.take i) (b : Int) ++ [p.1] else if j = a then nbr (ps.take i) (a : Int) ++ [p.2] else nbr (ps.take i) (j : Int)) = fun j : Nat => nbr (ps.take (i + 1)) (j : Int) := by
          funext j
          rw [List.take_add_one, hp]
          show _ = nbr (ps.take i ++ [p]) (j : Int)
          rw [nbr_snoc]
          by_cases h1 : j = b
          · subst h1
            rw [if_pos rfl, if_neg (by omega), if_pos (by omega)]
            rfl
          · rw [if_neg h1]
            by_cases h2 : j = a
            · subst h2
              rw [if_pos rfl, if_pos (by omega), if_neg (by omega)]
              rfl
            · rw [if_neg h2, if_neg (by omega), if_neg (by omega)]
              simp
        rw [← ef]
        exact r4
      · rintro σ H2 ⟨s2, r2, y3, y4, rfl⟩
        have ett : ps.take xs.length = ps := List.take_of_length_le (by rw [paired_len hP]; exact Nat.le_refl _)
        rw [ett] at r2
        refine ⟨_, rfl, D, rfl, ⟨_, .inl (.inl r2.top)⟩, fun D2 hD2 => lc_list (K := K) (a := D) (xs := ls.map V.ref) (fun i H' => Same H2 H' ∧ ∃ rs, H' D2 = some (.lst rs) ∧ rs.length = i ∧ ∀ (j : Nat) (x : V), rs[j]? = some x → ∃ t, x = .ref t ∧ H' t = some (.tup ((nbr ps (j : Int)).map V.int)))
          ⟨same_new hD2, [], upd_same, rfl, by simp⟩ (fun i H' _ h => .inl (.inl (h.1 _ _ r2.top))) ?_ ?_⟩
        · rintro i x H3 hx ⟨s3, rs, hD3, hl3, hr3⟩
          rw [List.getElem?_map] at hx
          cases el : ls[i]? with
          | none => rw [el] at hx; cases hx
          | some l =>
            rw [el] at hx
            cases hx
            refine ⟨rfl, tYes_i ?_⟩
            refine ⟨_, rfl, l, _, rfl, .inl ⟨.inl (.inl (s3 _ _ (r2.row i l el))), fun t ht => ?_⟩⟩
            have st := same_new (o := .tup ((nbr ps (i : Int)).map V.int)) ht
            have hi3 : i < ls.length := (List.getElem?_eq_some_iff.mp el).1
            refine ⟨rs, st _ _ hD3, small1000 (by omega), fun c o e => by rw [upd_ne (ne_of_none e hD2)]; exact st _ _ (s3 _ _ e), rs ++ [.ref t], upd_same, by rw [List.length_append, hl3]; rfl, fun j y hy => ?_⟩
            have kp : KP D2 H3 (upd (upd H3 t (.tup ((nbr ps (i : Int)).map V.int))) D2 (.lst (rs ++ [.ref t]))) := (KP.of st).trans (KP.put (st _ _ hD3))
            by_cases hj : j < rs.length
            · rw [List.getElem?_append_left hj] at hy
              obtain ⟨t2, e2, h2⟩ := hr3 j y hy
              exact ⟨t2, e2, kp.tup h2⟩
            · rw [List.getElem?_append_right (by omega)] at hy
              have ej : j - rs.length = 0 := by
                have := (List.getElem?_eq_some_iff.mp hy).1
                simp at this
                omega
              rw [ej] at hy
              cases hy
              have ej2 : j = i := by omega
              subst ej2
              exact ⟨t, rfl, (KP.put (p := D2) (st _ _ hD3)).tup upd_same⟩
        · rintro H3 ⟨s3, rs, hD3, hl3, hr3⟩
          rw [List.length_map] at hl3
          refine ⟨D2, rs, rfl, .inl ⟨.inl (.inl hD3), fun r hr => ?_⟩⟩
          have sr := same_new (o := .tup rs) hr
          exact q _ r rs (s2.trans (s3.trans sr)) upd_same ⟨hl3.trans hl, fun j x hx => let ⟨t, e1, e2⟩ := hr3 j x hx; ⟨t, e1, sr _ _ e2⟩⟩
end
end Ev
namespace Ev
open PySem PySem.Spec PyProof.Rows L2
structure GrA (K : PySem.W.Frag) (C : Addr) : Prop where
  s : NoAttr K C "size"
  e : NoAttr K C "edges"
  v : NoAttr K C "_vertices"
  r : NoAttr K C "_rows"
theorem prs_tup {H H' : Hp} (k : ∀ b zs, H b = some (.tup zs) → H' b = some (.tup zs)) : ∀ {xs : List V} {ps : List (Int × Int)}, PrsAt H xs ps → PrsAt H' xs ps
  | _, _, .nil => .nil
  | _, _, .cons ⟨t, e, h⟩ r => .cons ⟨t, e, k _ _ h⟩ (prs_tup k r)
theorem rg_upto (n : Nat) : rgV 0 (n : Int) = (upto n).map V.int := by
  unfold rgV upto
  rw [List.map_map, show ((n : Int) - 0).toNat = n by omega]
  refine List.map_congr_left fun i _ => ?_
  show V.int (0 + (i : Int)) = V.int (i : Int)
  rw [Int.zero_add]
def spInit (C : Addr) : Sp := fun vs H Q _ => ∃ (g dx e : Addr) (n : Nat) (xs : List V) (ps : List (Int × Int)), vs = [.ref g, .int (n : Int), .ref e] ∧ 1 ≤ n ∧ n ≤ 24 ∧ H g = some (.ins C dx []) ∧ SeqOf H e xs ∧ PrsAt H xs ps ∧ ps.length ≤ 300 ∧ Good n ps ∧
  ∀ H', (∀ b o, b ≠ g → H b = some o → H' b = some o) → GrAt C H' g n ps → Q .non H'
section
variable {P : Program} {w : World} {K : PySem.W.Frag} {mg : Str → Option Value} {base : Heap} {C : Addr}
theorem ok_init {f : Addr} {fd : FuncData} (F : Fun K "__init__" "Graph.__init__" s_Graph___init__ f fd) (G : GrT K C) (A : GrA K C) (B : B0 mg) (hM : ∃ u, mg "MOST_VERTICES" = some u ∧ RelV (.int 24) u)
    (cB : Ca P w K mg base 2 "is_between" (spBetween C)) (cF : Ca P w K mg base 5 "first_wrong_edge" spFwe) (cR : Ca P w K mg base 1 "neighbor_rows" spRows) : FnOk P w K mg base CX0 6 f fd ["self", "size", "edges"] (spInit C) := by
  refine F.ok scs_Graph___init__ (fun vs H Q E h => ?_) (fun cdv A' outer s H vs Q E hr h => ?_)
  · obtain ⟨g, dx, e, n, xs, ps, rfl, _⟩ := h
    rfl
  · obtain ⟨g, dx, e, n, xs, ps, rfl, h1, h24, hg, hS, hP, hpl, hG, q⟩ := h
    refine ⟨_, pss_cons (ps_if (pt_not (pt_val (C8.pe_c cB hr (by decide) (by rfl) (pa_cons (pv 1) (pa_cons pe_int (pa_cons (C8.pe_gc (by rfl) hM) pa_nil)))))) (pss_one ps_never) pss_nil)
      (pss_cons (ps_set (i := 3) scs_Graph___init__.nd rfl (Or.inl rfl) (C8.pe_c cF hr (by decide) (by rfl) (pa_cons (pv 1) (pa_cons (pv 2) pa_nil))))
      (pss_cons (ps_if (pt_cmpR op_notN (pv 3) pe_non (nomark _)) (pss_one ps_never) pss_nil)
      (pss_cons (ps_fld (pv 0) (pv 1) rfl)
      (C8.pss_cut (ps_fld (pv 0) (pe_callTy call_tuple_of (by rfl) B.tuple (by decide +kernel) (pa_cons (pv 2) pa_nil)) rfl)
      (pss_cons (ps_fld (pv 0) (pe_tupRg rfl (by rfl) B.tuple (prg_1 (by rfl) B.range (pv 1))) rfl)
      (pss_one (ps_fld (pv 0) (C8.pe_c cR hr (by decide) (by rfl) (pa_cons (pv 1) (pa_cons (pe_fld (pv 0) rfl) pa_nil))) rfl))))))), ?_⟩
    refine ⟨_, rfl, .int (n : Int), .int, 1, 24, rfl, rfl, _, rfl, ?_⟩
    have eb : betw (.int (n : Int)) 1 24 = true := by
      unfold betw
      simp only [Bool.and_eq_true, decide_eq_true_eq]
      omega
    rw [eb]
    refine iteF ?_
    refine ⟨_, rfl, _, rfl, (n : Int), e, xs, ps, rfl, hS, hP, hG, by omega, fun H1 s1 => ?_⟩
    refine ⟨_, rfl, rfl, _, rfl, iteF ?_⟩
    have hg1 := s1 _ _ hg
    have hS1 := hS.same s1
    have hP1 : PrsAt H1 xs ps := hP.kp (p := 0) (.of s1)
    refine ⟨_, rfl, _, rfl, g, C, dx, [], rfl, hg1, G.cl, A.s, (by show 0 < 1000; decide), ?_⟩
    have k1 : ∀ b o, b ≠ g → H b = some o → (upd H1 g (.ins C dx (putF "size" (.int (n : Int)) []))) b = some o := fun b o hb e => by rw [upd_ne hb]; exact s1 _ _ e
    have hg2 : (upd H1 g (.ins C dx (putF "size" (.int (n : Int)) []))) g = some (.ins C dx (putF "size" (.int (n : Int)) [])) := upd_same
    have hS2 : SeqOf (upd H1 g (.ins C dx (putF "size" (.int (n : Int)) []))) e xs := by
      rcases hS1 with h | h
      · exact .inl (by rw [upd_ne (ne_of h hg1 (fun z => nomatch z))]; exact h)
      · exact .inr (by rw [upd_ne (ne_of h hg1 (fun z => nomatch z))]; exact h)
    have hP2 : PrsAt (upd H1 g (.ins C dx (putF "size" (.int (n : Int)) []))) xs ps := prs_tup (fun b zs h => by rw [upd_ne (ne_of h hg1 (fun z => nomatch z))]; exact h) hP1
    generalize upd H1 g (.ins C dx (putF "size" (.int (n : Int)) [])) = H2 at k1 hg2 hS2 hP2 ⊢
    -- self.edges = tuple(edges)
    refine ⟨fun σ' H' => σ' = [some (.ref g), some (.int (n : Int)), some (.ref e), some .non] ∧ ∃ t, (∀ b o, b ≠ g → H b = some o → H' b = some o) ∧ H' g = some (.ins C dx (putF "edges" (.ref t) (putF "size" (.int (n : Int)) []))) ∧ H' t = some (.tup xs) ∧ PrsAt H' xs ps, ?_, ?_⟩
    · rcases hS2 with h | h
      · refine ⟨_, rfl, e, xs, rfl, .inl ⟨.inl (.inl h), fun t ht => ?_⟩⟩
        have st := same_new (o := .tup xs) ht
        refine ⟨_, rfl, g, C, dx, _, rfl, st _ _ hg2, G.cl, A.e, (by show 1 < 1000; decide), rfl, t, fun b o hb z => by rw [upd_ne hb]; exact st _ _ (k1 b o hb z), upd_same, ?_, ?_⟩
        · rw [upd_ne (fun z => ne_of_none hg2 ht z.symm)]; exact upd_same
        · exact prs_tup (fun b zs h => by rw [upd_ne (ne_of h hg2 (fun z => nomatch z))]; exact st _ _ h) hP2
      · refine ⟨_, rfl, e, xs, rfl, .inr ⟨.inl (.inl h), ?_⟩⟩
        refine ⟨_, rfl, g, C, dx, _, rfl, hg2, G.cl, A.e, (by show 1 < 1000; decide), rfl, e, fun b o hb z => by rw [upd_ne hb]; exact k1 b o hb z, upd_same, ?_, ?_⟩
        · rw [upd_ne (ne_of h hg2 (fun z => nomatch z))]; exact h
        · exact prs_tup (fun b zs h => by rw [upd_ne (ne_of h hg2 (fun z => nomatch z))]; exact h) hP2
    · rintro σ' H3 ⟨rfl, t, k3, hg3, ht3, hP3⟩
      refine ⟨_, rfl, (n : Int), rfl, RgOk.of_le (by omega) (by omega) (by omega) (by omega), fun vt hvt => ?_⟩
      rw [rg_upto]
      have sv := same_new (o := .tup ((upto n).map V.int)) hvt
      refine ⟨_, rfl, g, C, dx, _, rfl, sv _ _ hg3, G.cl, A.v, (by show 2 < 1000; decide), ?_⟩
      have hvg : vt ≠ g := fun z => ne_of_none hg3 hvt z.symm
      have htg : t ≠ g := ne_of ht3 hg3 (fun z => nomatch z)
      have hvt4 : (upd (upd H3 vt (.tup ((upto n).map V.int))) g (.ins C dx (putF "_vertices" (.ref vt) (putF "edges" (.ref t) (putF "size" (.int (n : Int)) []))))) vt = some (.tup ((upto n).map V.int)) := by rw [upd_ne hvg]; exact upd_same
      have ht4 : (upd (upd H3 vt (.tup ((upto n).map V.int))) g (.ins C dx (putF "_vertices" (.ref vt) (putF "edges" (.ref t) (putF "size" (.int (n : Int)) []))))) t = some (.tup xs) := by rw [upd_ne htg]; exact sv _ _ ht3
      have hg4 : (upd (upd H3 vt (.tup ((upto n).map V.int))) g (.ins C dx (putF "_vertices" (.ref vt) (putF "edges" (.ref t) (putF "size" (.int (n : Int)) []))))) g = some (.ins C dx (putF "_vertices" (.ref vt) (putF "edges" (.ref t) (putF "size" (.int (n : Int)) [])))) := upd_same
      have hP4 : PrsAt (upd (upd H3 vt (.tup ((upto n).map V.int))) g (.ins C dx (putF "_vertices" (.ref vt) (putF "edges" (.ref t) (putF "size" (.int (n : Int)) []))))) xs ps := prs_tup (fun b zs h => by rw [upd_ne (ne_of h hg3 (fun z => nomatch z))]; exact sv _ _ h) hP3
      have k4 : ∀ b o, b ≠ g → H b = some o → (upd (upd H3 vt (.tup ((upto n).map V.int))) g (.ins C dx (putF "_vertices" (.ref vt) (putF "edges" (.ref t) (putF "size" (.int (n : Int)) []))))) b = some o := fun b o hb z => by rw [upd_ne hb]; exact sv _ _ (k3 b o hb z)
      generalize upd (upd H3 vt (.tup ((upto n).map V.int))) g (.ins C dx (putF "_vertices" (.ref vt) (putF "edges" (.ref t) (putF "size" (.int (n : Int)) [])))) = H4 at hvt4 ht4 hg4 hP4 k4 ⊢
      refine ⟨_, rfl, _, rfl, g, C, dx, _, .ref t, rfl, hg4, G.cl, A.e, rfl, ?_⟩
      refine ⟨n, t, xs, ps, rfl, h24, ht4, hP4, hpl, hG.bd, fun H5 r rs s5 hr5 hR => ?_⟩
      have hg5 := s5 _ _ hg4
      refine ⟨_, rfl, g, C, dx, _, rfl, hg5, G.cl, A.r, (by show 3 < 1000; decide), ?_⟩
      refine q _ (fun b o hb z => by rw [upd_ne hb]; exact s5 _ _ (k4 b o hb z)) ⟨dx, t, vt, r, xs, rs, upd_same, ?_, ?_, ?_, ?_, hR.1, fun i x hx => ?_⟩
      · rw [upd_ne htg]; exact s5 _ _ ht4
      · exact prs_tup (fun b zs h => by rw [upd_ne (ne_of h hg5 (fun z => nomatch z))]; exact h) (hP4.kp (p := 0) (.of s5))
      · rw [upd_ne hvg]; exact s5 _ _ hvt4
      · rw [upd_ne (ne_of hr5 hg5 (fun z => nomatch z))]; exact hr5
      · obtain ⟨t2, e2, h2⟩ := hR.2 i x hx
        exact ⟨t2, e2, by rw [upd_ne (ne_of h2 hg5 (fun z => nomatch z))]; exact h2⟩
end
end Ev
namespace Ev
open PySem PySem.Spec PyProof.Rows L2
def movL (ps : List (Int × Int)) (m : Int) : List (Int × Int) := ps.map fun q => (q.1 + m, q.2 + m)
def spMoved : Sp := fun vs H Q _ => ∃ (e : Addr) (xs : List V) (ps : List (Int × Int)) (m : Int), vs = [.ref e, .int m] ∧ H e = some (.tup xs) ∧ PrsAt H xs ps ∧ ps.length ≤ 300 ∧ ∀ H' t ys, Same H H' → H' t = some (.tup ys) → PrsAt H' ys (movL ps m) → Q (.ref t) H'
section
variable {P : Program} {w : World} {K : PySem.W.Frag} {mg : Str → Option Value} {base : Heap} {C : Addr}
theorem ok_moved {f : Addr} {fd : FuncData} (F : Fun K "moved_edges" "moved_edges" s_moved_edges f fd) (B : B0 mg) : FnOk P w K mg base CX0 1 f fd ["edges", "steps"] spMoved := by
  refine F.ok scs_moved_edges (fun vs H Q E h => ?_) (fun cdv A' outer s H vs Q E hr h => ?_)
  · obtain ⟨e, xs, ps, m, rfl, _⟩ := h
    rfl
  · obtain ⟨e, xs, ps, m, rfl, he, hP, hl, q⟩ := h
    refine ⟨_, pss_one (ps_ret (pe_callTy call_tuple_of (by rfl) B.tuple (by decide +kernel) (pa_cons (pe_lc (own := [("one", 2), ("other", 3)]) (g := gTup K 2 (gCons (gName 2) (gCons (gName 3) gNil))) (tt := tYes) rfl scs_moved_edges.nd (pi_tup (pv 0))
        (blkOk_by (N := Ns_moved_edges) (sc := defScope s_moved_edges) (by decide +kernel))
        (fun _ _ _ _ _ => pg_tup rfl (pgs_cons (pg_name (i := 2) scs_moved_edges.nd rfl (Or.inl rfl)) (pgs_cons (pg_name (i := 3) scs_moved_edges.nd rfl (Or.inl rfl)) pgs_nil))) (fun _ _ _ _ _ => pts_nil)
        (fun _ _ _ _ _ => pe_tup (pa_cons (pe_op op_add (pv 2) (pv 1)) (pa_cons (pe_op op_add (pv 3) (pv 1)) pa_nil)))) pa_nil))), ?_⟩
    refine ⟨_, rfl, e, rfl, ⟨_, .inl (.inl he)⟩, fun L hL => lc_tup (K := K) (a := e) (xs := xs) (fun i H' => Same H H' ∧ ∃ ys, H' L = some (.lst ys) ∧ PrsAt H' ys (movL (ps.take i) m)) ⟨same_new hL, [], upd_same, .nil⟩ (fun i H' _ h => .inl (.inl (h.1 _ _ he))) ?_ ?_⟩
    · rintro i x H3 hi ⟨s3, ys, hL3, hP3⟩
      obtain ⟨⟨qa, qb⟩, hq, te, rfl, hte⟩ := paired_get (hP.kp (p := 0) (.of s3)) hi
      have eL : movL (ps.take (i + 1)) m = movL (ps.take i) m ++ [(qa + m, qb + m)] := by
        unfold movL
        rw [List.take_add_one, hq, List.map_append]
        rfl
      refine ⟨te, _, rfl, .inl (.inl hte), rfl, _, _, rfl, _, _, rfl, rfl, rfl, tYes_i ?_⟩
      refine ⟨_, rfl, _, rfl, _, _, rfl, rfl, _, rfl, _, rfl, _, _, rfl, rfl, (by show 2 ≤ sizeLine; decide), fun t6 ht6 => ?_⟩
      have s6 := same_new (o := .tup [.int (qa + m), .int (qb + m)]) ht6
      refine ⟨ys, s6 _ _ hL3, ?_, fun b o eb => by rw [upd_ne (ne_of_none eb hL)]; exact s6 _ _ (s3 _ _ eb), ys ++ [.ref t6], upd_same, ?_⟩
      · rw [paired_len hP3]
        have h7 : (movL (ps.take i) m).length = (ps.take i).length := by unfold movL; rw [List.length_map]
        rw [h7, List.length_take]
        exact small1000 (by omega)
      · rw [eL]
        have kp : KP L H3 (upd (upd H3 t6 (.tup [.int (qa + m), .int (qb + m)])) L (.lst (ys ++ [.ref t6]))) := (KP.of s6).trans (KP.put (s6 _ _ hL3))
        exact paired_app (hP3.kp kp) (.cons ⟨t6, rfl, (KP.put (p := L) (s6 _ _ hL3)).tup upd_same⟩ .nil)
    · rintro H3 ⟨s3, ys, hL3, hP3⟩
      rw [List.take_of_length_le (by rw [paired_len hP]; exact Nat.le_refl _)] at hP3
      refine ⟨L, ys, rfl, .inl ⟨.inl (.inl hL3), fun t ht => ?_⟩⟩
      have st := same_new (o := .tup ys) ht
      exact q _ t ys (s3.trans st) upd_same (hP3.kp (p := 0) (.of st))
end
end Ev
namespace Ev
open PySem PySem.Spec PyProof.Rows L2
theorem inV_ints (j : Int) (ns : List Int) : inV (.int j) (ns.map V.int) = decide (j ∈ ns) := by
  unfold inV
  rw [List.any_map]
  by_cases h : j ∈ ns
  · rw [decide_eq_true h]
    exact List.any_eq_true.mpr ⟨j, h, by show (j == j) = true; exact beq_self_eq_true j⟩
  · rw [decide_eq_false h]
    exact List.any_eq_false.mpr fun x hx z => h (by
      have z : (x == j) = true := z
      rw [← eq_of_beq z]; exact hx)
end Ev
namespace Ev
open PySem PySem.Spec PyProof.Rows L2
/-! ### value in graph, for a pair of ints -/
theorem nbr_mem {ps : List (Int × Int)} {i j : Int} : j ∈ nbr ps i ↔ (i, j) ∈ ps ∨ (j, i) ∈ ps := by
  unfold nbr
  rw [List.mem_flatMap]
  constructor
  · rintro ⟨⟨a, b⟩, hq, h⟩
    rcases List.mem_append.mp h with h | h
    · by_cases e : a = i
      · rw [if_pos e] at h
        have h2 := List.mem_singleton.mp h
        dsimp only at e h2
        rw [h2, ← e]
        exact .inl hq
      · rw [if_neg e] at h
        cases h
    · by_cases e : b = i
      · rw [if_pos e] at h
        have h2 := List.mem_singleton.mp h
        dsimp only at e h2
        rw [h2, ← e]
        exact .inr hq
      · rw [if_neg e] at h
        cases h
  · rintro (h | h)
    · exact ⟨_, h, List.mem_append_left _ (by rw [if_pos rfl]; exact List.mem_singleton.mpr rfl)⟩
    · exact ⟨_, h, List.mem_append_right _ (by rw [if_pos rfl]; exact List.mem_singleton.mpr rfl)⟩
def spHas (C : Addr) : Sp := fun vs H Q _ => ∃ (g t : Addr) (n : Nat) (ps : List (Int × Int)) (i j : Int), vs = [.ref g, .ref t] ∧ GrAt C H g n ps ∧ H t = some (.tup [.int i, .int j]) ∧ 0 ≤ i ∧ i < n ∧ Q (.bl (decide ((i, j) ∈ ps ∨ (j, i) ∈ ps))) H
section
variable {P : Program} {w : World} {K : PySem.W.Frag} {mg : Str → Option Value} {base : Heap} {C : Addr}
theorem ok_has {f : Addr} {fd : FuncData} (F : Fun K "__contains__" "Graph.__contains__" s_Graph___contains__ f fd) (G : GrT K C) (A : GrA K C) (cP : Ca P w K mg base 1 "is_pair" (spPair C)) (cB : Ca P w K mg base 2 "is_between" (spBetween C)) (cI : Ca P w K mg base 1 "is_integer" (spInteger C)) :
    FnOk P w K mg base CX0 3 f fd ["self", "value"] (spHas C) := by
  refine F.ok scs_Graph___contains__ (fun vs H Q E h => ?_) (fun cdv A' outer s H vs Q E hr h => ?_)
  · obtain ⟨g, t, n, ps, i, j, rfl, _⟩ := h
    rfl
  · obtain ⟨g, t, n, ps, i, j, rfl, hg, ht, i0, i1, q⟩ := h
    refine ⟨_, pss_cons (ps_if (pt_not (pt_val (C8.pe_c cP hr (by decide) (by rfl) (pa_cons (pv 1) pa_nil)))) (pss_one (ps_ret pe_bl)) pss_nil)
      (pss_cons (ps_asg (pv 1) (pg_tup rfl (pgs_cons (pg_name (i := 2) scs_Graph___contains__.nd rfl (Or.inl rfl)) (pgs_cons (pg_name (i := 3) scs_Graph___contains__.nd rfl (Or.inl rfl)) pgs_nil))))
      (pss_cons (ps_if (PW.pt (pw_or (pt_not (pt_val (C8.pe_c cB hr (by decide) (by rfl) (pa_cons (pv 2) (pa_cons pe_int (pa_cons (pe_op op_sub (pe_fld (pv 0) rfl) pe_int) pa_nil)))))) (pw_or1 (pt_not (pt_val (C8.pe_c cI hr (by decide) (by rfl) (pa_cons (pv 3) pa_nil))))))) (pss_one (ps_ret pe_bl)) pss_nil)
      (pss_one (ps_ret (pe_cmpR op_in_seq (pv 3) (pe_ix ix_tup (pe_fld (pv 0) rfl) (pv 2) (fun _ _ => rfl)) rfl))))), ?_⟩
    obtain ⟨dx, e, vt, r, xs, rs, h1, h2, h3, h4, h5, h6, h7⟩ := hg.ex
    have htg : tag C H (.ref t) = some .tup := tag_tup ht
    have htu : tupOf H (.ref t) = some [.int i, .int j] := by unfold tupOf; dsimp only; rw [ht]
    refine ⟨_, rfl, .ref t, .tup, rfl, htg, _, rfl, ?_⟩
    rw [htu]
    refine iteF ⟨_, rfl, t, _, rfl, .inl (.inl ht), rfl, _, _, rfl, _, _, rfl, rfl, ?_⟩
    refine ⟨_, rfl, _, rfl, g, C, dx, _, .int (n : Int), rfl, h1, G.cl, A.s, rfl, _, _, rfl, rfl, .int i, .int, 0, (n : Int) - 1, rfl, rfl, _, rfl, ?_⟩
    have hb : betw (.int i) 0 ((n : Int) - 1) = true := by
      show (decide (0 ≤ i) && decide (i ≤ (n : Int) - 1)) = true
      rw [decide_eq_true i0, decide_eq_true (by omega)]
      rfl
    rw [hb]
    refine iteF ⟨_, rfl, .int j, .int, rfl, rfl, _, rfl, iteF ?_⟩
    obtain ⟨k, rfl⟩ : ∃ k : Nat, i = k := ⟨i.toNat, by omega⟩
    have hk : k < rs.length := by omega
    have hrk : rs[k]? = some rs[k] := List.getElem?_eq_getElem hk
    obtain ⟨tk, etk, htk⟩ := h7 k _ hrk
    rw [etk] at hrk
    refine ⟨_, rfl, _, rfl, g, C, dx, _, .ref r, rfl, h1, G.cl, A.r, rfl, _, rfl, r, rs, (k : Int), _, rfl, rfl, .inl (.inl h5), atI_nat hrk, tk, (nbr ps (k : Int)).map V.int, rfl, .inr (.inl (.inl htk)), rfl, List.all_eq_true.mpr fun x hx => by obtain ⟨i, _, rfl⟩ := List.mem_map.mp hx; rfl, ?_⟩
    rw [inV_ints, decide_eq_decide.mpr nbr_mem]
    exact q
end
end Ev
namespace Ev
open PySem PySem.Spec PyProof.Rows L2
/-! ### operators that a class has of its own -/
section
variable {X : Cx} {CX : CXT} {k : Nat} {C f : Addr} {fd : FuncData} {ps : List Str} {sp : Sp} {E : XK}
/-- v in a, a an instance of C, by its own __contains__ -/
def rInOwn (C : Addr) (sp : Sp) (E : XK) (neg : Bool) : R2 := fun x y H Q => ∃ a dx fs, y = .ref a ∧ H a = some (.ins C dx fs) ∧ sp [.ref a, x] H (fun v H' => ∃ b, v = .bl b ∧ Q (.bl (if neg then !b else b)) H') E
theorem op_inOwn (F : FnOk X.prog X.w X.K X.mg X.base CX k f fd ps sp) (hr : Room k X.A) (hs : PySem.W.findIn X.K (.ref C) "__contains__" = some (some (.ref f))) (hf : PySem.W.isFn X.K (.ref f) = true) (hb : Binds X.K fd ps []) (hx : Passes CX X E) : OpR X (compareOp .In) (rInOwn C sp E false) := by
  intro pins s σ H x y v u Q I rx ry h
  obtain ⟨a, dx, fs, rfl, ha, hsp⟩ := h
  cases ry
  obtain ⟨mA, J, _⟩ := ins_get I.hok ha
  obtain ⟨od, J, _⟩ := J.look
  obtain ⟨m, hF⟩ := I.fr
  refine PySem.W.in_K hF I.ok.mod.kin J hs hf ?_
  have r2 : Vals [V.ref a, x] [Value.ref a, v] := .cons rfl (.cons rx .nil)
  refine wpAny_mono (run_fn (us := [.ref a, v]) (vs := [.ref a, x]) F hr hb .nil hx I r2 (by rw [List.append_nil]; exact hsp)) (fun r s' z => ?_) fun _ _ z => z
  obtain ⟨z, H', I', rz, b, rfl, q⟩ := z
  cases rz
  exact wpAny_pure ⟨.bl b, H', I', rfl, q⟩
theorem op_notInOwn (F : FnOk X.prog X.w X.K X.mg X.base CX k f fd ps sp) (hr : Room k X.A) (hs : PySem.W.findIn X.K (.ref C) "__contains__" = some (some (.ref f))) (hf : PySem.W.isFn X.K (.ref f) = true) (hb : Binds X.K fd ps []) (hx : Passes CX X E) : OpR X (compareOp .NotIn) (rInOwn C sp E true) := by
  intro pins s σ H x y v u Q I rx ry h
  obtain ⟨a, dx, fs, rfl, ha, hsp⟩ := h
  cases ry
  obtain ⟨mA, J, _⟩ := ins_get I.hok ha
  obtain ⟨od, J, _⟩ := J.look
  obtain ⟨m, hF⟩ := I.fr
  refine PySem.W.notIn_K hF I.ok.mod.kin J hs hf ?_
  have r2 : Vals [V.ref a, x] [Value.ref a, v] := .cons rfl (.cons rx .nil)
  refine wpAny_mono (run_fn (us := [.ref a, v]) (vs := [.ref a, x]) F hr hb .nil hx I r2 (by rw [List.append_nil]; exact hsp)) (fun r s' z => ?_) fun _ _ z => z
  obtain ⟨z, H', I', rz, b, rfl, q⟩ := z
  cases rz
  exact wpAny_pure ⟨.bl (!b), H', I', rfl, q⟩
/-- a op b, both instances of C, by its own method, the answer an object; what is raised is wished for at the slots -/
def tBinS (C : Addr) (sp : Sp) (E : L2.St → XK) (ta tb : TE) : TE := fun σ H Q => ta σ H fun x H1 => tb σ H1 fun y H2 => ∃ a b dx dy fs gs, x = .ref a ∧ y = .ref b ∧ H2 a = some (.ins C dx fs) ∧ H2 b = some (.ins C dy gs) ∧ sp [.ref a, .ref b] H2 (fun v H' => ∃ r, v = .ref r ∧ Q v H') (E σ)
theorem pe_binS {op : Operator} {E : L2.St → XK} {e1 e2 : Expr} {ta tb : TE} {pos : Pos} (F : FnOk X.prog X.w X.K X.mg X.base CX k f fd ps sp) (hr : Room k X.A) (hc : PySem.W.selfFirst X.K C = true) (hs : PySem.W.findIn X.K (.ref C) (PySem.dunder op.info.2) = some (some (.ref f))) (hf : PySem.W.isFn X.K (.ref f) = true)
    (hb : Binds X.K fd ps []) (hx : ∀ σ, PassesAt CX X σ (E σ)) (ha : PE X e1 ta) (hbb : PE X e2 tb) : PE X (.BinOp e1 op e2 pos) (tBinS C sp E ta tb) := by
  refine ⟨fun pins s σ H Q I h => ?_⟩
  refine wpAny_BinOp (binT ha hbb I h fun v u s2 x y H2 I2 rx ry q => ?_)
  obtain ⟨a, b, dx, dy, fs, gs, rfl, rfl, ea, eb, hsp⟩ := q
  cases rx
  cases ry
  obtain ⟨mA, J, _⟩ := ins_get I2.hok ea
  obtain ⟨mB, J', _⟩ := ins_get I2.hok eb
  obtain ⟨od, J, _⟩ := J.look
  obtain ⟨od', J', _⟩ := J'.look
  obtain ⟨m, hF⟩ := I2.fr
  refine PySem.W.binop_K hF I2.ok.mod.kin J J'.type hc hs hf ?_
  have r2 : Vals [V.ref a, V.ref b] [Value.ref a, Value.ref b] := .cons rfl (.cons rfl .nil)
  refine wpAny_mono (run_fnS (us := [.ref a, .ref b]) (vs := [.ref a, .ref b]) F hr hb (hx σ) I2 r2 hsp) (fun r s' z => ?_) fun _ _ z => z
  obtain ⟨z, H', I', rz, r', rfl, q⟩ := z
  cases rz
  exact ⟨.ref r', H', I', rfl, q⟩
/-- ~a, a an instance of C, by its own __invert__ -/
def rUnOwn (C : Addr) (sp : Sp) (E : XK) : V → Hp → VK → Prop := fun x H Q => ∃ a dx fs, x = .ref a ∧ H a = some (.ins C dx fs) ∧ sp [.ref a] H Q E
theorem un_invOwn (F : FnOk X.prog X.w X.K X.mg X.base CX k f fd ps sp) (hr : Room k X.A) (hs : PySem.W.findIn X.K (.ref C) "__invert__" = some (some (.ref f))) (hf : PySem.W.isFn X.K (.ref f) = true) (hb : Binds X.K fd ps []) (hx : Passes CX X E) : UnR X (unaryOp .Invert) (rUnOwn C sp E) := by
  intro pins s σ H x v Q I rx h
  obtain ⟨a, dx, fs, rfl, ha, hsp⟩ := h
  cases rx
  obtain ⟨mA, J, _⟩ := ins_get I.hok ha
  obtain ⟨od, J, _⟩ := J.look
  have r2 : Vals [V.ref a] [Value.ref a] := .cons rfl .nil
  unfold unaryOp
  refine wpAny_holding ?_
  dsimp only
  rw [if_neg (by decide)]
  refine wpAny_bind (PySem.W.special_fn I.kIn J hs (beq_iff_eq.mp hf) ?_)
  refine wpAny_mono (run_fn (us := [.ref a]) (vs := [.ref a]) F hr hb .nil hx I r2 (by rw [List.append_nil]; exact hsp)) (fun r s' z => ?_) fun _ _ z => z
  exact wpAny_pure z
end
end Ev
namespace Ev
open PySem PySem.Spec PyProof.Rows L2
/-! ### two fors in a comprehension, over Walk -/
section
variable {J J1 : It} {n n1 : Nat} {G G1 : Hp → Prop} {Y Y1 : Nat → Hp → V → Hp → Prop}
theorem lc_in (w : Walk J1 n1 G1 Y1) {g1 : TG} {tt1 : TT} {te : TE} {vs1 : List Nat} {σ : L2.St} {H4 : Hp} {D : Addr} {Nx : Hp → Prop} (Pv : Nat → Hp → Prop) (h0 : Pv 0 H4) (hG : ∀ i H, i ≤ n1 → Pv i H → G1 H)
    (hs : ∀ i x H H', i < n1 → Pv i H → Y1 i H x H' → g1 x (wipe σ vs1) H' fun σ3 H5 => wipe σ3 vs1 = wipe σ vs1 ∧ tt1 σ3 H5 fun b H6 =>
      if b = true then te σ3 H6 fun y H7 => ∃ acc, H7 D = some (.lst acc) ∧ acc.length < sizeLine ∧ Pv (i + 1) (upd H7 D (.lst (acc ++ [y]))) else Pv (i + 1) H6) (hd : ∀ H, Pv n1 H → Nx H) :
    ∃ W1 : Nat → Nat → Hp → Prop, (∃ m, W1 0 m H4) ∧ ∀ j k H, W1 j k H →
      (J1.stop j H ∧ Nx H) ∨ (J1.go j H ∧ ∃ Nx1 : Hp → Prop, (∀ H', Nx1 H' → ∃ k', k' < k ∧ W1 (j + 1) k' H') ∧ ∀ x H', J1.yld j H x H' → g1 x (wipe σ vs1) H' fun σ3 H5 => wipe σ3 vs1 = wipe σ vs1 ∧ tt1 σ3 H5 fun b H6 =>
        if b = true then te σ3 H6 fun y H7 => ∃ acc, H7 D = some (.lst acc) ∧ acc.length < sizeLine ∧ Nx1 (upd H7 D (.lst (acc ++ [y]))) else Nx1 H6) := by
  refine ⟨fun i m H => m = n1 - i ∧ i ≤ n1 ∧ Pv i H, ⟨n1, rfl, Nat.zero_le _, h0⟩, fun i m H h => ?_⟩
  obtain ⟨rfl, hi, p⟩ := h
  have q := hG i H hi p
  by_cases hlt : i < n1
  · exact .inr ⟨w.goes i H hlt q, Pv (i + 1), fun H' p' => ⟨n1 - (i + 1), by omega, rfl, hlt, p'⟩, fun x H' y => hs i x H H' hlt p (w.yields i H x H' hlt q y)⟩
  · have e : i = n1 := by omega
    subst e
    exact .inl ⟨w.stops H q, hd H p⟩
theorem lc_out (w : Walk J n G Y) {wi1 : TI} {g g1 : TG} {tt tt1 : TT} {te : TE} {vs vs1 : List Nat} {σ : L2.St} {H1 : Hp} {D : Addr} {Qd : Hp → Prop} (Pv : Nat → Hp → Prop) (h0 : Pv 0 (upd H1 D (.lst []))) (hG : ∀ i H, i ≤ n → Pv i H → G H)
    (hs : ∀ i x H H', i < n → Pv i H → Y i H x H' → g x (wipe σ vs) H' fun σ2 H2 => wipe σ2 vs = wipe σ vs ∧ tt σ2 H2 fun b H3 =>
      if b = true then wi1 σ2 H3 fun J1 H4 => ∃ W1 : Nat → Nat → Hp → Prop, (∃ m, W1 0 m H4) ∧ ∀ j k H, W1 j k H →
        (J1.stop j H ∧ Pv (i + 1) H) ∨ (J1.go j H ∧ ∃ Nx1 : Hp → Prop, (∀ H', Nx1 H' → ∃ k', k' < k ∧ W1 (j + 1) k' H') ∧ ∀ x H', J1.yld j H x H' → g1 x (wipe σ2 vs1) H' fun σ3 H5 => wipe σ3 vs1 = wipe σ2 vs1 ∧ tt1 σ3 H5 fun b H6 =>
          if b = true then te σ3 H6 fun y H7 => ∃ acc, H7 D = some (.lst acc) ∧ acc.length < sizeLine ∧ Nx1 (upd H7 D (.lst (acc ++ [y]))) else Nx1 H6)
      else Pv (i + 1) H3) (hd : ∀ H, Pv n H → Qd H) :
    ∃ W : Nat → Nat → Hp → Prop, (∃ m, W 0 m (upd H1 D (.lst []))) ∧ ∀ i m H, W i m H →
      (J.stop i H ∧ Qd H) ∨ (J.go i H ∧ ∃ Nx : Hp → Prop, (∀ H', Nx H' → ∃ m', m' < m ∧ W (i + 1) m' H') ∧ ∀ x H', J.yld i H x H' → g x (wipe σ vs) H' fun σ2 H2 => wipe σ2 vs = wipe σ vs ∧ tt σ2 H2 fun b H3 =>
        if b = true then wi1 σ2 H3 fun J1 H4 => ∃ W1 : Nat → Nat → Hp → Prop, (∃ m, W1 0 m H4) ∧ ∀ j k H, W1 j k H →
          (J1.stop j H ∧ Nx H) ∨ (J1.go j H ∧ ∃ Nx1 : Hp → Prop, (∀ H', Nx1 H' → ∃ k', k' < k ∧ W1 (j + 1) k' H') ∧ ∀ x H', J1.yld j H x H' → g1 x (wipe σ2 vs1) H' fun σ3 H5 => wipe σ3 vs1 = wipe σ2 vs1 ∧ tt1 σ3 H5 fun b H6 =>
            if b = true then te σ3 H6 fun y H7 => ∃ acc, H7 D = some (.lst acc) ∧ acc.length < sizeLine ∧ Nx1 (upd H7 D (.lst (acc ++ [y]))) else Nx1 H6)
        else Nx H3) := by
  refine ⟨fun i m H => m = n - i ∧ i ≤ n ∧ Pv i H, ⟨n, rfl, Nat.zero_le _, h0⟩, fun i m H h => ?_⟩
  obtain ⟨rfl, hi, p⟩ := h
  have q := hG i H hi p
  by_cases hlt : i < n
  · exact .inr ⟨w.goes i H hlt q, Pv (i + 1), fun H' p' => ⟨n - (i + 1), by omega, rfl, hlt, p'⟩, fun x H' y => hs i x H H' hlt p (w.yields i H x H' hlt q y)⟩
  · have e : i = n := by omega
    subst e
    exact .inl ⟨w.stops H q, hd H p⟩
end
/-! ### all pairs -/
/-- the pairs that begin at place i, as far as place j -/
def rowP (ns : List Int) (i : Nat) : List (Int × Int) := match ns[i]? with
  | some x => (ns.drop (i + 1)).map fun y => (x, y)
  | none => []
def prs (ns : List Int) : List (Int × Int) := (List.range ns.length).flatMap (rowP ns)
def prsTo (ns : List Int) (i : Nat) : List (Int × Int) := (List.range i).flatMap (rowP ns)
theorem prsTo_succ (ns : List Int) (i : Nat) : prsTo ns (i + 1) = prsTo ns i ++ rowP ns i := by
  unfold prsTo
  rw [List.range_succ, List.flatMap_append, List.flatMap_singleton]
theorem rowP_len (ns : List Int) (i : Nat) : (rowP ns i).length ≤ ns.length := by
  unfold rowP
  cases ns[i]? with
  | none => exact Nat.zero_le _
  | some x => dsimp only; rw [List.length_map, List.length_drop]; omega
theorem prsTo_len (ns : List Int) : ∀ i, (prsTo ns i).length ≤ i * ns.length
  | 0 => by show 0 ≤ _; omega
  | i + 1 => by
    rw [prsTo_succ, List.length_append, Nat.succ_mul]
    exact Nat.add_le_add (prsTo_len ns i) (rowP_len ns i)
def spPairs : Sp := fun vs H Q _ => ∃ (a : Addr) (ns : List Int), vs = [.ref a] ∧ H a = some (.tup (ns.map V.int)) ∧ ns.length ≤ 24 ∧ ∀ H' p xs, Same H H' → H p = none → H' p = some (.lst xs) → PrsAt H' xs (prs ns) → Q (.ref p) H'
theorem cutN (xs : List V) (k : Nat) (h : k ≤ xs.length) : cutV xs (some (k : Int)) none = xs.drop k := by
  unfold cutV
  rw [HT.sIx_nat, HT.sIx_none, Nat.min_eq_left h]
  exact List.take_of_length_le (by rw [List.length_drop]; exact Nat.le_refl _)
section
variable {P : Program} {w : World} {K : PySem.W.Frag} {mg : Str → Option Value} {base : Heap} {C : Addr}
theorem ok_vertex_pairs {f : Addr} {fd : FuncData} (F : Fun K "vertex_pairs" "vertex_pairs" s_vertex_pairs f fd) (B : B0 mg) : FnOk P w K mg base CX0 1 f fd ["subset"] spPairs := by
  refine F.ok scs_vertex_pairs (fun vs H Q E h => ?_) (fun cdv A outer s H vs Q E hr h => ?_)
  · obtain ⟨a, ns, rfl, _⟩ := h
    rfl
  · obtain ⟨a, ns, rfl, ha, hlen, q⟩ := h
    refine ⟨_, pss_one (ps_ret (pe_lc2 (own := [("place", 1), ("one", 2), ("other", 3)]) (vs1 := [3]) (g := gTup K 2 (gCons (gName 1) (gCons (gName 2) gNil))) (tt := tYes) (g1 := gName 3) (tt1 := tYes) (wi1 := iTup K (tSl (rSlA K) (tVar 0) (tPart (tOp (rI0 fun i j => .int (i + j)) (tVar 1) (tC (.int 1)))) tNoPart)) rfl scs_vertex_pairs.nd
      (pi_enumA (by rfl) B.enumerate (pa_cons (pv 0) pa_nil)) (blkOk_by (N := Ns_vertex_pairs) (sc := defScope s_vertex_pairs) (by decide +kernel)) (by decide)
      (fun _ _ _ _ _ => pg_tup rfl (pgs_cons (pg_name (i := 1) scs_vertex_pairs.nd rfl (Or.inl rfl)) (pgs_cons (pg_name (i := 2) scs_vertex_pairs.nd rfl (Or.inl rfl)) pgs_nil))) (fun _ _ _ _ _ => pts_nil)
      (fun _ _ _ _ _ => by exact pi_tup (pe_slice sl_tupA (pv 0) (po_some (pe_op op_add (pv 1) pe_int)) po_none)) (fun _ _ _ _ _ => pg_name (i := 3) scs_vertex_pairs.nd rfl (Or.inl rfl)) (fun _ _ _ _ _ => pts_nil)
      (fun _ _ _ _ _ => pe_tup (pa_cons (pv 2) (pa_cons (pv 3) pa_nil))))), ?_⟩
    refine ⟨.ref a, rfl, a, ns.map V.int, rfl, .inr ⟨.inl (.inl ha), fun D hD => lc_out (walk_enumT (xs := ns.map V.int)) (fun i H' => Same H H' ∧ ∃ xs, H' D = some (.lst xs) ∧ PrsAt H' xs (prsTo ns i)) ⟨same_new hD, [], upd_same, .nil⟩ (fun i H' _ h => .inl (.inl (h.1 _ _ ha))) ?_ ?_⟩⟩
    · rintro i x H2 H3 hi ⟨s2, xs, hD2, hP⟩ ⟨T, x1, x2, rfl, hT, rfl, e1, e2⟩
      cases e1
      obtain ⟨n, gn, rfl⟩ := ints_get e2
      refine ⟨T, _, rfl, .inl (.inl upd_same), rfl, _, _, rfl, _, _, rfl, rfl, rfl, tYes_i ?_⟩
      have hi2 : i < ns.length := (List.getElem?_eq_some_iff.mp gn).1
      have sT : Same H2 (upd H2 T (.tup [.int (i : Nat), .int n])) := same_new hT
      have hD3 : (upd H2 T (.tup [.int (i : Nat), .int n])) D = some (.lst xs) := by rw [upd_ne (ne_of_none hD2 hT)]; exact hD2
      have s3 : Same H (upd H2 T (.tup [.int (i : Nat), .int n])) := s2.trans sT
      have hP3 : PrsAt (upd H2 T (.tup [.int (i : Nat), .int n])) xs (prsTo ns i) := hP.kp (p := 0) (.of sT)
      generalize upd H2 T (.tup [.int (i : Nat), .int n]) = H4 at s3 hD3 hP3 ⊢
      refine ⟨_, rfl, _, rfl, _, _, rfl, rfl, _, rfl, a, ns.map V.int, rfl, .inl (.inl (s3 _ _ ha)), fun hw => ?_, fun hw b hb => ?_⟩
      · exfalso
        have e1 : ((i : Nat) : Int) + 1 = ((i + 1 : Nat) : Int) := by omega
        rw [e1, HT.sIx_nat, List.length_map] at hw
        omega
      have e1 : cutV (ns.map V.int) (some (((i : Nat) : Int) + 1)) none = (ns.drop (i + 1)).map V.int := by
        have e1 : ((i : Nat) : Int) + 1 = ((i + 1 : Nat) : Int) := by omega
        rw [e1, cutN _ _ (by rw [List.length_map]; omega), List.map_drop]
      rw [e1]
      have s5 : Same H4 (upd H4 b (.tup ((ns.drop (i + 1)).map V.int))) := same_new hb
      have hb5 : (upd H4 b (.tup ((ns.drop (i + 1)).map V.int))) b = some (.tup ((ns.drop (i + 1)).map V.int)) := upd_same
      have hD5 : (upd H4 b (.tup ((ns.drop (i + 1)).map V.int))) D = some (.lst xs) := s5 _ _ hD3
      have hP5 : PrsAt (upd H4 b (.tup ((ns.drop (i + 1)).map V.int))) xs (prsTo ns i) := hP3.kp (p := 0) (.of s5)
      have s6 := s3.trans s5
      generalize upd H4 b (.tup ((ns.drop (i + 1)).map V.int)) = H5 at s6 hb5 hD5 hP5 ⊢
      have er : rowP ns i = (ns.drop (i + 1)).map fun y => (n, y) := by unfold rowP; rw [gn]
      refine ⟨b, rfl, ⟨_, .inl (.inl hb5)⟩, lc_in (walk_tup (xs := (ns.drop (i + 1)).map V.int)) (fun j H' => Same H H' ∧ H' b = some (.tup ((ns.drop (i + 1)).map V.int)) ∧ ∃ xs, H' D = some (.lst xs) ∧ PrsAt H' xs (prsTo ns i ++ (rowP ns i).take j))
        ⟨s6, hb5, xs, hD5, by rw [List.take_zero, List.append_nil]; exact hP5⟩ (fun j H' _ h => .inl (.inl h.2.1)) ?_ ?_⟩
      · rintro j x H6 H7 hj ⟨s7, hb7, ys, hD7, hP7⟩ ⟨rfl, hx⟩
        obtain ⟨m, gm, rfl⟩ := ints_get hx
        refine ⟨rfl, tYes_i ?_⟩
        refine ⟨_, rfl, _, rfl, (by show 2 ≤ sizeLine; decide), fun t ht => ?_⟩
        have sT := same_new (o := .tup [.int n, .int m]) ht
        refine ⟨ys, sT _ _ hD7, ?_, ?_, ?_, ys ++ [.ref t], upd_same, ?_⟩
        · have := paired_len hP7
          rw [this, List.length_append, List.length_take]
          have h1 := prsTo_len ns i
          have h2 := rowP_len ns i
          have h3 : i * ns.length ≤ 24 * 24 := Nat.mul_le_mul (by omega) hlen
          exact small1000 (by omega)
        · exact fun c o e => by rw [upd_ne (ne_of_none e hD)]; exact sT _ _ (s7 _ _ e)
        · rw [upd_ne (ne_of hb7 hD7 (fun z => nomatch z))]; exact sT _ _ hb7
        · have kp : KP D H7 (upd (upd H7 t (.tup [.int n, .int m])) D (.lst (ys ++ [.ref t]))) := (KP.of sT).trans (KP.put (sT _ _ hD7))
          have e2 : (rowP ns i).take (j + 1) = (rowP ns i).take j ++ [(n, m)] := by
            rw [List.take_add_one, er, List.getElem?_map, gm]
            rfl
          rw [e2, ← List.append_assoc]
          refine paired_app (hP7.kp kp) (.cons ⟨t, rfl, ?_⟩ .nil)
          exact (KP.put (p := D) (sT _ _ hD7)).tup upd_same
      · rintro H' ⟨s7, hb7, ys, hD7, hP7⟩
        refine ⟨s7, ys, hD7, ?_⟩
        have e2 : (rowP ns i).take ((ns.drop (i + 1)).map V.int).length = rowP ns i := List.take_of_length_le (by rw [er, List.length_map, List.length_map]; exact Nat.le_refl _)
        rw [e2] at hP7
        rw [prsTo_succ]
        exact hP7
    · rintro H' ⟨s2, xs, hD2, hP⟩
      rw [List.length_map] at hP
      exact q _ D xs s2 hD hD2 hP
end
end Ev
namespace Ev
open PySem PySem.Spec PyProof.Rows L2
def spMixed : Sp := fun vs H Q _ => ∃ c t : Int, vs = [.int c, .int t] ∧ ∀ r : Int, Q (.int r) H
def spDraw : Sp := fun vs H Q _ => ∃ (p l : Addr) (m : Int), vs = [.ref p, .int m] ∧ Pool p l H ∧ 0 < m ∧ m < 1073741824 ∧ ∀ H' r, Pool p l H' → KP p H H' → 0 ≤ r → r < m → Q (.int r) H'
section
variable {P : Program} {w : World} {K : PySem.W.Frag} {mg : Str → Option Value} {base : Heap} {C : Addr}
theorem ok_law_mixed {f : Addr} {fd : FuncData} (F : Fun K "_law_mixed" "_law_mixed" s__law_mixed f fd) (B : B0 mg) : FnOk P w K mg base CX0 1 f fd ["cell", "turn"] spMixed := by
  refine F.ok scs__law_mixed (fun vs H Q E h => ?_) (fun cdv A outer s H vs Q E hr h => ?_)
  · obtain ⟨c, t, rfl, _⟩ := h
    rfl
  · obtain ⟨c, t, rfl, q⟩ := h
    refine ⟨_, pss_cons (ps_set (i := 2) scs__law_mixed.nd rfl (Or.inl rfl) (pe_op op_mod (pe_callTy call_int1 (by rfl) B.int (by decide +kernel) (pa_cons (pe_op op_add (pe_op op_add (pe_op op_mul (pv 0) pe_int) (pe_op op_mul (pv 1) pe_int)) pe_int) pa_nil)) pe_int))
      (pss_one (ps_ret (pe_op op_mod (pe_callTy call_int1 (by rfl) B.int (by decide +kernel) (pa_cons (pe_op op_add (pe_op op_add (pe_op op_mul (pv 2) pe_int) (pe_op op_fdiv (pv 2) pe_int)) (pe_op op_mul (pv 1) pe_int)) pa_nil)) pe_int))), ?_⟩
    refine ⟨_, rfl, _, _, rfl, rfl, .inr (by decide), _, rfl, _, _, rfl, rfl, .inr (by decide), _, _, rfl, rfl, _, _, rfl, rfl, .inl ⟨_, rfl, _, _, rfl, rfl, (by show (0 : Int) < 2147483647; decide), ?_⟩⟩
    refine ⟨_, rfl, _, _, rfl, rfl, .inr (by decide), _, rfl, _, _, rfl, rfl, (by show CDiv _ 65536; exact ⟨by decide, by decide⟩), _, _, rfl, rfl, _, rfl, _, _, rfl, rfl, .inr (by decide), _, _, rfl, rfl, .inl ⟨_, rfl, _, _, rfl, rfl, (by show (0 : Int) < 998244353; decide), q _⟩⟩
theorem ok_law_draw {f : Addr} {fd : FuncData} (F : Fun K "_law_draw" "_law_draw" s__law_draw f fd) (B : B0 mg) (cM : Ca P w K mg base 1 "_law_mixed" spMixed) : FnOk P w K mg base CX0 2 f fd ["pool", "limit"] spDraw := by
  refine F.ok scs__law_draw (fun vs H Q E h => ?_) (fun cdv A outer s H vs Q E hr h => ?_)
  · obtain ⟨p, l, m, rfl, _⟩ := h
    rfl
  · obtain ⟨p, l, m, rfl, ⟨i, j, t, ns, hp, hlp, hl, h63⟩, m0, m1, q⟩ := h
    refine ⟨_, pss_cons (ps_asg (pe_op op_add (pe_ix ix_list (pv 0) pe_int (fun _ _ => rfl)) pe_int) (pg_sub (pv 0) pe_int set_list))
      (C8.pss_cut (ps_if (PW.pt (pw_and (pt_cmpR op_eq (pe_ix ix_list (pv 0) pe_int (fun _ _ => rfl)) pe_int (nomark _)) (pw_and1 (pt_cmpR op_lt (pe_ix ix_list (pv 0) pe_int (fun _ _ => rfl)) (pe_callB call_len_seq (by rfl) B.len (by decide +kernel) (pa_cons (pe_ix ix_list (pv 0) pe_int (fun _ _ => rfl)) pa_nil)) (nomark _)))))
        (pss_cons (ps_set (i := 2) scs__law_draw.nd rfl (Or.inl rfl) (pe_callB call_abs (by rfl) B.abs (by decide +kernel) (pa_cons (pe_ix ix_list (pe_ix ix_list (pv 0) pe_int (fun _ _ => rfl)) (pe_ix ix_list (pv 0) pe_int (fun _ _ => rfl)) (fun _ _ => rfl)) pa_nil)))
        (pss_cons (ps_asg (pe_op op_add (pe_ix ix_list (pv 0) pe_int (fun _ _ => rfl)) pe_int) (pg_sub (pv 0) pe_int set_list))
        (pss_cons (ps_if (pt_cmpR op_lt (pv 2) (pe_op op_pow pe_int pe_int) (nomark _)) (pss_one (ps_ret (pe_op op_mod (pe_callTy call_int1 (by rfl) B.int (by decide +kernel) (pa_cons (C8.pe_c cM hr (by decide) (by rfl) (pa_cons (pv 2) (pa_cons (pe_ix ix_list (pv 0) pe_int (fun _ _ => rfl)) pa_nil))) pa_nil)) (pv 1)))) pss_nil)
        (pss_one (ps_asg (pv 2) (pg_sub (pv 0) pe_int set_list)))))) pss_nil)
      (pss_cons (ps_if (pt_cmpR op_gt (pe_ix ix_list (pv 0) pe_int (fun _ _ => rfl)) pe_int (nomark _))
        (pss_cons (ps_set (i := 3) scs__law_draw.nd rfl (Or.inl rfl) (pe_op op_mod (pe_callTy call_int1 (by rfl) B.int (by decide +kernel) (pa_cons (pe_ix ix_list (pv 0) pe_int (fun _ _ => rfl)) pa_nil)) (pv 1)))
        (pss_cons (ps_asg (pe_op op_fdiv (pe_ix ix_list (pv 0) pe_int (fun _ _ => rfl)) (pv 1)) (pg_sub (pv 0) pe_int set_list))
        (pss_one (ps_ret (pv 3))))) pss_nil)
      (pss_cons (ps_set (i := 2) scs__law_draw.nd rfl (Or.inl rfl) pe_int)
      (C8.pss_cut (ps_if (pt_cmpR op_gt (pe_callB call_len_seq (by rfl) B.len (by decide +kernel) (pa_cons (pe_ix ix_list (pv 0) pe_int (fun _ _ => rfl)) pa_nil)) pe_int (nomark _))
        (pss_one (ps_set (i := 2) scs__law_draw.nd rfl (Or.inl rfl) (pe_callB call_abs (by rfl) B.abs (by decide +kernel) (pa_cons (pe_ix ix_list (pe_ix ix_list (pv 0) pe_int (fun _ _ => rfl)) (pe_op op_mod (pe_callTy call_int1 (by rfl) B.int (by decide +kernel) (pa_cons (pe_ix ix_list (pv 0) pe_int (fun _ _ => rfl)) pa_nil)) (pe_callB call_len_seq (by rfl) B.len (by decide +kernel) (pa_cons (pe_ix ix_list (pv 0) pe_int (fun _ _ => rfl)) pa_nil))) (fun _ _ => rfl)) pa_nil)))) pss_nil)
      (pss_one (ps_ret (pe_op op_mod (pe_callTy call_int1 (by rfl) B.int (by decide +kernel) (pa_cons (C8.pe_c cM hr (by decide) (by rfl) (pa_cons (pv 2) (pa_cons (pe_ix ix_list (pv 0) pe_int (fun _ _ => rfl)) pa_nil))) pa_nil)) (pv 1)))))))), ?_⟩
    -- pool[3] = pool[3] + 1
    refine ⟨_, rfl, p, _, 3, _, rfl, rfl, SqL.of hp, atI_nat (j := 3) rfl, _, _, rfl, rfl, _, rfl, p, _, 3, 3, rfl, rfl, hp, rfl, ?_⟩
    have k1 := KP.put (ws := [.ref l, .int i, .int j, .int (t + 1)]) hp
    have hl1 : (upd H p (.lst [.ref l, .int i, .int j, .int (t + 1)])) l = some (.lst (ns.map V.int)) := by rw [upd_ne hlp]; exact hl
    have hp1 : (upd H p (.lst [.ref l, .int i, .int j, .int (t + 1)])) p = some (.lst [.ref l, .int i, .int j, .int (t + 1)]) := upd_same
    refine ⟨fun σ' H' => ∃ (y2 : Option V) (i' : Nat) (j' t' : Int), σ' = [some (.ref p), some (.int m), y2, none] ∧ H' p = some (.lst [.ref l, .int i', .int j', .int t']) ∧ H' l = some (.lst (ns.map V.int)) ∧ KP p H H', ?_, ?_⟩
    · -- if pool[2] == 0 and pool[1] < len(pool[0])
      refine ⟨_, rfl, p, _, 2, _, rfl, rfl, SqL.of hp1, atI_nat (j := 2) rfl, rfl, _, rfl, ?_⟩
      refine ite2 (fun _ => ?_) (fun _ => ?_)
      · refine ⟨_, rfl, p, _, 1, _, rfl, rfl, SqL.of hp1, atI_nat (j := 1) rfl, _, rfl, p, _, 0, _, rfl, rfl, SqL.of hp1, atI_nat (j := 0) rfl, l, _, rfl, .inl (SqL.of hl1), _, _, rfl, rfl, _, rfl, ?_⟩
        refine ite2 (fun hi => ?_) (fun _ => ?_)
        · have hi2 : i < ns.length := by
            have := of_decide_eq_true hi
            rw [List.length_map] at this
            omega
          have gi : (ns.map V.int)[i]? = some (.int ns[i]) := by rw [List.getElem?_map, List.getElem?_eq_getElem hi2]; rfl
          refine ⟨_, rfl, p, _, 0, _, rfl, rfl, SqL.of hp1, atI_nat (j := 0) rfl, _, rfl, p, _, 1, _, rfl, rfl, SqL.of hp1, atI_nat (j := 1) rfl, l, _, _, _, rfl, rfl, SqL.of hl1, atI_nat gi, _, rfl, ?_⟩
          refine ⟨_, rfl, p, _, 1, _, rfl, rfl, SqL.of hp1, atI_nat (j := 1) rfl, _, _, rfl, rfl, _, rfl, p, _, 1, 1, rfl, rfl, hp1, rfl, ?_⟩
          have k2 := k1.trans (KP.put (ws := [.ref l, .int ((i + 1 : Nat) : Int), .int j, .int (t + 1)]) hp1)
          have hl2 : (upd (upd H p (.lst [.ref l, .int i, .int j, .int (t + 1)])) p (.lst [.ref l, .int ((i + 1 : Nat) : Int), .int j, .int (t + 1)])) l = some (.lst (ns.map V.int)) := by rw [upd_ne hlp]; exact hl1
          have hp2 : (upd (upd H p (.lst [.ref l, .int i, .int j, .int (t + 1)])) p (.lst [.ref l, .int ((i + 1 : Nat) : Int), .int j, .int (t + 1)])) p = some (.lst [.ref l, .int ((i + 1 : Nat) : Int), .int j, .int (t + 1)]) := upd_same
          refine ⟨_, rfl, _, _, rfl, rfl, ⟨by decide, by decide, by decide⟩, _, _, rfl, rfl, _, rfl, ?_⟩
          refine ite2 (fun _ => ?_) (fun _ => ?_)
          · refine ⟨_, rfl, _, rfl, p, _, 3, _, rfl, rfl, SqL.of hp2, atI_nat (j := 3) rfl, _, _, rfl, fun r => .inl ⟨_, rfl, _, rfl, _, _, rfl, rfl, m0, q _ _ ⟨i + 1, j, t + 1, ns, hp2, hlp, hl2, h63⟩ k2 (Int.emod_nonneg _ (by omega)) (Int.emod_lt_of_pos _ m0)⟩⟩
          · refine ⟨_, rfl, _, rfl, p, _, 2, 2, rfl, rfl, hp2, rfl, ?_⟩
            exact ⟨_, i + 1, _, t + 1, rfl, upd_same, by rw [upd_ne hlp]; exact hl2, k2.trans (KP.put hp2)⟩
        · exact ⟨none, i, j, t + 1, rfl, hp1, hl1, k1⟩
      · refine iteF ⟨none, i, j, t + 1, rfl, hp1, hl1, k1⟩
    · rintro σ' H' ⟨y2, i', j', t', rfl, hp2, hl2, k2⟩
      -- if pool[2] > 0
      refine ⟨_, rfl, p, _, 2, _, rfl, rfl, SqL.of hp2, atI_nat (j := 2) rfl, _, _, rfl, rfl, _, rfl, ?_⟩
      refine ite2 (fun _ => ?_) (fun _ => ?_)
      · refine ⟨_, rfl, p, _, 2, _, rfl, rfl, SqL.of hp2, atI_nat (j := 2) rfl, .inl ⟨_, rfl, _, rfl, _, _, rfl, rfl, m0, ?_⟩⟩
        refine ⟨_, rfl, p, _, 2, _, rfl, rfl, SqL.of hp2, atI_nat (j := 2) rfl, _, rfl, _, _, rfl, rfl, ⟨m0, m1⟩, _, rfl, p, _, 2, 2, rfl, rfl, hp2, rfl, ?_⟩
        exact ⟨_, rfl, q _ _ ⟨i', _, t', ns, upd_same, hlp, by rw [upd_ne hlp]; exact hl2, h63⟩ (k2.trans (KP.put hp2)) (Int.emod_nonneg _ (by omega)) (Int.emod_lt_of_pos _ m0)⟩
      · refine ⟨fun σ' H'' => ∃ c : Int, σ' = [some (.ref p), some (.int m), some (.int c), none] ∧ H'' = H', ?_, ?_⟩
        · refine ⟨_, rfl, p, _, 0, _, rfl, rfl, SqL.of hp2, atI_nat (j := 0) rfl, l, _, rfl, .inl (SqL.of hl2), _, _, rfl, rfl, _, rfl, ?_⟩
          refine ite2 (fun hn => ?_) (fun _ => ⟨0, rfl, rfl⟩)
          have hn2 : 0 < ns.length := by
            have := of_decide_eq_true hn
            rw [List.length_map] at this
            omega
          have hm : t' % ((ns.map V.int).length : Int) = (((t' % (ns.length : Int)).toNat : Nat) : Int) := by
            rw [List.length_map, Int.toNat_of_nonneg (Int.emod_nonneg _ (by omega))]
          have hlt : (t' % (ns.length : Int)).toNat < ns.length := by
            have := Int.emod_lt_of_pos t' (show (0 : Int) < ns.length by omega)
            have := Int.emod_nonneg t' (show (ns.length : Int) ≠ 0 by omega)
            omega
          have gi : (ns.map V.int)[(t' % (ns.length : Int)).toNat]? = some (.int ns[(t' % (ns.length : Int)).toNat]) := by rw [List.getElem?_map, List.getElem?_eq_getElem hlt]; rfl
          refine ⟨_, rfl, p, _, 0, _, rfl, rfl, SqL.of hp2, atI_nat (j := 0) rfl, _, rfl, p, _, 3, _, rfl, rfl, SqL.of hp2, atI_nat (j := 3) rfl, .inl ⟨_, rfl, _, rfl, p, _, 0, _, rfl, rfl, SqL.of hp2, atI_nat (j := 0) rfl, l, _, rfl, .inl (SqL.of hl2), _, _, rfl, rfl,
            (by show (0 : Int) < ((ns.map V.int).length : Nat); rw [List.length_map]; omega), l, _, _, _, rfl, rfl, SqL.of hl2, (by rw [hm]; exact atI_nat gi), _, rfl, ⟨_, rfl, rfl⟩⟩⟩
        · rintro σ' H'' ⟨c, rfl, rfl⟩
          refine ⟨_, rfl, _, rfl, p, _, 3, _, rfl, rfl, SqL.of hp2, atI_nat (j := 3) rfl, _, _, rfl, fun r => .inl ⟨_, rfl, _, rfl, _, _, rfl, rfl, m0, q _ _ ⟨i', j', t', ns, hp2, hlp, hl2, h63⟩ k2 (Int.emod_nonneg _ (by omega)) (Int.emod_lt_of_pos _ m0)⟩⟩
end
end Ev
namespace Ev
open PySem PySem.Spec PyProof.Rows L2
/-! ### edges, drawn -/
theorem upto_len (n : Nat) : (upto n).length = n := by unfold upto; rw [List.length_map, List.length_range]
theorem upto_get {n i : Nat} (h : i < n) : (upto n)[i]? = some (i : Int) := by
  unfold upto
  rw [List.getElem?_map, List.getElem?_range h]
  rfl
theorem rowP_upto {n i : Nat} (h : i < n) : rowP (upto n) i = ((upto n).drop (i + 1)).map fun y => ((i : Int), y) := by
  unfold rowP
  rw [upto_get h]
theorem rowP_get {n i j : Nat} (h : i + 1 + j < n) : (rowP (upto n) i)[j]? = some ((i : Int), ((i + 1 + j : Nat) : Int)) := by
  rw [rowP_upto (by omega), List.getElem?_map, List.getElem?_drop, upto_get h]
  rfl
theorem rowP_length {n i : Nat} (h : i < n) : (rowP (upto n) i).length = n - (i + 1) := by
  rw [rowP_upto h, List.length_map, List.length_drop, upto_len]
theorem upto_pw (n : Nat) : (upto n).Pairwise (· < ·) := by
  unfold upto
  rw [List.pairwise_map]
  exact List.pairwise_lt_range.imp fun h => by omega
theorem rowP_mem {n i : Nat} (h : i < n) {q : Int × Int} (hq : q ∈ rowP (upto n) i) : q.1 = i ∧ (i : Int) < q.2 ∧ q.2 < n := by
  obtain ⟨j, hj⟩ := List.getElem?_of_mem hq
  have hl := (List.getElem?_eq_some_iff.mp hj).1
  rw [rowP_length h] at hl
  rw [rowP_get (by omega)] at hj
  cases hj
  refine ⟨rfl, ?_, ?_⟩
  · show (i : Int) < ((i + 1 + j : Nat) : Int); omega
  · show ((i + 1 + j : Nat) : Int) < n; omega
theorem good_prs (n : Nat) : Good n (prs (upto n)) := by
  constructor
  · intro q hq
    unfold prs at hq
    obtain ⟨i, hi, hq⟩ := List.mem_flatMap.mp hq
    rw [upto_len, List.mem_range] at hi
    obtain ⟨h1, h2, h3⟩ := rowP_mem hi hq
    omega
  · unfold prs
    rw [List.pairwise_flatMap, upto_len]
    refine ⟨fun i hi => ?_, ?_⟩
    · rw [List.mem_range] at hi
      rw [rowP_upto hi, List.pairwise_map]
      exact ((upto_pw n).sublist (List.drop_sublist _ _)).imp fun {a b} h => .inr ⟨rfl, h⟩
    · refine (List.Pairwise.and_mem.mp (List.pairwise_lt_range (n := n))).imp fun {a b} h => fun x hx y hy => ?_
      obtain ⟨ha, hb, hab⟩ := h
      obtain ⟨e1, _, _⟩ := rowP_mem (List.mem_range.mp ha) hx
      obtain ⟨e2, _, _⟩ := rowP_mem (List.mem_range.mp hb) hy
      exact .inl (by rw [e1, e2]; omega)
theorem Good.sub {n : Int} {ps qs : List (Int × Int)} (g : Good n ps) (h : qs.Sublist ps) : Good n qs := ⟨fun q hq => g.bd q (h.subset hq), g.pw.sublist h⟩
theorem Good.filter {n : Int} {ps : List (Int × Int)} (g : Good n ps) (c : Int × Int → Bool) : Good n (ps.filter c) := g.sub (List.filter_sublist)
theorem prs_len {n : Nat} (h : n ≤ 24) : (prs (upto n)).length ≤ 300 := by
  have key : ∀ n : Fin 25, (prs (upto n)).length ≤ 300 := by decide +kernel
  exact key ⟨n, by omega⟩
theorem KP.fresh {p D : Addr} {H H' : Hp} {o : HO} (k : KP p H H') (h : H D = none) : KP p H (upd H' D o) := ⟨fun b o e nz => by rw [upd_ne (ne_of_none e h)]; exact k.nl b o e nz, fun b zs nb e => by rw [upd_ne (ne_of_none e h)]; exact k.ls b zs nb e⟩
structure EdInv (H : Hp) (p l D : Addr) (L : List (Int × Int)) (H' : Hp) : Prop where
  k : KP p H H'
  P : Pool p l H'
  ex : ∃ xs ps, H' D = some (.lst xs) ∧ PrsAt H' xs ps ∧ ps.Sublist L
end Ev
namespace Ev
open PySem PySem.Spec PyProof.Rows L2
def outP (ps : List (Int × Int)) (q : Int × Int) : Bool := !decide ((q.1, q.2) ∈ ps ∨ (q.2, q.1) ∈ ps)
def outL (n : Nat) (ps : List (Int × Int)) : List (Int × Int) := (prs (upto n)).filter (outP ps)
def spInv (C : Addr) : Sp := fun vs H Q _ => ∃ (g : Addr) (n : Nat) (ps : List (Int × Int)), vs = [.ref g] ∧ GrAt C H g n ps ∧ 1 ≤ n ∧ n ≤ 24 ∧ ∀ H' g', Same H H' → GrAt C H' g' n (outL n ps) → Q (.ref g') H'
section
variable {P : Program} {w : World} {K : PySem.W.Frag} {mg : Str → Option Value} {base : Heap} {C fH : Addr} {fdH : FuncData}
theorem ok_inv {f : Addr} {fd : FuncData} (F : Fun K "__invert__" "Graph.__invert__" s_Graph___invert__ f fd) (G : GrT K C) (A : GrA K C) (cV : Ca P w K mg base 1 "vertex_pairs" spPairs) (cG : C8.Mak P w K mg base 6 "Graph" C (spInit C) [])
    (FH : FnOk P w K mg base CX0 3 fH fdH ["self", "value"] (spHas C)) (hs : PySem.W.findIn K (.ref C) "__contains__" = some (some (.ref fH))) (hf : PySem.W.isFn K (.ref fH) = true) (bH : Binds K fdH ["self", "value"] []) : FnOk P w K mg base CX0 8 f fd ["self"] (spInv C) := by
  refine F.ok scs_Graph___invert__ (fun vs H Q E h => ?_) (fun cdv A' outer s H vs Q E hr h => ?_)
  · obtain ⟨g, n, ps, rfl, _⟩ := h
    rfl
  · obtain ⟨g, n, ps, rfl, hg, h1n, h24, q⟩ := h
    have hr3 : Room 3 _ := hr.mono (by decide)
    refine ⟨_, pss_one (ps_ret (C8.pe_mk cG hr (by decide) (by rfl) (pa_cons (pe_fld (pv 0) rfl) (pa_cons (pe_lc (own := [("pair", 1)]) (g := gName 1) rfl scs_Graph___invert__.nd (pi_list (C8.pe_c cV hr (by decide) (by rfl) (pa_cons (pe_fld (pv 0) rfl) pa_nil)))
        (blkOk_by (N := Ns_Graph___invert__) (sc := defScope s_Graph___invert__) (by decide +kernel)) (fun _ _ _ _ _ => pg_name (i := 1) scs_Graph___invert__.nd rfl (Or.inl rfl))
        (fun _ _ _ _ _ => pts_one (pt_cmpR (by exact op_notInOwn (E := C8.E0) FH hr3 hs hf bH pass0) (pv 1) (pv 0) rfl)) (fun _ _ _ _ _ => pv 1)) pa_nil)))), ?_⟩
    obtain ⟨dx, e, vt, r, xs, rs, h1, h2, h3, h4, h5, h6⟩ := id hg.ex
    refine ⟨_, rfl, g, C, dx, _, .int (n : Int), rfl, h1, G.cl, A.s, rfl, ?_⟩
    refine ⟨_, rfl, g, C, dx, _, .ref vt, rfl, h1, G.cl, A.v, rfl, vt, upto n, rfl, h4, by rw [upto_len]; omega, fun H4 p ys s4 hp0 hp hP => ?_⟩
    have hg4 : GrAt C H4 g n ps := hg.kp (p := 0) (.of s4)
    refine ⟨p, rfl, ⟨_, .inl (.inl hp)⟩, fun D hD => lc_list (K := K) (a := p) (xs := ys) (fun i H' => Same H4 H' ∧ ∃ zs, H' D = some (.lst zs) ∧ PrsAt H' zs (((prs (upto n)).take i).filter (outP ps)))
      ⟨same_new hD, [], upd_same, .nil⟩ (fun i H' _ h => .inl (.inl (h.1 _ _ hp))) ?_ ?_⟩
    · rintro i x H5 hx ⟨s5, zs, hD5, hP5⟩
      obtain ⟨⟨qa, qb⟩, hq, t5, rfl, ht5⟩ := paired_get (hP.kp (p := 0) (.of s5)) hx
      have hb := (good_prs n).bd _ (List.mem_of_getElem? hq)
      have hg5 : GrAt C H5 g n ps := hg4.kp (p := 0) (.of s5)
      obtain ⟨dx', e', vt', r', xs', rs', k1, _⟩ := id hg5.ex
      have eL : ((prs (upto n)).take (i + 1)).filter (outP ps) = ((prs (upto n)).take i).filter (outP ps) ++ (if outP ps (qa, qb) = true then [(qa, qb)] else []) := by
        rw [List.take_add_one, hq, List.filter_append]
        congr 1
        show List.filter (outP ps) [(qa, qb)] = _
        rw [List.filter_cons, List.filter_nil]
      refine ⟨rfl, ?_⟩
      refine ⟨_, rfl, _, rfl, g, dx', _, rfl, k1, g, t5, n, ps, qa, qb, rfl, hg5, ht5, by dsimp only at hb; omega, by dsimp only at hb; omega, _, rfl, _, rfl, ?_⟩
      refine ite2 (fun c => ?_) (fun c => ?_)
      · have c' : outP ps (qa, qb) = true := c
        rw [if_pos c'] at eL
        refine ⟨_, rfl, zs, hD5, ?_, fun b o eb => by rw [upd_ne (ne_of_none eb hD)]; exact s5 _ _ eb, zs ++ [.ref t5], upd_same, ?_⟩
        · rw [paired_len hP5]
          have h3 := List.length_filter_le (outP ps) ((prs (upto n)).take i)
          rw [List.length_take] at h3
          have h4 := prs_len (n := n) (by omega)
          exact small1000 (by omega)
        · rw [eL]
          exact paired_app (hP5.kp (KP.put hD5)) (.cons ⟨t5, rfl, (KP.put (p := D) hD5).tup ht5⟩ .nil)
      · have c' : ¬ outP ps (qa, qb) = true := c
        rw [if_neg c', List.append_nil] at eL
        exact ⟨s5, zs, hD5, by rw [eL]; exact hP5⟩
    · rintro H5 ⟨s5, zs, hD5, hP5⟩
      rw [List.take_of_length_le (by rw [paired_len hP]; exact Nat.le_refl _)] at hP5
      intro g' dx' hg' hdx' hne'
      have hg5 : (upd H5 dx' (.own g')) g' = none := by rw [upd_ne hne'.symm]; exact hg'
      have s6 := same_new (o := .own g') hdx'
      have s7 := same_new (o := .ins C dx' []) hg5
      have hPn := hP5.kp (p := 0) (.of (s6.trans s7))
      have hil : (outL n ps).length ≤ 300 := Nat.le_trans (List.length_filter_le _ _) (prs_len h24)
      refine ⟨g', dx', D, n, zs, outL n ps, rfl, h1n, h24, upd_same, .inl (s7 _ _ (s6 _ _ hD5)), hPn, hil, (good_prs _).filter _, fun H8 k8 g8 => ⟨rfl, ?_⟩⟩
      have s58 : Same H5 H8 := fun b o z => k8 b o (fun zz => by
        rw [zz, hg'] at z
        cases z) (s7 _ _ (s6 _ _ z))
      exact q H8 g' (s4.trans (s5.trans s58)) g8
end
end Ev
namespace Ev
open PySem PySem.Spec PyProof.Rows L2
/-! ### sorted pairs -/
theorem perm_uniq : ∀ {l m : List (Int × Int)}, l.Perm m → (l.Pairwise fun x y => SrtO.lexB y x = false) → (m.Pairwise fun x y => SrtO.lexB y x = false) → l = m
  | [], m, h, _, _ => (List.Perm.eq_nil h.symm).symm
  | x :: l, [], h, _, _ => absurd h.length_eq (by simp)
  | x :: l, y :: m, h, hl, hm => by
    have r : ∀ x : Int × Int, SrtO.lexB x x = false := fun x => SrtO.lexB_no.mpr (by omega)
    have h1 : SrtO.lexB x y = false := by
      rcases List.mem_cons.mp (h.mem_iff.mp (List.mem_cons_self (a := x) (l := l))) with e | hx
      · rw [e]; exact r y
      · exact (List.pairwise_cons.mp hm).1 x hx
    have h2 : SrtO.lexB y x = false := by
      rcases List.mem_cons.mp (h.mem_iff.mpr (List.mem_cons_self (a := y) (l := m))) with e | hy
      · rw [e]; exact r x
      · exact (List.pairwise_cons.mp hl).1 y hy
    have e : x = y := by
      have a1 := SrtO.lexB_no.mp h1
      have a2 := SrtO.lexB_no.mp h2
      obtain ⟨x1, x2⟩ := x
      obtain ⟨y1, y2⟩ := y
      have b1 : x1 = y1 := by dsimp only at a1 a2; omega
      have b2 : x2 = y2 := by dsimp only at a1 a2; omega
      rw [b1, b2]
    subst e
    rw [perm_uniq h.cons_inv (List.pairwise_cons.mp hl).2 (List.pairwise_cons.mp hm).2]
/-- the pair that stands at a value -/
def kOf (H : Hp) (v : V) : Int × Int := match v with
  | .ref a => (match H a with
    | some (.tup [.int i, .int j]) => (i, j)
    | _ => (0, 0))
  | _ => (0, 0)
theorem kOf_at {H : Hp} {a : Addr} {i j : Int} (h : H a = some (.tup [.int i, .int j])) : kOf H (.ref a) = (i, j) := by
  unfold kOf
  dsimp only
  rw [h]
theorem prs_kOf {H : Hp} : ∀ {xs : List V} {ps : List (Int × Int)}, PrsAt H xs ps → xs.map (kOf H) = ps ∧ ∀ x ∈ xs, ∃ t, x = V.ref t ∧ H t = some (.tup [.int (kOf H x).1, .int (kOf H x).2])
  | _, _, .nil => ⟨rfl, fun x h => nomatch h⟩
  | _, _, .cons ⟨t, e, h⟩ r => by
    subst e
    obtain ⟨h1, h2⟩ := prs_kOf r
    have hk := kOf_at h
    refine ⟨by rw [List.map_cons, h1, hk], fun x hx => ?_⟩
    rcases List.mem_cons.mp hx with e | hx
    · subst e; exact ⟨t, rfl, by rw [hk]; exact h⟩
    · exact h2 x hx
theorem kOf_prs {H : Hp} : ∀ {ys : List V}, (∀ x ∈ ys, ∃ t, x = V.ref t ∧ H t = some (.tup [.int (kOf H x).1, .int (kOf H x).2])) → PrsAt H ys (ys.map (kOf H))
  | [], _ => .nil
  | y :: ys, h => by
    obtain ⟨t, e, ht⟩ := h y List.mem_cons_self
    exact .cons ⟨t, e, ht⟩ (kOf_prs fun x hx => h x (List.mem_cons_of_mem _ hx))
theorem sorted_prs {H : Hp} {xs ys : List V} {ps qs : List (Int × Int)} (hx : PrsAt H xs ps) (hs : SrtO.Srtd (ltP (kOf H)) ys) (hp : ys.Perm xs) (hq : qs.Pairwise lexlt) (hperm : qs.Perm ps) : PrsAt H ys qs := by
  obtain ⟨h1, h2⟩ := prs_kOf hx
  have h3 : ∀ y ∈ ys, ∃ t, y = V.ref t ∧ H t = some (.tup [.int (kOf H y).1, .int (kOf H y).2]) := fun y hy => h2 y (hp.mem_iff.mp hy)
  have h4 := kOf_prs h3
  have e : ys.map (kOf H) = qs := by
    refine perm_uniq ?_ (List.pairwise_map.mpr hs) (hq.imp fun {a b} h => SrtO.lexB_no.mpr ?_)
    · have := hp.map (kOf H)
      rw [h1] at this
      exact this.trans hperm.symm
    · rcases h with h | ⟨h, h'⟩ <;> omega
  rw [e] at h4
  exact h4
end Ev
/-! sorted of a list or of a tuple, any order, any number of items -/
namespace SrtO
open PySem PyProof.Rows Srt
section
variable {prog : Program} {w : World} {B : Around} {R : Value → Shared → Prop} {t : Shared}
theorem collectSeq {p : Addr} {T : String} {ob : Obj} {k : Nat} {xs : List Value} {Q : List Value → Shared → Prop} (hT : T = "list" ∨ T = "tuple")
    (hp : t.heap.get? p = some ob) (hc : ob.cls = .type T) (hd : ob.data = .seq xs.toArray k) (hz : xs.length ≤ sizeLine)
    (fin : ∀ g : Heap, (∀ b o, t.heap.get? b = some o → g.get? b = some o) → t.heap.objs.size ≤ g.objs.size → Q xs { t with heap := g }) : wpAny (model prog w) B (collect (.ref p)) Q R t := by
  let g1 : Heap := t.heap.push (seqObj "list" ([] : List Value).toArray 0)
  let g2 : Heap := g1.update t.heap.objs.size (Obj.mapSeq (· ++ xs.toArray))
  have a1 : g1.get? t.heap.objs.size = some (seqObj "list" #[] 0) := Heap.get?_push_size _ rfl
  have a2 := Heap.get?_update_self (Obj.mapSeq (· ++ xs.toArray)) a1 rfl
  unfold collect
  apply wpAny_bind
  apply wpAny_runValue
  apply codeAny_builtin F.entry_proto_collect
  rw [Around.under_plainId F.plain_proto_collect]
  show wpAny _ B.in1 (newList [] >>= fun z => again (.builtin "list.__iadd__" ⟨[z, .ref p], []⟩)) _ _ t
  apply wpAny_bind
  refine wpAny_newObj_type (wpAny_pure ?_)
  refine ⟨plainId_quiet F.plain_list_iadd _, ?_⟩
  apply codeAny_builtin F.entry_list_iadd
  rw [Around.under_plainId F.plain_list_iadd]
  show wpAny _ B.in1 (Builtin.List.listExtendWith (.ref t.heap.objs.size) (.ref p) (.ref t.heap.objs.size)) _ _ { t with heap := g1 }
  have last : wpAny (model prog w) B (do
      let o ← load t.heap.objs.size
      match o.data with
      | .seq ys _ => pure ys.toList
      | _ => unsupported "internal:collect") Q R { t with heap := g2 } := by
    apply wpAny_bind
    apply wpAny_load a2
    apply wpAny_pure
    have e : ((#[] : Array Value) ++ xs.toArray).toList = xs := by simp
    show Q ((#[] : Array Value) ++ xs.toArray).toList _
    rw [e]
    refine fin _ (fun b o h => ?_) (by show _ ≤ g2.objs.size; rw [Heap.size_after_update, Heap.size_push]; omega)
    rw [Heap.get?_update_other _ _ (Nat.ne_of_gt (Heap.lt_size h))]
    exact Heap.get?_push_of_some _ h
  have run := wpAny_extend_seq (prog := prog) (w := w) (A := B) (s := { t with heap := g1 }) (R := fun r s' => r = .ok (.ret (.ref t.heap.objs.size)) ∧ s' = { t with heap := g2 }) t.heap.objs.size p _ 0 hT a1 (Heap.get?_push_of_some _ hp) hc hd ⟨rfl, rfl⟩ (by rw [List.size_toArray]; exact hz)
  refine wpAny_mono run (fun f s' h => ?_) fun e s' h => nomatch h.1
  cases f with
  | done f =>
    obtain ⟨e, rfl⟩ := h
    cases e
    exact last
  | again c =>
    refine ⟨h.1, codeAny_mono h.2 fun r s'' hr => ?_⟩
    obtain ⟨rfl, rfl⟩ := hr
    exact last
theorem sortedSeq {p : Addr} {T : String} {ob : Obj} {k : Nat} {xs : List Value} {before : Value → Value → Bool} {Q : Value → Shared → Prop} (O : Swo before) (hT : T = "list" ∨ T = "tuple")
    (hp : t.heap.get? p = some ob) (hc : ob.cls = .type T) (hd : ob.data = .seq xs.toArray k) (hz : xs.length ≤ sizeLine)
    (hS : 2 ≤ xs.length → ∀ (g : Heap) (a : Addr), g.get? a = some (seqObj "list" xs.toArray 0) → (∀ b o, t.heap.get? b = some o → g.get? b = some o) → SortableO prog w B.in1.in1 { t with heap := g } a xs before)
    (fin : ∀ (g : Heap) (a : Addr) (ys : List Value), Srtd before ys → Stb before ys xs → (∀ b o, t.heap.get? b = some o → g.get? b = some o) → t.heap.objs.size ≤ a → (∃ n, g.get? a = some (seqObj "list" ys.toArray n)) → Q (.ref a) { t with heap := g }) :
    wpAny (model prog w) B (call (.builtin "sorted") [.ref p]) Q R t := by
  apply Calls.call_function_entry kind_sorted plain_sorted entry_sorted (args_sorted1 _)
  unfold Builtin.«sorted»
  apply wpAny_bind (m := checkCount "sorted" 1 1 _)
  apply wpAny_pure
  apply wpAny_bind
  refine collectSeq hT hp hc hd hz fun g kg le => ?_
  have new : (g.push (seqObj "list" xs.toArray 0)).get? g.objs.size = some (seqObj "list" xs.toArray 0) := Heap.get?_push_size _ rfl
  have old : ∀ b o, t.heap.get? b = some o → (g.push (seqObj "list" xs.toArray 0)).get? b = some o := fun b o e => Heap.get?_push_of_some _ (kg b o e)
  apply wpAny_bind
  refine wpAny_newList ?_ hz
  apply wpAny_bind
  apply wpAny_holding
  refine wpAny_call_entry slot_list_sort ⟨_, new, rfl⟩ entry_list_sort ?_ (args_list_sort _)
  refine list_sort_ord O new hz (fun h2 => hS h2 _ _ new old) fun ys h1 h2 => ⟨_, rfl, ?_⟩
  refine wpAny_pure ⟨_, rfl, fin _ _ ys h1 h2 (fun b o e => ?_) le (sortedHeap_at new)⟩
  have lt : b < g.objs.size := Nat.lt_of_lt_of_le (Heap.lt_size e) le
  rw [sortedHeap_old (Nat.ne_of_lt lt) (by rw [size_push']; exact Nat.lt_succ_of_lt lt)]
  exact old b o e
end
end SrtO
namespace L2
open PySem PySem.Spec PyProof.Rows
/-- as rSortedPO, of a tuple -/
def rSortedPT (K : PySem.W.Frag) : List V → Hp → VK → Prop := fun vs H Q => ∃ (a : Addr) (xs : List V) (k : V → Int × Int), vs = [V.ref a] ∧ SqT K H a xs ∧ (∀ x ∈ xs, ∃ t, x = V.ref t ∧ H t = some (.tup [.int (k x).1, .int (k x).2])) ∧
  ∀ ys p, SrtO.Srtd (ltP k) ys → ys.Perm xs → H p = none → Q (.ref p) (upd H p (.lst ys))
section
variable {X : Cx}
theorem cr_sortedPT : CallR X (.builtin "sorted") (rSortedPT X.K) := by
  rintro pins s σ H vs us Q I r ⟨a, xs, k, rfl, hs, hx, q⟩
  obtain ⟨its, rv, ⟨ob, hob, hc, n, hd⟩, hz⟩ := I.tuple hs
  obtain ⟨u, rfl, ru⟩ := vals1 r
  cases ru
  obtain ⟨e1, e2⟩ := refs_back rv fun x m => ⟨(hx x m).choose, (hx x m).choose_spec.1⟩
  have len := rv.length
  have O : SrtO.Swo fun v u => SrtO.lexB (k (backV v)) (k (backV u)) := SrtO.swo_lex fun u => k (backV u)
  refine SrtO.sortedSeq O (.inr rfl) hob hc hd (by rw [← len]; exact hz) (fun h2 g d hg kp => SrtO.pairs_sortableO (k := fun u => k (backV u)) (by omega) (fun v hv => ?_) fun o e => ?_) fun g d ys h1 h2 kp hd ⟨m, hn⟩ => ?_
  · obtain ⟨t, rfl⟩ := e2 v hv
    have hm : V.ref t ∈ xs := by rw [e1]; exact List.mem_map_of_mem hv
    obtain ⟨t', e, ht⟩ := hx _ hm
    cases e
    obtain ⟨_, its2, r2, o, ho, hc, n, hd⟩ := I.hok _ _ ht
    obtain ⟨u1, u2, rfl, ri, rj⟩ := vals2 r2
    obtain ⟨t1, rfl⟩ := ri
    obtain ⟨t2, rfl⟩ := rj
    exact ⟨t, o, t1, t2, n, rfl, kp _ _ ho, hc, hd⟩
  · have e3 : some o = some (seqObj "list" its.toArray 0) := e.symm.trans hg
    cases e3
    exact fun c => absurd (Value.type.inj c) (by decide)
  · have h3 : ∀ u ∈ ys, ∃ a, u = Value.ref a := fun u hu => e2 u (h2.perm.mem_iff.mp hu)
    have hb : SrtO.Stb (ltP k) (ys.map backV) xs := by
      rw [e1]
      exact h2.map (ltP_swo k) backV
    exact ⟨.ref d, upd H d (.lst (ys.map backV)), I.laid (t' := s.toks) kp hd ⟨by rw [hb.len]; exact hz, ys, m, vals_back h3, hn⟩, rfl, q _ d (SrtO.srtd_map h1) hb.perm (I.hok.fresh hd)⟩
end
end L2
namespace Ev
open PySem PySem.Spec PyProof.Rows L2
theorem lex_irr {q : Int × Int} : ¬ lexlt q q := fun h => by rcases h with h | ⟨_, h⟩ <;> omega
theorem lex_asy {p q : Int × Int} (h : lexlt p q) (h2 : lexlt q p) : False := by rcases h with h | ⟨h, h'⟩ <;> rcases h2 with h2 | ⟨h2, h2'⟩ <;> omega
theorem lex_uniq : ∀ {l m : List (Int × Int)}, l.Pairwise lexlt → m.Pairwise lexlt → (∀ q, q ∈ l ↔ q ∈ m) → l = m
  | [], [], _, _, _ => rfl
  | [], y :: m, _, _, h => absurd ((h y).mpr List.mem_cons_self) (by simp)
  | x :: l, [], _, _, h => absurd ((h x).mp List.mem_cons_self) (by simp)
  | x :: l, y :: m, hl, hm, h => by
    obtain ⟨hx, hl2⟩ := List.pairwise_cons.mp hl
    obtain ⟨hy, hm2⟩ := List.pairwise_cons.mp hm
    have e : x = y := by
      rcases List.mem_cons.mp ((h x).mp List.mem_cons_self) with e | e
      · exact e
      · rcases List.mem_cons.mp ((h y).mpr List.mem_cons_self) with e2 | e2
        · exact e2.symm
        · exact (lex_asy (hx y e2) (hy x e)).elim
    subst e
    congr 1
    refine lex_uniq hl2 hm2 fun q => ⟨fun hq => ?_, fun hq => ?_⟩
    · rcases List.mem_cons.mp ((h q).mp (List.mem_cons_of_mem _ hq)) with e | e
      · subst e; exact absurd (hx _ hq) lex_irr
      · exact e
    · rcases List.mem_cons.mp ((h q).mpr (List.mem_cons_of_mem _ hq)) with e | e
      · subst e; exact absurd (hy _ hq) lex_irr
      · exact e
theorem prs_mem {n : Nat} {a b : Nat} (h : a < b) (hb : b < n) : ((a : Int), (b : Int)) ∈ prs (upto n) := by
  unfold prs
  rw [upto_len]
  refine List.mem_flatMap.mpr ⟨a, List.mem_range.mpr (by omega), ?_⟩
  have := rowP_get (n := n) (i := a) (j := b - (a + 1)) (by omega)
  rw [show a + 1 + (b - (a + 1)) = b by omega] at this
  exact List.mem_of_getElem? this
end Ev
namespace Ev
open PySem PySem.Spec PyProof.Rows L2
theorem good_mem {n : Nat} {ps : List (Int × Int)} (g : Good n ps) {q : Int × Int} (hq : q ∈ ps) : q ∈ prs (upto n) := by
  have hb := g.bd q hq
  obtain ⟨q1, q2⟩ := q
  dsimp only at hb
  obtain ⟨a, rfl⟩ : ∃ a : Nat, q1 = a := ⟨q1.toNat, by omega⟩
  obtain ⟨b, rfl⟩ : ∃ b : Nat, q2 = b := ⟨q2.toNat, by omega⟩
  exact prs_mem (by omega) (by omega)
theorem good_filt {n : Nat} {ps : List (Int × Int)} (g : Good n ps) : ps = (prs (upto n)).filter fun q => decide (q ∈ ps) :=
  lex_uniq g.pw ((good_prs n).pw.filter _) fun q => ⟨fun h => List.mem_filter.mpr ⟨good_mem g h, decide_eq_true h⟩, fun h => of_decide_eq_true (List.mem_filter.mp h).2⟩
theorem good_len {n : Nat} {ps : List (Int × Int)} (g : Good n ps) (h : n ≤ 24) : ps.length ≤ 300 := by
  rw [good_filt g]
  exact Nat.le_trans (List.length_filter_le _ _) (prs_len h)
end Ev
namespace Ev
open PySem PySem.Spec PyProof.Rows L2
/-! ### isinstance of a caught error that has its dict -/
def rIsX (K : PySem.W.Frag) (a : Addr) (cls : Value) (d : Option Addr) : List V → Hp → VK → Prop := fun xs H Q => ∃ (D : Addr) (c : V) (cv : Value) (b : Bool) (dd : Addr) (fs : List (Str × V)), xs = [.ref a, c] ∧ cls = .ref D ∧ d = some dd ∧ H dd = some (.xd fs) ∧ ExcC K D ∧ ClsV c cv ∧
  PySem.W.kitOne K (.ref D) cv = some b ∧ Q (.bl b) H
theorem call_isX {X : Cx} {a : Addr} {cls : Value} {d : Option Addr} {oe : Obj} {pn : List (Addr × Obj)} (hz : Zc cls d oe) (hf : ∃ vs, oe.data = .fields vs) : CallR (X.suite a ((a, oe) :: pn)) (.builtin "isinstance") (rIsX X.K a cls d) := by
  intro pins s σ H xs us Q I r h
  obtain ⟨D, c, cv, b, dd, fs, rfl, ec, ed, hd, C, hcv, e, q⟩ := h
  cases r with
  | cons rx rr =>
    cases rr with
    | cons rt rr =>
      cases rr
      cases rx
      have ecv := hcv.eq rt
      subst ecv
      subst ec
      subst ed
      obtain ⟨hget, _⟩ := I.pin (a, oe) (List.mem_append.mpr (.inl List.mem_cons_self))
      obtain ⟨vs, hv⟩ := hf
      have hx : ObjOk X.prog X.w H s.heap dd (.xd fs) := I.hok dd _ hd
      obtain ⟨mA, hns, hr⟩ := hx
      obtain ⟨od, ho, hl⟩ := lookIn_ns hns
      have J : PySem.W.InstAt s.heap a oe D (some od) := ⟨hget, hz.1, by unfold PySem.W.notCls; rw [hv] <;> rfl, by rw [hz.2]; exact ho⟩
      obtain ⟨cd, hcd, _⟩ := PySem.W.any_some C.hd
      exact PySem.W.kia_one (PySem.W.kitx_exc (by rw [hcd]; rfl) C.hg C.hk C.hs C.ha C.hn C.ht C.hm) I.kIn J e (fun z => nomatch z) fun tk => ⟨.bl b, H, I.kept (t' := tk) fun _ _ z => z, rfl, q⟩
/-! ### a class that a name of the def holds, called -/
def tMakeL (i : Nat) (C : Addr) (sp : Sp) (E : XK) (t : TA) : TE := fun σ H Q => σ[i]? = some (some (.ref C)) ∧ t σ H fun vs H1 => ∀ x dx, H1 x = none → H1 dx = none → dx ≠ x → sp (.ref x :: vs) (upd (upd H1 dx (.own x)) x (.ins C dx [])) (fun v H2 => v = .non ∧ Q (.ref x) H2) E
section
variable {X : Cx} {CX : CXT} {k i : Nat} {f C : Addr} {fd : FuncData} {ps : List Str} {sp : Sp} {E : XK} {x : Str} {p pos : Pos} {e : Expr} {es : List Expr} {t : TA}
theorem pe_makeL (M : Mk X.K C f) (F : FnOk X.prog X.w X.K X.mg X.base CX k f fd ps sp) (hr : Room (k + 1) X.A) (hb : Binds X.K fd ps []) (hx : Passes CX X E) (hN : X.N[i]? = some x) (hv : Vis X.env.scope x) (ha : PA X (e :: es) t)
    (hdb : (x == ("__debug__" : Str)) = false := by decide) (hcd : (x == ("__classdict__" : Str)) = false := by decide)
    (he : starEach (e :: es) X.env = (false, eval e X.env) :: starEach es X.env := by rfl) (hpl : (backTo pos (starEach es X.env)).any (·.1) = false := by rfl) : PE X (.Call (.Name x p) (e :: es) [] pos) (tMakeL i C sp E t) := by
  refine ⟨fun pins s σ H Q I h => ?_⟩
  obtain ⟨hs, ht⟩ := h
  refine wpAny_Call_Name_kw (thn ((pe_var (pos := p) hN hv hdb hcd).run pins s σ H (fun v H1 => v = .ref C ∧ H1 = H) I ⟨.ref C, hs, rfl, rfl⟩) fun u s1 ⟨v, H1, I1, r1, q1⟩ => ?_)
  obtain ⟨rfl, rfl⟩ := q1
  cases r1
  refine PySem.W.callWith_K (h₀ := X.base) I.ok.mod.kin M.kp (thn (ha.run pos pins s1 σ _ _ I1 ht) fun us s2 ⟨vs, H2, I2, r, q⟩ => ⟨I2.kIn, ?_⟩) he hpl
  exact run_make M F hr hb .nil hx I2 r (fun x dx h1 h2 h3 => by rw [List.append_nil]; exact q x dx h1 h2 h3)
end
/-! ### C.m(..), m a classmethod, where what is raised is wished for at the slots -/
def tCMethS (C : Addr) (sp : Sp) (E : L2.St → XK) (ta : TE) (t : TA) : TE := fun σ H Q => ta σ H fun x H1 => x = .ref C ∧ t σ H1 fun vs H2 => sp (.ref C :: vs) H2 Q (E σ)
def tCMethK (C : Addr) (sp : Sp) (n : Nat) (gV : List V → List V) (E : L2.St → XK) (ta : TE) (tk : TA) : TE := fun σ H Q => ta σ H fun x H1 => x = .ref C ∧ tk σ H1 fun zs H2 => zs.length = n ∧ sp (.ref C :: gV zs) H2 Q (E σ)
section
variable {X : Cx} {CX : CXT} {k : Nat} {C p g : Addr} {mc : Value} {fd : FuncData} {ps ks : List Str} {sp : Sp} {E : L2.St → XK} {o e : Expr} {es : List Expr} {m : Str} {pos apos : Pos} {ta : TE} {t tk : TA} {pl : Sem Bool} {kws : List Keyword}
theorem run_cmS {pins : List (Addr × Obj)} {σ : L2.St} {H : Hp} {s : Shared} {q : Addr} {Q : VK} {us : List Value} {kw : List (Str × Value)} {zs : List V} {ws : List Value} (F : FnOk X.prog X.w X.K X.mg X.base CX k g fd ps sp) (hr : Room k X.A) (hx : PassesAt CX X σ (E σ)) (I : Inv X ((q, PySem.W.methodObj (.ref g) (.ref C)) :: pins) σ H s)
    (hb : BindsTo s fd ⟨.ref C :: us, kw⟩ (ps.zip (.ref C :: ws))) (r : Vals zs ws) (h : sp (.ref C :: zs) H Q (E σ)) : wpAny (model X.prog X.w) X.A (call (.ref q) us kw) (EP X pins σ Q) X.xe s := by
  have z : wpAny (model X.prog X.w) X.A (call (.ref q) us kw) (EP X ((q, PySem.W.methodObj (.ref g) (.ref C)) :: pins) σ Q) X.xe s := by
    refine wpAny_call (PySem.W.method_call (ClX.pin_at I) (codeAny_mono (F.run X.A X.stack s H ⟨.ref C :: us, kw⟩ (.ref C :: ws) (.ref C :: zs) Q (E σ) hr I.env0 hb (.cons rfl r) h) fun r s' hq => ?_))
    cases r with
    | error e => exact hx _ H s e s' I hq
    | ok fl =>
      cases fl with
      | ret u => exact I.after hq
      | next => exact False.elim hq
      | brk => exact False.elim hq
      | cont => exact False.elim hq
  exact thn z fun _ _ y => ClX.unpinE y
theorem pe_cmethS (he : PE X o ta) (r : ClX.CRead X.K C mc) (c : ClX.CMet X.K C mc m p g) (F : FnOk X.prog X.w X.K X.mg X.base CX k g fd ps sp) (hb : Binds X.K fd ps []) (hr : Room k X.A) (hx : ∀ σ, PassesAt CX X σ (E σ)) (ha : PA X (e :: es) t)
    (hst : starEach (e :: es) X.env = (false, eval e X.env) :: starEach es X.env := by rfl) (hpl : (backTo pos (starEach es X.env)).any (·.1) = false := by rfl)
    (ht : eval (.Call (.Attribute o m apos) (e :: es) [] pos) X.env = (do
      let ov ← eval o X.env
      standAt apos.atName
      let (f, first) ← holding [ov] (getMethod ov m pl)
      callWith pos f first (backTo pos (starEach (e :: es) X.env)) (backToKw pos (keywordEach [] X.env))) := by rfl) :
    PE X (.Call (.Attribute o m apos) (e :: es) [] pos) (tCMethS C sp E ta t) := by
  refine ⟨fun pins s σ H Q I h => ?_⟩
  refine PySem.W.methodCall_KW (pl := pl) (thn (he.run pins s σ H _ I h) fun u s1 ⟨x, H1, I1, rx, ex, q⟩ => ?_) ht
  subst ex
  obtain rfl : u = Value.ref C := rx
  refine ClX.getmethcm_ok I1 r c fun s2 I2 => ?_
  refine ClX.callwith_cm I2 (ClX.base_none I1 (Nat.le_refl _)) c.fi (thn (ha.run pos _ s2 σ H1 _ I2 q) fun us s3 ⟨vs, H2, I3, rv, q2⟩ => ⟨⟨ClX.pin_at I3, I3.kIn⟩, ?_⟩) hst hpl
  have r2 : Vals (V.ref C :: vs) (Value.ref C :: us) := .cons rfl rv
  have hl : (Value.ref C :: us).length = ps.length := by rw [← r2.length]; exact F.len _ _ _ _ q2
  have b := hb s3 (Value.ref C :: us) I3.kIn (by rw [List.append_nil]; exact hl)
  rw [List.append_nil] at b
  exact run_cmS F hr (hx σ) I3 b rv q2
theorem pe_cmethK {gV : List V → List V} {gW : List Value → List Value} (he : PE X o ta) (r : ClX.CRead X.K C mc) (c : ClX.CMet X.K C mc m p g) (F : FnOk X.prog X.w X.K X.mg X.base CX k g fd ps sp)
    (hb : ∀ (s : Shared) (u : Value) (ws : List Value), X.K.In s.heap → ws.length = ks.length → BindsTo s fd ⟨[u], ks.zip ws⟩ (ps.zip (u :: gW ws))) (hv : ∀ {zs : List V} {ws : List Value}, Vals zs ws → Vals (gV zs) (gW ws)) (hr : Room k X.A) (hx : ∀ σ, PassesAt CX X σ (E σ))
    (hkw : PK X kws tk) (hall : (backToKw pos (keywordEach kws X.env)).all (·.1.isSome) = true := by rfl) (hks : (backToKw pos (keywordEach kws X.env)).filterMap (·.1) = ks := by rfl)
    (hpl : ((backTo pos (starEach [] X.env)).any (·.1) || (backToKw pos (keywordEach kws X.env)).any (·.1.isNone)) = false := by rfl)
    (ht : eval (.Call (.Attribute o m apos) [] kws pos) X.env = (do
      let ov ← eval o X.env
      standAt apos.atName
      let (f, first) ← holding [ov] (getMethod ov m pl)
      callWith pos f first (backTo pos (starEach [] X.env)) (backToKw pos (keywordEach kws X.env))) := by rfl) :
    PE X (.Call (.Attribute o m apos) [] kws pos) (tCMethK C sp ks.length gV E ta tk) := by
  refine ⟨fun pins s σ H Q I h => ?_⟩
  refine PySem.W.methodCall_KW (pl := pl) (thn (he.run pins s σ H _ I h) fun u s1 ⟨x, H1, I1, rx, ex, q⟩ => ?_) ht
  subst ex
  obtain rfl : u = Value.ref C := rx
  refine ClX.getmethcm_ok I1 r c fun s2 I2 => ?_
  refine PySem.W.callWith_of (P := PySem.W.MethP X.K s1.heap.objs.size g (.ref C)) hpl (PySem.W.keeps_M c.fi) (PyProof.Rows.evalArgs_kw2_nil hall (thn (hkw.run pos _ s2 σ H1 _ I2 q) fun ws s3 ⟨zs, H2, I3, rz, lz, q2⟩ => ⟨⟨ClX.pin_at I3, I3.kIn⟩, ?_⟩))
  rw [hks]
  exact run_cmS F hr (hx σ) I3 (hb s3 (.ref C) ws I3.kIn (rz.length.symm.trans lz)) (hv rz) q2
end
def sw2 {α : Type} : List α → List α
  | [a, b] => [b, a]
  | l => l
theorem vals_sw2 {zs : List V} {ws : List Value} (r : Vals zs ws) : Vals (sw2 zs) (sw2 ws) := by
  cases r with
  | nil => exact .nil
  | cons r1 r =>
    cases r with
    | nil => exact .cons r1 .nil
    | cons r2 r =>
      cases r with
      | nil => exact .cons r2 (.cons r1 .nil)
      | cons r3 r => exact .cons r1 (.cons r2 (.cons r3 r))
/-! ### an error class with one field -/
structure OneF (K : PySem.W.Frag) (C fI : Addr) (f : Str) : Prop where
  ox : OexC K C
  no : PySem.W.findIn K (.ref C) f = some none
  iC : PySem.W.findIn K (.ref C) "__init__" = some (some (.ref fI))
  tI : PySem.W.typeIn K (.ref fI) = some (.type "function")
  xf : XfC K C
  ec : ExcC K C
def spOne (K : PySem.W.Frag) (f : Str) : Sp := fun vs H Q _ => ∃ (a C : Addr) (v : V), vs = [.ref a, v] ∧ H a = some (exo a C none) ∧ OexC K C ∧ PySem.W.findIn K (.ref C) f = some none ∧ ∀ dx, H dx = none → dx ≠ a → Q .non (upd (upd H dx (exd dx [(f, v)])) a (exo a C (some dx)))
/-- what such a raise leaves -/
def OneMade (f : Str) (v : V) (H : Hp) (d : Option Addr) (H' : Hp) : Prop := ∃ dd, d = some dd ∧ H' dd = some (.xd [(f, v)]) ∧ Same H H'
theorem mk_one {K : PySem.W.Frag} {C fI : Addr} {f : Str} (T : OneF K C fI f) {v : V} {H : Hp} {E : XK} (h : ∀ d H', OneMade f v H d H' → E (.ref C) d H') : ∀ {ta : TA} {σ : L2.St}, ta σ H (fun vs H1 => vs = [v] ∧ H1 = H) → True := fun _ => trivial
theorem one_end {K : PySem.W.Frag} {C fI : Addr} {f : Str} (T : OneF K C fI f) {v : V} {H1 : Hp} {E : XK} (h : ∀ d H', OneMade f v H1 d H' → E (.ref C) d H') :
    ∀ a, H1 a = none → spOne K f (.ref a :: ([v] ++ [])) (upd H1 a (exo a C none))
      (fun v H2 => v = .non ∧ ∃ (d : Addr) (fs : List (Str × V)), H2 a = some (exo a C (some d)) ∧ H2 d = some (exd d fs) ∧ H1 d = none ∧ E (.ref C) (some d) (upd (L2.del H2 a) d (.xd fs))) (fun _ _ _ => False) := by
  intro a ha
  refine ⟨a, C, v, rfl, upd_same, T.ox, T.no, fun dx hdx hne => ⟨rfl, dx, [(f, v)], upd_same, ?_, ?_, ?_⟩⟩
  · rw [upd_ne hne]; exact upd_same
  · rw [upd_ne hne] at hdx; exact hdx
  · refine h _ _ ⟨dx, rfl, upd_same, fun b o e => ?_⟩
    have hba : b ≠ a := ne_of_none e ha
    have hbd : b ≠ dx := fun z => by
      rw [← z, upd_ne hba, e] at hdx
      cases hdx
    rw [upd_ne hbd, L2.del_ne hba, upd_ne hba, upd_ne hbd, upd_ne hba]
    exact e
end Ev
namespace Ev
open PySem PySem.Spec PyProof.Rows L2
/-! ### a method of an instance, where what is raised is wished for at the slots: by place, by name -/
def tMethS (C : Addr) (m : Str) (sp : Sp) (E : L2.St → XK) (ta : TE) (t : TA) : TE := fun σ H Q => ta σ H fun x H1 => ∃ a dx fs, x = .ref a ∧ H1 a = some (.ins C dx fs) ∧ fs.lookup m = none ∧ t σ H1 fun vs H2 => sp (.ref a :: vs) H2 Q (E σ)
def tMethK (C : Addr) (m : Str) (sp : Sp) (n : Nat) (gV : List V → List V) (E : L2.St → XK) (ta : TE) (tk : TA) : TE := fun σ H Q => ta σ H fun x H1 => ∃ a dx fs, x = .ref a ∧ H1 a = some (.ins C dx fs) ∧ fs.lookup m = none ∧ tk σ H1 fun zs H2 => zs.length = n ∧ sp (.ref a :: gV zs) H2 Q (E σ)
section
variable {X : Cx} {CX : CXT} {k : Nat} {C f : Addr} {fd : FuncData} {ps ks : List Str} {sp : Sp} {E : L2.St → XK} {o e : Expr} {es : List Expr} {m : Str} {pos apos : Pos} {ta : TE} {t tk : TA} {pl : Sem Bool} {kws : List Keyword}
theorem run_fnKS {pins : List (Addr × Obj)} {σ : L2.St} {H : Hp} {s : Shared} {Q : VK} {us : List Value} {kw : List (Str × Value)} {ws : List Value} {vs : List V} (F : FnOk X.prog X.w X.K X.mg X.base CX k f fd ps sp) (hr : Room k X.A) (hx : PassesAt CX X σ (E σ)) (I : Inv X pins σ H s)
    (hb : BindsTo s fd ⟨us, kw⟩ (ps.zip ws)) (r : Vals vs ws) (h : sp vs H Q (E σ)) : wpAny (model X.prog X.w) X.A (call (.ref f) us kw) (EP X pins σ Q) X.xe s := by
  refine wpAny_call (codeAny_mono (F.run X.A X.stack s H ⟨us, kw⟩ ws vs Q (E σ) hr I.env0 hb r h) fun r s' hq => ?_)
  cases r with
  | error e => exact hx _ H s e s' I hq
  | ok fl =>
    cases fl with
    | ret u => exact I.after hq
    | next => exact False.elim hq
    | brk => exact False.elim hq
    | cont => exact False.elim hq
theorem pe_methS (he : PE X o ta) (c : Cls X.K C) (hm : Meth X.K C m f) (F : FnOk X.prog X.w X.K X.mg X.base CX k f fd ps sp) (hr : Room k X.A) (hb : Binds X.K fd ps []) (hx : ∀ σ, PassesAt CX X σ (E σ)) (ha : PA X (e :: es) t)
    (hst : starEach (e :: es) X.env = (false, eval e X.env) :: starEach es X.env := by rfl) (hpl : (backTo pos (starEach es X.env)).any (·.1) = false := by rfl)
    (ht : eval (.Call (.Attribute o m apos) (e :: es) [] pos) X.env = (do
      let ov ← eval o X.env
      standAt apos.atName
      let (f, first) ← holding [ov] (getMethod ov m pl)
      callWith pos f first (backTo pos (starEach (e :: es) X.env)) (backToKw pos (keywordEach [] X.env))) := by rfl) :
    PE X (.Call (.Attribute o m apos) (e :: es) [] pos) (tMethS C m sp E ta t) := by
  refine ⟨fun pins s σ H Q I h => ?_⟩
  refine PySem.W.methodCall_KW (pl := pl) (thn (he.run pins s σ H _ I h) fun u s1 ⟨x, H1, I1, rx, a, dx, fs, ex, ea, l, q⟩ => ?_) ht
  subst ex
  obtain rfl : u = Value.ref a := rx
  refine getmeth_ok I1 ea c hm l ?_
  refine PySem.W.callWith_K (first := [.ref a]) (h₀ := X.base) I.ok.mod.kin hm.kp (thn (ha.run pos pins s1 σ H1 _ I1 q) fun us s2 ⟨vs, H2, I2, r, q2⟩ => ⟨I2.kIn, ?_⟩) hst hpl
  exact run_fnS (us := .ref a :: us) (vs := .ref a :: vs) F hr hb (hx σ) I2 (.cons rfl r) q2
theorem pe_methK {gV : List V → List V} {gW : List Value → List Value} (he : PE X o ta) (c : Cls X.K C) (hm : Meth X.K C m f) (F : FnOk X.prog X.w X.K X.mg X.base CX k f fd ps sp)
    (hb : ∀ (s : Shared) (u : Value) (ws : List Value), X.K.In s.heap → ws.length = ks.length → BindsTo s fd ⟨[u], ks.zip ws⟩ (ps.zip (u :: gW ws))) (hv : ∀ {zs : List V} {ws : List Value}, Vals zs ws → Vals (gV zs) (gW ws)) (hr : Room k X.A) (hx : ∀ σ, PassesAt CX X σ (E σ))
    (hkw : PK X kws tk) (hall : (backToKw pos (keywordEach kws X.env)).all (·.1.isSome) = true := by rfl) (hks : (backToKw pos (keywordEach kws X.env)).filterMap (·.1) = ks := by rfl)
    (hpl : ((backTo pos (starEach [] X.env)).any (·.1) || (backToKw pos (keywordEach kws X.env)).any (·.1.isNone)) = false := by rfl)
    (ht : eval (.Call (.Attribute o m apos) [] kws pos) X.env = (do
      let ov ← eval o X.env
      standAt apos.atName
      let (f, first) ← holding [ov] (getMethod ov m pl)
      callWith pos f first (backTo pos (starEach [] X.env)) (backToKw pos (keywordEach kws X.env))) := by rfl) :
    PE X (.Call (.Attribute o m apos) [] kws pos) (tMethK C m sp ks.length gV E ta tk) := by
  refine ⟨fun pins s σ H Q I h => ?_⟩
  refine PySem.W.methodCall_KW (pl := pl) (thn (he.run pins s σ H _ I h) fun u s1 ⟨x, H1, I1, rx, a, dx, fs, ex, ea, l, q⟩ => ?_) ht
  subst ex
  obtain rfl : u = Value.ref a := rx
  refine getmeth_ok I1 ea c hm l ?_
  refine PySem.W.callWith_of (P := fun h => X.K.In h) hpl (PySem.W.keeps_K hm.kp) (PyProof.Rows.evalArgs_kw2_nil hall (thn (hkw.run pos pins s1 σ H1 _ I1 q) fun ws s3 ⟨zs, H2, I3, rz, lz, q2⟩ => ⟨I3.kIn, ?_⟩))
  rw [hks]
  have r2 : Vals (V.ref a :: gV zs) (Value.ref a :: gW ws) := .cons rfl (hv rz)
  exact run_fnKS F hr (hx σ) I3 (hb s3 (.ref a) ws I3.kIn (rz.length.symm.trans lz)) r2 q2
end
/-! ### told -/
end Ev
namespace Ev
open PySem PySem.Spec PyProof.Rows L2
/-! ### defs that may raise, called by place and by names; errors of one field, made -/
theorem OneMade.of {f : Str} {v : V} {H H1 H' : Hp} {d : Option Addr} (s : Same H H1) (h : OneMade f v H1 d H') : OneMade f v H d H' := by
  obtain ⟨dd, e, h1, h2⟩ := h
  exact ⟨dd, e, h1, s.trans h2⟩
structure CaX (P : Program) (w : World) (K : PySem.W.Frag) (mg : Str → Option Value) (base : Heap) (k : Nat) (x : Str) (sp : Sp) : Prop where
  ex : ∃ (f : Addr) (fd : FuncData) (ps : List Str), FnOk P w K mg base (L2.CX P w) k f fd ps sp ∧ mg x = some (.ref f) ∧ PySem.W.keepIn K (.ref f) = true ∧ Binds K fd ps []
/-- .. by the names ks, of which gV makes the order of the def -/
structure CaK (P : Program) (w : World) (K : PySem.W.Frag) (mg : Str → Option Value) (base : Heap) (CX : CXT) (k : Nat) (x : Str) (ks : List Str) (gV : List V → List V) (sp : Sp) : Prop where
  ex : ∃ (f : Addr) (fd : FuncData) (ps : List Str) (gW : List Value → List Value), FnOk P w K mg base CX k f fd ps sp ∧ mg x = some (.ref f) ∧ PySem.W.keepIn K (.ref f) = true ∧
    (∀ (s : Shared) (ws : List Value), K.In s.heap → ws.length = ks.length → BindsTo s fd ⟨[], ks.zip ws⟩ (ps.zip (gW ws))) ∧ (∀ {zs : List V} {ws : List Value}, Vals zs ws → Vals (gV zs) (gW ws))
def tCallSK (sp : Sp) (n : Nat) (gV : List V → List V) (E : L2.St → XK) (tk : TA) : TE := fun σ H Q => tk σ H fun zs H1 => zs.length = n ∧ sp (gV zs) H1 Q (E σ)
structure ErrT (P : Program) (w : World) (K : PySem.W.Frag) (mg : Str → Option Value) (base : Heap) (x f : Str) (C : Addr) : Prop where
  ex : ∃ (fI : Addr) (fd : FuncData), OneF K C fI f ∧ FnOk P w K mg base CX0 1 fI fd ["self", f] (spOne K f) ∧ Binds K fd ["self", f] []
  g : mg x = some (.ref C)
/-- what is asked where such an error is made -/
def tErr (C : Addr) (f : Str) (ta : TA) : L2.St → Hp → XK → Prop := fun σ H E => ta σ H fun vs H1 => ∃ v, vs = [v] ∧ ∀ d H', OneMade f v H1 d H' → E (.ref C) d H'
section
variable {X : Cx} {CX : CXT} {k j : Nat} {ks : List Str} {sp : Sp} {e : Expr} {es : List Expr} {x f : Str} {p pos : Pos} {t tk : TA} {kws : List Keyword} {C : Addr}
theorem passAt0 {E : L2.St → XK} (σ : L2.St) : PassesAt CX0 X σ (E σ) := fun _ _ _ _ _ _ h => h.elim
theorem pe_cX {E : XK} (c : CaX X.prog X.w X.K X.mg X.base k x sp) (hr : Room j X.A) (hk : k ≤ j) (hg : Gl X x) (hx : Passes (L2.CX X.prog X.w) X E) (ha : PA X (e :: es) t)
    (hdb : (x == ("__debug__" : Str)) = false := by decide) (he : starEach (e :: es) X.env = (false, eval e X.env) :: starEach es X.env := by rfl) (hpl : (backTo pos (starEach es X.env)).any (·.1) = false := by rfl) :
    PE X (.Call (.Name x p) (e :: es) [] pos) (tCall sp [] E t) := by
  obtain ⟨f, fd, ps, F, hm, kp, b⟩ := c.ex
  exact pe_call F (hr.mono hk) hg hm kp b .nil hx ha hdb he hpl
theorem pe_cS {E : L2.St → XK} (c : CaX X.prog X.w X.K X.mg X.base k x sp) (hr : Room j X.A) (hk : k ≤ j) (hg : Gl X x) (hx : ∀ σ, PassesAt (L2.CX X.prog X.w) X σ (E σ)) (ha : PA X (e :: es) t)
    (hdb : (x == ("__debug__" : Str)) = false := by decide) (he : starEach (e :: es) X.env = (false, eval e X.env) :: starEach es X.env := by rfl) (hpl : (backTo pos (starEach es X.env)).any (·.1) = false := by rfl) :
    PE X (.Call (.Name x p) (e :: es) [] pos) (tCallS sp E t) := by
  obtain ⟨f, fd, ps, F, hm, kp, b⟩ := c.ex
  exact pe_callS F (hr.mono hk) hg hm kp b hx ha hdb he hpl
theorem pe_cSK {E : L2.St → XK} {gV : List V → List V} (c : CaK X.prog X.w X.K X.mg X.base CX k x ks gV sp) (hr : Room j X.A) (hk : k ≤ j) (hg : Gl X x) (hx : ∀ σ, PassesAt CX X σ (E σ)) (hkw : PK X kws tk)
    (hall : (backToKw pos (keywordEach kws X.env)).all (·.1.isSome) = true := by rfl) (hks : (backToKw pos (keywordEach kws X.env)).filterMap (·.1) = ks := by rfl)
    (hpl : ((backTo pos (starEach [] X.env)).any (·.1) || (backToKw pos (keywordEach kws X.env)).any (·.1.isNone)) = false := by rfl) (hdb : (x == ("__debug__" : Str)) = false := by decide) :
    PE X (.Call (.Name x p) [] kws pos) (tCallSK sp ks.length gV E tk) := by
  obtain ⟨f, fd, ps, gW, F, hm, kp, hb, hv⟩ := c.ex
  refine ⟨fun pins s σ H Q I h => ?_⟩
  refine wpAny_Call_Name_kw (ld_glob I hg hm ?_ hdb)
  refine PySem.W.callWith_KW0 (h₀ := X.base) I.ok.mod.kin kp hall (thn (hkw.run pos pins s σ H _ I h) fun ws s3 ⟨zs, H2, I3, rz, lz, q2⟩ => ⟨I3.kIn, ?_⟩) hpl
  rw [hks]
  exact run_fnKS F (hr.mono hk) (hx σ) I3 (hb s3 ws I3.kIn (rz.length.symm.trans lz)) (hv rz) q2
theorem pa_weak {es : List Expr} (ha : PA X es t) : PA X es (fun σ H Q => ∃ R, t σ H R ∧ ∀ vs H1, R vs H1 → Q vs H1) :=
  ⟨fun pos pins s σ H Q I ⟨R, hR, hi⟩ => thn (ha.run pos pins s σ H R I hR) fun us s1 ⟨vs, H1, I1, r1, q1⟩ => ⟨vs, H1, I1, r1, hi vs H1 q1⟩⟩
theorem pmk_err (Z : ErrT X.prog X.w X.K X.mg X.base x f C) (hr : Room j X.A) (hk : 2 ≤ j) (hg : Gl X x) (ha : PA X [e] t)
    (hdb : (x == ("__debug__" : Str)) = false := by decide) (he : starEach [e] X.env = (false, eval e X.env) :: starEach [] X.env := by rfl) (hpl : (backTo pos (starEach [] X.env)).any (·.1) = false := by rfl) :
    PMk X (.Call (.Name x p) [e] [] pos) (tErr C f t) := by
  obtain ⟨fI, fd, T, F, b⟩ := Z.ex
  have m := pmk_oex (p := p) (pos := pos) T.ox T.iC T.tI F (hr.mono hk) b .nil pass0 hg Z.g (pa_weak ha) hdb he hpl
  intro pins s σ H Q I h
  refine m pins s σ H Q I ⟨_, h, ?_⟩
  rintro vs H1 ⟨v, rfl, hE⟩
  exact ⟨(by show 1 ≤ 1000; decide), one_end T hE⟩
end
end Ev
namespace Ev
open PySem PySem.Spec PyProof.Rows L2
/-! ### unions and joins -/
theorem lex_nodup {l : List (Int × Int)} (h : l.Pairwise lexlt) : l.Nodup := List.Pairwise.imp (R := lexlt) (S := fun a b => a ≠ b) (fun {a b} h e => by
  subst e
  exact lex_irr h) h
def addL (n : Nat) (ps qs : List (Int × Int)) : List (Int × Int) := ps ++ movL qs n
theorem movL_mem {qs : List (Int × Int)} {m : Int} {q : Int × Int} : q ∈ movL qs m ↔ (q.1 - m, q.2 - m) ∈ qs := by
  unfold movL
  rw [List.mem_map]
  constructor
  · rintro ⟨r, hr, rfl⟩
    have e : ((r.1 + m - m, r.2 + m - m) : Int × Int) = r := by
      obtain ⟨r1, r2⟩ := r
      simp
    rw [e]
    exact hr
  · intro h
    exact ⟨_, h, by obtain ⟨q1, q2⟩ := q; simp⟩
theorem movL_bd {m n : Nat} {qs : List (Int × Int)} (g : Good m qs) {q : Int × Int} (hq : q ∈ movL qs n) : (n : Int) ≤ q.1 ∧ q.1 < q.2 ∧ q.2 < ((n + m : Nat) : Int) := by
  have := g.bd _ (movL_mem.mp hq)
  dsimp only at this
  omega
theorem movL_pw {m : Int} {qs : List (Int × Int)} (h : qs.Pairwise lexlt) : (movL qs m).Pairwise lexlt := by
  unfold movL
  rw [List.pairwise_map]
  exact h.imp fun {a b} h => by
    rcases h with h | ⟨h, h'⟩
    · exact .inl (by show a.1 + m < b.1 + m; omega)
    · exact .inr ⟨by show a.1 + m = b.1 + m; omega, by show a.2 + m < b.2 + m; omega⟩
theorem addL_good {n m : Nat} {ps qs : List (Int × Int)} (g : Good n ps) (h : Good m qs) : Good ((n + m : Nat) : Int) (addL n ps qs) := by
  refine ⟨fun q hq => ?_, ?_⟩
  · rcases List.mem_append.mp hq with hq | hq
    · have := g.bd q hq; omega
    · have := movL_bd h hq; omega
  · refine List.pairwise_append.mpr ⟨g.pw, movL_pw h.pw, fun a ha b hb => ?_⟩
    have := g.bd a ha
    have := movL_bd h hb
    exact .inl (by omega)
def joinP (n : Nat) (ps qs : List (Int × Int)) (q : Int × Int) : Bool := decide (q ∈ ps) || (decide (q.1 < n) && decide ((n : Int) ≤ q.2) || decide ((q.1 - n, q.2 - n) ∈ qs))
def joinL (n m : Nat) (ps qs : List (Int × Int)) : List (Int × Int) := (prs (upto (n + m))).filter (joinP n ps qs)
theorem joinL_good (n m : Nat) (ps qs : List (Int × Int)) : Good ((n + m : Nat) : Int) (joinL n m ps qs) := (good_prs _).filter _
def btwR (n m i : Nat) : List (Int × Int) := (List.range m).map fun j => ((i : Int), ((n + j : Nat) : Int))
def btwTo (n m i : Nat) : List (Int × Int) := (List.range i).flatMap (btwR n m)
theorem btwTo_succ (n m i : Nat) : btwTo n m (i + 1) = btwTo n m i ++ btwR n m i := by
  unfold btwTo
  rw [List.range_succ, List.flatMap_append, List.flatMap_singleton]
theorem btwR_len (n m i : Nat) : (btwR n m i).length = m := by unfold btwR; rw [List.length_map, List.length_range]
theorem btwTo_len (n m : Nat) : ∀ i, (btwTo n m i).length = i * m
  | 0 => by show 0 = _; omega
  | i + 1 => by rw [btwTo_succ, List.length_append, btwTo_len n m i, btwR_len, Nat.succ_mul]
theorem btwR_get {n m i j : Nat} (h : j < m) : (btwR n m i)[j]? = some ((i : Int), ((n + j : Nat) : Int)) := by
  unfold btwR
  rw [List.getElem?_map, List.getElem?_range h]
  rfl
theorem btw_mem {n m i : Nat} {q : Int × Int} : q ∈ btwTo n m i ↔ 0 ≤ q.1 ∧ q.1 < i ∧ (n : Int) ≤ q.2 ∧ q.2 < ((n + m : Nat) : Int) := by
  unfold btwTo btwR
  constructor
  · intro h
    obtain ⟨a, ha, h⟩ := List.mem_flatMap.mp h
    obtain ⟨b, hb, rfl⟩ := List.mem_map.mp h
    have := List.mem_range.mp ha
    have := List.mem_range.mp hb
    dsimp only
    omega
  · rintro ⟨h1, h2, h3, h4⟩
    refine List.mem_flatMap.mpr ⟨q.1.toNat, List.mem_range.mpr (by omega), List.mem_map.mpr ⟨(q.2 - n).toNat, List.mem_range.mpr (by omega), ?_⟩⟩
    obtain ⟨q1, q2⟩ := q
    dsimp only at h1 h2 h3 h4 ⊢
    congr 1 <;> omega
theorem btw_pw (n m : Nat) : ∀ i, (btwTo n m i).Pairwise lexlt
  | 0 => .nil
  | i + 1 => by
    rw [btwTo_succ]
    refine List.pairwise_append.mpr ⟨btw_pw n m i, ?_, fun a ha b hb => ?_⟩
    · unfold btwR
      rw [List.pairwise_map]
      exact List.pairwise_lt_range.imp fun h => .inr ⟨rfl, by dsimp only; omega⟩
    · have h1 := btw_mem.mp ha
      unfold btwR at hb
      obtain ⟨c, _, rfl⟩ := List.mem_map.mp hb
      exact .inl (by dsimp only; omega)
theorem join_perm {n m : Nat} {ps qs : List (Int × Int)} (g : Good n ps) (h : Good m qs) : (joinL n m ps qs).Perm ((ps ++ btwTo n m n) ++ movL qs n) := by
  refine (List.perm_ext_iff_of_nodup (lex_nodup (joinL_good n m ps qs).pw) ?_).mpr fun q => ?_
  · refine List.nodup_append.mpr ⟨List.nodup_append.mpr ⟨lex_nodup g.pw, lex_nodup (btw_pw n m n), fun a ha b hb e => ?_⟩, lex_nodup (movL_pw h.pw), fun a ha b hb e => ?_⟩
    · subst e
      have := g.bd a ha
      have := btw_mem.mp hb
      omega
    · subst e
      have hm := movL_bd h hb
      rcases List.mem_append.mp ha with ha | ha
      · have := g.bd a ha; omega
      · have := btw_mem.mp ha; omega
  · unfold joinL
    rw [List.mem_filter, List.mem_append, List.mem_append, btw_mem, movL_mem]
    unfold joinP
    rw [Bool.or_eq_true, Bool.or_eq_true, Bool.and_eq_true, decide_eq_true_eq, decide_eq_true_eq, decide_eq_true_eq, decide_eq_true_eq]
    constructor
    · rintro ⟨hp, h1⟩
      have hb := (good_prs (n + m)).bd q hp
      rcases h1 with h1 | ⟨h1, h2⟩ | h1
      · exact .inl (.inl h1)
      · exact .inl (.inr ⟨by omega, h1, h2, by omega⟩)
      · exact .inr h1
    · rintro ((h1 | h1) | h1)
      · have hb := g.bd q h1
        exact ⟨good_mem (n := n + m) ⟨fun r hr => by have := g.bd r hr; omega, g.pw⟩ h1, .inl h1⟩
      · refine ⟨?_, .inr (.inl ⟨h1.2.1, h1.2.2.1⟩)⟩
        obtain ⟨q1, q2⟩ := q
        dsimp only at h1
        obtain ⟨a, rfl⟩ : ∃ a : Nat, q1 = a := ⟨q1.toNat, by omega⟩
        obtain ⟨b, rfl⟩ : ∃ b : Nat, q2 = b := ⟨q2.toNat, by omega⟩
        exact prs_mem (by omega) (by omega)
      · have hb := movL_bd h (movL_mem.mpr h1)
        refine ⟨?_, .inr (.inr h1)⟩
        obtain ⟨q1, q2⟩ := q
        dsimp only at hb
        obtain ⟨a, rfl⟩ : ∃ a : Nat, q1 = a := ⟨q1.toNat, by omega⟩
        obtain ⟨b, rfl⟩ : ∃ b : Nat, q2 = b := ⟨q2.toNat, by omega⟩
        exact prs_mem (by omega) (by omega)
def spReqV (CT : Addr) : Sp := fun vs H Q E => ∃ c m : Int, vs = [.int c, .int m] ∧ (m < c → ∀ d H', OneMade "what" (.str "vertices") H d H' → E (.ref CT) d H') ∧ (¬ m < c → Q .non H)
def spCommon (C CT : Addr) : Sp := fun vs H Q E => ∃ (a b : Addr) (n m : Nat) (ps qs : List (Int × Int)), vs = [.ref a, .ref b] ∧ GrAt C H a n ps ∧ GrAt C H b m qs ∧ n ≤ 24 ∧ m ≤ 24 ∧
  (24 < n + m → ∀ d H', OneMade "what" (.str "vertices") H d H' → E (.ref CT) d H') ∧ (n + m ≤ 24 → Q (.int ((n + m : Nat) : Int)) H)
def spSum (C CT : Addr) (f : Nat → Nat → List (Int × Int) → List (Int × Int) → List (Int × Int)) : Sp := fun vs H Q E => ∃ (a b : Addr) (n m : Nat) (ps qs : List (Int × Int)), vs = [.ref a, .ref b] ∧ GrAt C H a n ps ∧ GrAt C H b m qs ∧ Good n ps ∧ Good m qs ∧ 1 ≤ n ∧ 1 ≤ m ∧ n ≤ 24 ∧ m ≤ 24 ∧
  (24 < n + m → ∀ d H', OneMade "what" (.str "vertices") H d H' → E (.ref CT) d H') ∧ (n + m ≤ 24 → ∀ H' g', Same H H' → GrAt C H' g' (n + m) (f n m ps qs) → Q (.ref g') H')
theorem catA_any {K : PySem.W.Frag} {H : Hp} {a b : Addr} {xs ys : List V} {Q : VK} (ha : H a = some (.tup xs)) (hb : H b = some (.tup ys)) (hz : xs.length + ys.length ≤ sizeLine) (q : ∀ H' t, Same H H' → H' t = some (.tup (xs ++ ys)) → Q (.ref t) H') : rCatA K (.ref a) (.ref b) H Q := by
  refine ⟨a, b, xs, ys, rfl, rfl, .of ha, .of hb, hz, fun hx => ?_, fun _ hy => ?_, fun _ _ p hp => q _ p (same_new hp) upd_same⟩
  · subst hx
    exact q H b (Same.refl H) hb
  · subst hy
    exact q H a (Same.refl H) (by rw [List.append_nil]; exact ha)
section
variable {P : Program} {w : World} {K : PySem.W.Frag} {mg : Str → Option Value} {base : Heap} {C : Addr}
theorem ok_require_vertices {f : Addr} {fd : FuncData} (F : Fun K "require_vertices" "require_vertices" s_require_vertices f fd) {CT : Addr} (e_TooLarge : ErrT P w K mg base "TooLarge" "what" CT) : FnOk P w K mg base (L2.CX P w) 3 f fd ["count", "most"] (spReqV CT) := by
  refine F.okX scs_require_vertices (fun vs H Q E h => ?_) (fun cdv A' outer s H vs Q E hr h => ?_)
  · obtain ⟨c, m, rfl, _⟩ := h
    rfl
  · obtain ⟨c, m, rfl, hE, hQ⟩ := h
    refine ⟨_, (pss_one (ps_if (pt_cmpR op_gt (pv 0) (pv 1) (nomark _))
        (pss_one (ps_raise rfl (takes_of rfl rfl rfl rfl) (pmk_err e_TooLarge hr (by decide) (by rfl) (pa_cons pe_str pa_nil)))) pss_nil)), ?_⟩
    refine ⟨_, rfl, _, rfl, _, _, rfl, rfl, _, rfl, ite2 (fun c => ?_) (fun c => ?_)⟩
    · exact ⟨_, rfl, fun d H' hm => hE (of_decide_eq_true c) d H' hm⟩
    · exact hQ fun z => c (decide_eq_true z)
theorem ok_common_size {f : Addr} {fd : FuncData} (F : Fun K "common_size" "common_size" s_common_size f fd) {CT : Addr} (G : GrT K C) (A : GrA K C) (h_MOST_VERTICES : ∃ u, mg "MOST_VERTICES" = some u ∧ RelV (.int 24) u) (c_require_vertices : CaX P w K mg base 3 "require_vertices" (spReqV CT)) : FnOk P w K mg base (L2.CX P w) 4 f fd ["one", "other"] (spCommon C CT) := by
  refine F.okX scs_common_size (fun vs H Q E h => ?_) (fun cdv A' outer s H vs Q E hr h => ?_)
  · obtain ⟨a, b, n, m, ps, qs, rfl, _⟩ := h
    rfl
  · obtain ⟨a, b, n, m, ps, qs, rfl, ha, hb, h1, h2, hE, hQ⟩ := h
    refine ⟨_, (pss_cons (ps_set (i := 2) scs_common_size.nd rfl (Or.inl rfl) (pe_op op_add (pe_fld (pv 0) rfl) (pe_fld (pv 1) rfl)))
      (pss_cons (ps_expr (pe_cX c_require_vertices hr (by decide) (by rfl) (passes_call (takes_of rfl rfl rfl rfl) (fun _ _ _ _ h => h)) (pa_cons (pv 2) (pa_cons (C8.pe_gc (by rfl) h_MOST_VERTICES) pa_nil))))
      (pss_one (ps_ret (pv 2))))), ?_⟩
    obtain ⟨dx, e, vt, r, xs, rs, k1, k2, k3, _⟩ := ha.ex
    obtain ⟨dx', e', vt', r', xs', rs', k1', k2', k3', _⟩ := hb.ex
    refine ⟨_, rfl, a, C, dx, _, .int (n : Int), rfl, k1, G.cl, A.s, rfl, _, rfl, b, C, dx', _, .int (m : Int), rfl, k1', G.cl, A.s, rfl, _, _, rfl, rfl, ?_⟩
    have en : (fun i j : Int => V.int (i + j)) (n : Int) (m : Int) = V.int ((n + m : Nat) : Int) := congrArg V.int (by omega)
    rw [en]
    refine ⟨_, rfl, _, _, rfl, fun h d H' hm => hE (by omega) d H' hm, fun h => ⟨_, rfl, hQ (by omega)⟩⟩
theorem ok_plus {f : Addr} {fd : FuncData} (F : Fun K "__add__" "Graph.__add__" s_Graph___add__ f fd) {CT : Addr} (G : GrT K C) (A : GrA K C) (c_common_size : CaX P w K mg base 4 "common_size" (spCommon C CT)) (c_moved_edges : Ca P w K mg base 1 "moved_edges" spMoved) (cG : C8.Mak P w K mg base 6 "Graph" C (spInit C) []) : FnOk P w K mg base (L2.CX P w) 8 f fd ["self", "other"] (spSum C CT fun n _ ps qs => addL n ps qs) := by
  refine F.okX scs_Graph___add__ (fun vs H Q E h => ?_) (fun cdv A' outer s H vs Q E hr h => ?_)
  · obtain ⟨a, b, n, m, ps, qs, rfl, _⟩ := h
    rfl
  · obtain ⟨a, b, n, m, ps, qs, rfl, ha, hb, hG1, hG2, h1n, h1m, h24, h24m, hE, hQ⟩ := h
    refine ⟨_, (pss_cons (ps_set (i := 2) scs_Graph___add__.nd rfl (Or.inl rfl) (pe_cX c_common_size hr (by decide) (by rfl) (passes_call (takes_of rfl rfl rfl rfl) (fun _ _ _ _ h => h)) (pa_cons (pv 0) (pa_cons (pv 1) pa_nil))))
      (pss_one (ps_ret (C8.pe_mk cG hr (by decide) (by rfl) (pa_cons (pv 2) (pa_cons (pe_op op_catA (pe_fld (pv 0) rfl) (C8.pe_c c_moved_edges hr (by decide) (by rfl) (pa_cons (pe_fld (pv 1) rfl) (pa_cons (pe_fld (pv 0) rfl) pa_nil)))) pa_nil)))))), ?_⟩
    obtain ⟨dx, e, vt, r, xs, rs, k1, k2, k3, _⟩ := ha.ex
    obtain ⟨dx', e', vt', r', xs', rs', k1', k2', k3', _⟩ := hb.ex
    refine ⟨_, rfl, _, rfl, a, b, n, m, ps, qs, rfl, ha, hb, h24, h24m, hE, fun hs => ?_⟩
    have l1 := good_len hG1 h24
    have l2 := good_len hG2 h24m
    refine ⟨_, rfl, _, rfl, a, C, dx, _, .ref e, rfl, k1, G.cl, A.e, rfl, ?_⟩
    refine ⟨_, rfl, b, C, dx', _, .ref e', rfl, k1', G.cl, A.e, rfl, _, rfl, a, C, dx, _, .int (n : Int), rfl, k1, G.cl, A.s, rfl, e', xs', qs, (n : Int), rfl, k2', k3', l2, fun H1 t ys s1 ht hP => ?_⟩
    have fin : ∀ {H2 : Hp} {e2 : Addr} {ws : List V}, Same H H2 → H2 e2 = some (.tup ws) → PrsAt H2 ws (addL n ps qs) → ∀ g' dx2, H2 g' = none → H2 dx2 = none → dx2 ≠ g' → spInit C (.ref g' :: ([.int ((n + m : Nat) : Int), .ref e2] ++ [])) (upd (upd H2 dx2 (.own g')) g' (.ins C dx2 [])) (fun v H3 => v = .non ∧ Q (.ref g') H3) C8.E0 := fun {H2 e2 ws} s2 he2 hP2 g' dx2 hg' hdx' hne' => by
      have hg5 : (upd H2 dx2 (.own g')) g' = none := by rw [upd_ne hne'.symm]; exact hg'
      have s6 := same_new (o := .own g') hdx'
      have s7 := same_new (o := .ins C dx2 []) hg5
      refine ⟨g', dx2, e2, n + m, ws, addL n ps qs, rfl, by omega, hs, upd_same, .inr (s7 _ _ (s6 _ _ he2)), hP2.kp (p := 0) (.of (s6.trans s7)), good_len (addL_good hG1 hG2) hs, addL_good hG1 hG2, fun H8 k8 g8 => ⟨rfl, ?_⟩⟩
      have s28 : Same H2 H8 := fun b o z => k8 b o (fun zz => by
        rw [zz, hg'] at z
        cases z) (s7 _ _ (s6 _ _ z))
      exact hQ hs H8 g' (s2.trans s28) g8
    have hcat : PrsAt H1 (xs ++ ys) (addL n ps qs) := paired_app (k3.kp (p := 0) (.of s1)) hP
    refine ⟨e, t, xs, ys, rfl, rfl, .inl (.inl (s1 _ _ k2)), .inl (.inl ht), ?_, fun hx => ?_, fun _ hy => ?_, fun _ _ p hp => ?_⟩
    · rw [paired_len k3, paired_len hP]
      unfold movL
      rw [List.length_map]
      exact Nat.le_of_lt (small1000 (by omega))
    · subst hx
      exact fin s1 ht hcat
    · subst hy
      rw [List.append_nil] at hcat
      exact fin s1 (s1 _ _ k2) hcat
    · have sp := same_new (o := .tup (xs ++ ys)) hp
      exact fin (s1.trans sp) upd_same (hcat.kp (p := 0) (.of sp))
theorem ok_times {f : Addr} {fd : FuncData} (F : Fun K "__mul__" "Graph.__mul__" s_Graph___mul__ f fd) {CT : Addr} (B : B0 mg) (G : GrT K C) (A : GrA K C) (hSorted : mg "sorted" = none) (c_common_size : CaX P w K mg base 4 "common_size" (spCommon C CT)) (c_moved_edges : Ca P w K mg base 1 "moved_edges" spMoved) (cG : C8.Mak P w K mg base 6 "Graph" C (spInit C) []) : FnOk P w K mg base (L2.CX P w) 8 f fd ["self", "other"] (spSum C CT joinL) := by
  refine F.okX scs_Graph___mul__ (fun vs H Q E h => ?_) (fun cdv A' outer s H vs Q E hr h => ?_)
  · obtain ⟨a, b, n, m, ps, qs, rfl, _⟩ := h
    rfl
  · obtain ⟨a, b, n, m, ps, qs, rfl, ha, hb, hG1, hG2, h1n, h1m, h24, h24m, hE, hQ⟩ := h
    refine ⟨_, (pss_cons (ps_set (i := 2) scs_Graph___mul__.nd rfl (Or.inr rfl) (pe_cX c_common_size hr (by decide) (by rfl) (passes_call (takes_of rfl rfl rfl rfl) (fun _ _ _ _ h => h)) (pa_cons (pv 0) (pa_cons (pv 1) pa_nil))))
      (pss_cons (ps_set (i := 3) scs_Graph___mul__.nd rfl (Or.inl rfl) (pe_callTy call_tuple_of (by rfl) B.tuple (by decide +kernel) (pa_cons (pe_lc2 (own := [("one", 4), ("two", 5)]) (vs1 := [5]) (g := (gName 4)) (tt := tYes) (g1 := (gName 5)) (tt1 := tYes) (wi1 := (iRng2 (tCons (tFld K (tVar 0) "size") (tCons (tVar 2) tNil)))) rfl scs_Graph___mul__.nd (pi_range1 rfl B.range (pa_cons (pe_fld (pv 0) rfl) pa_nil)) (blkOk_by (N := Ns_Graph___mul__) (sc := defScope s_Graph___mul__) (by decide +kernel)) (by decide) (fun _ _ _ _ _ => (pg_name (i := 4) scs_Graph___mul__.nd rfl (Or.inl rfl))) (fun _ _ _ _ _ => pts_nil) (fun _ _ _ _ _ => by exact (pi_range2 (by rfl) B.range (pa_cons (pe_fld (pv 0) rfl) (pa_cons (pv 2) pa_nil)))) (fun _ _ _ _ _ => (pg_name (i := 5) scs_Graph___mul__.nd rfl (Or.inl rfl))) (fun _ _ _ _ _ => pts_nil) (fun _ _ _ _ _ => (pe_tup (pa_cons (pv 4) (pa_cons (pv 5) pa_nil))))) pa_nil)))
      (pss_one (ps_ret (C8.pe_mk cG hr (by decide) (by rfl) (pa_cons (pv 2) (pa_cons (pe_callB cr_sortedPT (by rfl) hSorted (by decide +kernel) (pa_cons (pe_op op_catA (pe_op op_catA (pe_fld (pv 0) rfl) (pv 3)) (C8.pe_c c_moved_edges hr (by decide) (by rfl) (pa_cons (pe_fld (pv 1) rfl) (pa_cons (pe_fld (pv 0) rfl) pa_nil)))) pa_nil)) pa_nil))))))), ?_⟩
    obtain ⟨dx, e, vt, r, xs, rs, k1, k2, k3, _⟩ := ha.ex
    obtain ⟨dx', e', vt', r', xs', rs', k1', k2', k3', _⟩ := hb.ex
    refine ⟨_, rfl, _, rfl, a, b, n, m, ps, qs, rfl, ha, hb, h24, h24m, hE, fun hs => ?_⟩
    have l1 := good_len hG1 h24
    have l2 := good_len hG2 h24m
    have hnm : n * m ≤ 576 := Nat.le_trans (Nat.mul_le_mul h24 h24m) (by decide)
    have him : ∀ i, i ≤ n → i * m ≤ 576 := fun i hi => Nat.le_trans (Nat.mul_le_mul hi (Nat.le_refl m)) hnm
    refine ⟨_, rfl, a, C, dx, _, .int (n : Int), rfl, k1, G.cl, A.s, rfl, (n : Int), rfl, by omega, by omega, fun D hD => lc_out (walk_range (lo := 0) (n := n)) (fun i H' => Same H H' ∧ ∃ zs, H' D = some (.lst zs) ∧ PrsAt H' zs (btwTo n m i)) ⟨same_new hD, [], upd_same, .nil⟩ (fun i H' _ h => trivial) ?_ ?_⟩
    · rintro i x H2 H3 hi ⟨s2, zs, hD2, hP⟩ ⟨rfl, hx⟩
      obtain rfl : x = V.int (i : Int) := hx.trans (congrArg V.int (Int.zero_add _))
      refine ⟨rfl, tYes_i ?_⟩
      refine ⟨_, rfl, a, C, dx, _, .int (n : Int), rfl, s2 _ _ k1, G.cl, A.s, rfl, _, rfl, (n : Int), ((n + m : Nat) : Int), rfl, ⟨by omega, by omega, by omega, by omega⟩, ?_⟩
      have en : (((n + m : Nat) : Int) - (n : Int)).toNat = m := by omega
      rw [en]
      refine lc_in (walk_range (lo := n) (n := m)) (fun j H' => Same H H' ∧ ∃ zs, H' D = some (.lst zs) ∧ PrsAt H' zs (btwTo n m i ++ (btwR n m i).take j)) ⟨s2, zs, hD2, by rw [List.take_zero, List.append_nil]; exact hP⟩ (fun _ _ _ _ => trivial) ?_ ?_
      · rintro j x H6 H7 hj ⟨s7, ys, hD7, hP7⟩ ⟨rfl, hx⟩
        obtain rfl : x = V.int ((n + j : Nat) : Int) := hx.trans (congrArg V.int (by omega))
        refine ⟨rfl, tYes_i ?_⟩
        refine ⟨_, rfl, _, rfl, (by show 2 ≤ sizeLine; decide), fun t ht => ?_⟩
        have sT := same_new (o := .tup [.int (i : Int), .int ((n + j : Nat) : Int)]) ht
        refine ⟨ys, sT _ _ hD7, ?_, fun c o z => by rw [upd_ne (ne_of_none z hD)]; exact sT _ _ (s7 _ _ z), ys ++ [.ref t], upd_same, ?_⟩
        · rw [paired_len hP7, List.length_append, List.length_take, btwTo_len, btwR_len]
          have := him i (by omega)
          exact small1000 (by omega)
        · have kp : KP D H7 (upd (upd H7 t (.tup [.int (i : Int), .int ((n + j : Nat) : Int)])) D (.lst (ys ++ [.ref t]))) := (KP.of sT).trans (KP.put (sT _ _ hD7))
          have e2 : (btwR n m i).take (j + 1) = (btwR n m i).take j ++ [((i : Int), ((n + j : Nat) : Int))] := by
            rw [List.take_add_one, btwR_get hj]
            rfl
          rw [e2, ← List.append_assoc]
          exact paired_app (hP7.kp kp) (.cons ⟨t, rfl, (KP.put (p := D) (sT _ _ hD7)).tup upd_same⟩ .nil)
      · rintro H7 ⟨s7, ys, hD7, hP7⟩
        refine ⟨s7, ys, hD7, ?_⟩
        rw [List.take_of_length_le (by rw [btwR_len]; exact Nat.le_refl _)] at hP7
        rw [btwTo_succ]
        exact hP7
    · rintro H2 ⟨s2, zs, hD2, hP⟩
      refine ⟨D, zs, rfl, .inl ⟨.inl (.inl hD2), fun u hu => ?_⟩⟩
      have su := s2.trans (same_new (o := .tup zs) hu)
      have hPu : PrsAt (upd H2 u (.tup zs)) zs (btwTo n m n) := hP.kp (p := 0) (.of (same_new hu))
      have hu2 : (upd H2 u (.tup zs)) u = some (.tup zs) := upd_same
      generalize upd H2 u (.tup zs) = H3 at su hPu hu2 ⊢
      have lz := paired_len hPu
      rw [btwTo_len] at lz
      refine ⟨_, rfl, _, rfl, a, C, dx, _, .ref e, rfl, su _ _ k1, G.cl, A.e, rfl, _, rfl, catA_any (su _ _ k2) hu2 (by rw [lz, paired_len k3]; exact Nat.le_of_lt (small1000 (by omega))) fun H4 t4 s4 h4 => ?_⟩
      have u4 := su.trans s4
      have hP4 : PrsAt H4 (xs ++ zs) (ps ++ btwTo n m n) := paired_app (k3.kp (p := 0) (.of u4)) (hPu.kp (p := 0) (.of s4))
      refine ⟨_, rfl, b, C, dx', _, .ref e', rfl, u4 _ _ k1', G.cl, A.e, rfl, _, rfl, a, C, dx, _, .int (n : Int), rfl, u4 _ _ k1, G.cl, A.s, rfl, e', xs', qs, (n : Int), rfl, u4 _ _ k2', k3'.kp (p := 0) (.of u4), l2, fun H5 t5 ys s5 h5 hP5 => ?_⟩
      have l4 := paired_len hP4
      have l5 := paired_len hP5
      have l6 := (join_perm hG1 hG2).length_eq
      rw [List.length_append] at l6
      have l7 := good_len (joinL_good n m ps qs) hs
      refine catA_any (s5 _ _ h4) h5 (Nat.le_of_lt (small1000 (by omega))) fun H6 t6 s6 h6 => ?_
      have hP6 : PrsAt H6 ((xs ++ zs) ++ ys) ((ps ++ btwTo n m n) ++ movL qs n) := paired_app (hP4.kp (p := 0) (.of (s5.trans s6))) (hP5.kp (p := 0) (.of s6))
      refine ⟨t6, _, kOf H6, rfl, .of h6, (prs_kOf hP6).2, fun ws p hws hwp hp => ?_⟩
      have sp := same_new (o := .lst ws) hp
      have hP7 : PrsAt (upd H6 p (.lst ws)) ws (joinL n m ps qs) := (sorted_prs hP6 hws hwp (joinL_good n m ps qs).pw (join_perm hG1 hG2)).kp (p := 0) (.of sp)
      have hp7 : (upd H6 p (.lst ws)) p = some (.lst ws) := upd_same
      have s07 := ((u4.trans s5).trans s6).trans sp
      generalize upd H6 p (.lst ws) = H7 at hP7 hp7 s07 ⊢
      intro g' dx2 hg' hdx' hne'
      have hg5 : (upd H7 dx2 (.own g')) g' = none := by rw [upd_ne hne'.symm]; exact hg'
      have s6' := same_new (o := .own g') hdx'
      have s7 := same_new (o := .ins C dx2 []) hg5
      refine ⟨g', dx2, p, n + m, ws, joinL n m ps qs, rfl, by omega, hs, upd_same, .inl (s7 _ _ (s6' _ _ hp7)), hP7.kp (p := 0) (.of (s6'.trans s7)), good_len (joinL_good n m ps qs) hs, joinL_good n m ps qs, fun H8 k8 g8 => ⟨rfl, ?_⟩⟩
      exact hQ hs H8 g' (s07.trans fun b o z => k8 b o (fun zz => by
        rw [zz, hg'] at z
        cases z) (s7 _ _ (s6' _ _ z))) g8
end
end Ev
namespace Ev
open PySem PySem.Spec PyProof.Rows L2
def spEdgesT : Sp := fun vs H Q _ => ∃ (p l : Addr) (n : Nat), vs = [.ref p, .int (n : Int)] ∧ Pool p l H ∧ n ≤ 24 ∧
  ∀ H' t xs ps, Pool p l H' → KP p H H' → H' t = some (.tup xs) → PrsAt H' xs ps → Good n ps → ps.length ≤ 300 → Q (.ref t) H'
section
variable {P : Program} {w : World} {K : PySem.W.Frag} {mg : Str → Option Value} {base : Heap} {C : Addr}
theorem ok_law_edgesT {f : Addr} {fd : FuncData} (F : Fun K "_law_edges" "_law_edges" s__law_edges f fd) (B : B0 mg) (cD : Ca P w K mg base 2 "_law_draw" spDraw) : FnOk P w K mg base CX0 3 f fd ["pool", "size"] spEdgesT := by
  refine F.ok scs__law_edges (fun vs H Q E h => ?_) (fun cdv A outer s H vs Q E hr h => ?_)
  · obtain ⟨p, l, n, rfl, _⟩ := h
    rfl
  · obtain ⟨p, l, n, rfl, hp, h24, q⟩ := h
    refine ⟨_, pss_cons (ps_set (i := 2) scs__law_edges.nd rfl (Or.inl rfl) (C8.pe_c cD hr (by decide) (by rfl) (pa_cons (pv 0) (pa_cons pe_int pa_nil))))
      (pss_cons (ps_set (i := 3) scs__law_edges.nd rfl (Or.inl rfl) (pe_lst pa_nil))
      (pss_cons (ps_for PassesOwn.never rfl (pi_range1 rfl B.range (pa_cons (pv 1) pa_nil)) (pg_name (i := 4) scs__law_edges.nd rfl (Or.inl rfl))
        (pss_one (ps_for PassesOwn.never rfl (pi_range2 (by rfl) B.range (pa_cons (pe_op op_add (pv 4) pe_int) (pa_cons (pv 1) pa_nil))) (pg_name (i := 5) scs__law_edges.nd rfl (Or.inl rfl))
          (pss_one (ps_if (PW.pt (pw_and (pt_cmpR op_gt (pv 2) pe_int (nomark _)) (pw_and1 (pt_cmpR op_eq (C8.pe_c cD hr (by decide) (by rfl) (pa_cons (pv 0) (pa_cons (pv 2) pa_nil))) pe_int (nomark _)))))
            (pss_one (ps_expr (pe_bm PySem.F.plainAttrs_list PySem.F.slot_list_append PySem.F.type_list_append mt_append (pv 3) (pa_cons (pe_tup (pa_cons (pv 4) (pa_cons (pv 5) pa_nil))) pa_nil)))) pss_nil)))))
      (pss_one (ps_ret (pe_callTy call_tuple_of (by rfl) B.tuple (by decide +kernel) (pa_cons (pv 3) pa_nil)))))), ?_⟩
    refine ⟨_, rfl, p, l, 5, rfl, hp, by decide, by decide, fun H1 dn hp1 k1 d0 d1 => ⟨Nat.zero_le _, fun D hD => ?_⟩⟩
    have hDp : p ≠ D := by obtain ⟨o, ho⟩ := hp1.at_; exact ne_of_none ho hD
    have hDl : l ≠ D := by obtain ⟨o, ho⟩ := hp1.atl; exact ne_of_none ho hD
    have hD0 : H D = none := by
      cases e : H D with
      | none => rfl
      | some o =>
        exfalso
        by_cases hz : ∀ zs, o ≠ .lst zs
        · rw [k1.nl D o e hz] at hD; cases hD
        · obtain ⟨zs, hz⟩ : ∃ zs, o = .lst zs := Classical.byContradiction fun z => hz fun zs h => z ⟨zs, h⟩
          subst hz
          rw [k1.ls D zs (Ne.symm hDp) e] at hD; cases hD
    have hpD : Pool p l (upd H1 D (.lst [])) := hp1.put hDp hDl
    refine ⟨_, rfl, (n : Int), rfl, by omega, by omega, ?_⟩
    refine for_range (lo := 0) (n := ((n : Nat) : Int).toNat) (fun i σ H' => EdInv H p l D (prsTo (upto n) i) H' ∧ ∃ y4 y5, σ = [some (.ref p), some (.int (n : Int)), some (.int dn), some (.ref D), y4, y5])
      ⟨⟨k1.trans (.of (same_new hD)), hpD, [], [], upd_same, .nil, List.nil_sublist _⟩, none, none, rfl⟩ ?_ ?_
    · rintro i σ H2 hi ⟨c, y4, y5, rfl⟩
      rw [Int.toNat_natCast] at hi
      have ei : (0 : Int) + (i : Int) = (i : Int) := by omega
      rw [ei]
      refine ⟨_, rfl, _, _, rfl, rfl, _, rfl, _, _, rfl, ⟨by omega, by omega, by omega, by omega⟩, ?_⟩
      have hm : ((n : Int) - ((i : Int) + 1)).toNat = n - (i + 1) := by omega
      refine for_range (lo := (i : Int) + 1) (n := ((n : Int) - ((i : Int) + 1)).toNat) (fun j σ H' => EdInv H p l D (prsTo (upto n) i ++ (rowP (upto n) i).take j) H' ∧ ∃ y5, σ = [some (.ref p), some (.int (n : Int)), some (.int dn), some (.ref D), some (.int (i : Int)), y5])
        ⟨by rw [List.take_zero, List.append_nil]; exact c, y5, rfl⟩ ?_ ?_
      · rintro j σ H3 hj ⟨c3, y5, rfl⟩
        rw [hm] at hj
        have hg := rowP_get (n := n) (i := i) (j := j) (by omega)
        have eL : prsTo (upto n) i ++ (rowP (upto n) i).take (j + 1) = (prsTo (upto n) i ++ (rowP (upto n) i).take j) ++ [((i : Int), ((i + 1 + j : Nat) : Int))] := by
          rw [List.take_add_one, hg, List.append_assoc]
          rfl
        have ej : (i : Int) + 1 + (j : Int) = ((i + 1 + j : Nat) : Int) := by omega
        rw [ej]
        obtain ⟨xs, ps, h1, h2, h3⟩ := id c3.ex
        have hskip : ∀ {H4 : Hp}, Pool p l H4 → KP p H3 H4 → EdInv H p l D (prsTo (upto n) i ++ (rowP (upto n) i).take (j + 1)) H4 := fun {H4} hp4 k4 =>
          ⟨c3.k.trans k4, hp4, xs, ps, k4.ls _ _ (Ne.symm hDp) h1, h2.kp k4, by rw [eL]; exact h3.trans (List.sublist_append_left _ _)⟩
        refine ⟨_, rfl, _, _, rfl, rfl, _, rfl, ite2 (fun c => ?_) (fun c => ?_)⟩
        · have c : 0 < dn := of_decide_eq_true c
          refine ⟨_, rfl, _, rfl, p, l, dn, rfl, c3.P, c, by omega, fun H4 r hp4 k4 r0 r1 => ⟨rfl, _, rfl, ite2 (fun c5 => ?_) (fun c5 => ?_)⟩⟩
          · have h14 := k4.ls _ _ (Ne.symm hDp) h1
            refine ⟨_, rfl, .inl ⟨rfl, _, .inl (.inl h14)⟩, _, rfl, _, rfl, (by show 2 ≤ sizeLine; decide), fun t ht => ?_⟩
            have st := same_new (o := .tup [.int (i : Int), .int ((i + 1 + j : Nat) : Int)]) ht
            have hsl := h3.length_le
            refine ⟨D, xs, _, rfl, rfl, st _ _ h14, ?_, ⟨((c3.k.trans k4).trans (.of st)).fresh hD0, (hp4.same st).put hDp hDl, xs ++ [.ref t], ps ++ [((i : Int), ((i + 1 + j : Nat) : Int))], upd_same, ?_, ?_⟩, _, rfl⟩
            · rw [paired_len h2]
              rw [List.length_append, List.length_take] at hsl
              have h4 := prsTo_len (upto n) i
              rw [upto_len] at h4
              have h5 : i * n ≤ 24 * 24 := Nat.mul_le_mul (by omega) h24
              exact small1000 (by omega)
            · have kp : KP D H4 (upd (upd H4 t (.tup [.int (i : Int), .int ((i + 1 + j : Nat) : Int)])) D (.lst (xs ++ [.ref t]))) := (KP.of st).trans (KP.put (st _ _ h14))
              exact paired_app ((h2.kp k4).kp kp) (.cons ⟨t, rfl, (KP.put (p := D) (st _ _ h14)).tup upd_same⟩ .nil)
            · rw [eL]; exact h3.append (List.Sublist.refl _)
          · exact ⟨hskip hp4 k4, _, rfl⟩
        · exact iteF ⟨hskip c3.P (KP.refl _ _), _, rfl⟩
      · rintro σ H3 ⟨c3, y5, rfl⟩
        rw [hm] at c3
        have e2 : (rowP (upto n) i).take (n - (i + 1)) = rowP (upto n) i := List.take_of_length_le (by rw [rowP_length hi]; exact Nat.le_refl _)
        rw [e2, ← prsTo_succ] at c3
        exact ⟨c3, _, _, rfl⟩
    · rintro σ H2 ⟨c, y4, y5, rfl⟩
      rw [Int.toNat_natCast] at c
      obtain ⟨xs, ps, h1, h2, h3⟩ := id c.ex
      have e3 : prsTo (upto n) n = prs (upto n) := by unfold prs prsTo; rw [upto_len]
      rw [e3] at h3
      exact ⟨_, rfl, D, xs, rfl, .inl ⟨.inl (.inl h1), fun t ht => by
        have st := same_new (o := .tup xs) ht
        exact q _ t xs ps (c.P.same st) (c.k.trans (.of st)) upd_same (h2.kp (p := 0) (.of st)) ((good_prs n).sub h3) (Nat.le_trans h3.length_le (prs_len h24))⟩⟩
end
end Ev
namespace Ev
open PySem PySem.Spec PyProof.Rows L2
def prD (q : Int × Int) : PyData := .tuple [.int q.1, .int q.2]
theorem dp_prs {K : PySem.W.Frag} {H : Hp} : ∀ {xs : List V} {ps : List (Int × Int)}, PrsAt H xs ps → DpAll K H xs (ps.map prD)
  | _, _, .nil => .nil
  | _, _, .cons ⟨t, e, h⟩ r => by
    subst e
    exact .cons (.tup (.inl (.inl h)) (.cons (.int _) (.cons (.int _) .nil))) (dp_prs r)
theorem shaped_prs (ps : List (Int × Int)) : SeqAt.shaped (.tuple (ps.map prD)) = true := by
  have h1 : ∀ ps : List (Int × Int), PyData.canLayAll0 (ps.map prD) = true := fun ps => by
    induction ps with
    | nil => simp [PyData.canLayAll0]
    | cons q r ih =>
      rw [List.map_cons, PyData.canLayAll0, ih]
      simp [prD, PyData.canLay0, PyData.canLayAll0]
  have h2 : ∀ ps : List (Int × Int), PyData.depthAll (ps.map prD) ≤ 1 := fun ps => by
    induction ps with
    | nil => simp [PyData.depthAll]
    | cons q r ih =>
      rw [List.map_cons, PyData.depthAll]
      have : PyData.depth (prD q) = 1 := by simp [prD, PyData.depth, PyData.depthAll]
      rw [this]; omega
  unfold SeqAt.shaped
  rw [PyData.canLay0, h1, PyData.depth]
  have := h2 ps
  simp only [Bool.true_and, decide_eq_true_eq]
  omega
end Ev
namespace Ev
open PySem PySem.Spec PyProof.Rows L2
/-! ### what is due of two graphs -/
def DueAt (H : Hp) (v : V) (n : Nat) (ps : List (Int × Int)) : Prop := ∃ t e xs, v = .ref t ∧ H t = some (.tup [.int (n : Int), .ref e]) ∧ H e = some (.tup xs) ∧ PrsAt H xs ps
theorem DueAt.kp {p : Addr} {H H' : Hp} {v : V} {n : Nat} {ps : List (Int × Int)} (k : KP p H H') (h : DueAt H v n ps) : DueAt H' v n ps := by
  obtain ⟨t, e, xs, h1, h2, h3, h4⟩ := h
  exact ⟨t, e, xs, h1, k.tup h2, k.tup h3, h4.kp k⟩
theorem DueAt.same {H H' : Hp} {v : V} {n : Nat} {ps : List (Int × Int)} (s : Same H H') (h : DueAt H v n ps) : DueAt H' v n ps := h.kp (p := 0) (.of s)
theorem eqv_pr (a b c d : Int) : PyData.eqv (.tuple [.int a, .int b]) (.tuple [.int c, .int d]) = decide ((a, b) = (c, d)) := by
  rw [Bool.eq_iff_iff]
  simp [PyData.eqv, PyData.eqvAll, Prod.mk.injEq]
theorem shaped_pr (a b : Int) : SeqAt.shaped (.tuple [.int a, .int b]) = true := by
  unfold SeqAt.shaped
  simp [PyData.canLay0, PyData.canLayAll0, PyData.depth, PyData.depthAll]
theorem outP_eq {n : Nat} {ps : List (Int × Int)} (g : Good n ps) {q : Int × Int} (h : q.1 < q.2) : outP ps q = !decide (q ∈ ps) := by
  have h2 : (q.2, q.1) ∉ ps := fun z => by have := g.bd _ z; dsimp only at this; omega
  unfold outP
  congr 1
  rw [Bool.eq_iff_iff, decide_eq_true_eq, decide_eq_true_eq]
  exact ⟨fun z => z.elim id fun z => absurd z h2, .inl⟩
theorem at_mem {n : Nat} {ps A B : List (Int × Int)} {q : Int × Int} (g : Good n ps) (hf : prs (upto n) = A ++ q :: B) : ps[(A.filter fun r => decide (r ∈ ps)).length]? = some q ↔ q ∈ ps := by
  refine ⟨List.mem_of_getElem?, fun h => ?_⟩
  have e : ps = (A.filter fun r => decide (r ∈ ps)) ++ ((q :: B).filter fun r => decide (r ∈ ps)) := by
    rw [← List.filter_append, ← hf]
    exact good_filt g
  have e2 := congrArg (fun l => l[(A.filter fun r => decide (r ∈ ps)).length]?) e
  refine e2.trans ?_
  show (_ ++ _)[_]? = _
  rw [List.getElem?_append_right (Nat.le_refl _), Nat.sub_self, List.filter_cons_of_pos (by exact decide_eq_true h)]
  rfl
theorem prsTo_pre (ns : List Int) : ∀ k i, i ≤ k → prsTo ns i <+: prsTo ns k
  | 0, i, h => by
    obtain rfl : i = 0 := by omega
    exact List.prefix_refl _
  | k + 1, i, h => by
    rcases Nat.lt_or_ge k i with h2 | h2
    · obtain rfl : i = k + 1 := by omega
      exact List.prefix_refl _
    · rw [prsTo_succ]
      exact (prsTo_pre ns k i h2).trans (List.prefix_append _ _)
theorem prs_cut {n i j : Nat} (h : i + 1 + j < n) : ∃ B, prs (upto n) = (prsTo (upto n) i ++ (rowP (upto n) i).take j) ++ ((i : Int), ((i + 1 + j : Nat) : Int)) :: B := by
  have e3 : prsTo (upto n) n = prs (upto n) := by unfold prs prsTo; rw [upto_len]
  have p1 := prsTo_pre (upto n) n (i + 1) (by omega)
  rw [e3, prsTo_succ] at p1
  obtain ⟨B, hB⟩ := p1
  refine ⟨(rowP (upto n) i).drop (j + 1) ++ B, ?_⟩
  have hg := rowP_get (n := n) (i := i) (j := j) h
  have e4 : rowP (upto n) i = (rowP (upto n) i).take j ++ ((i : Int), ((i + 1 + j : Nat) : Int)) :: (rowP (upto n) i).drop (j + 1) := by
    obtain ⟨hj, hx⟩ := List.getElem?_eq_some_iff.mp hg
    have := List.drop_eq_getElem_cons hj
    rw [hx] at this
    rw [← this, List.take_append_drop]
  rw [← hB]
  conv => lhs; rw [e4]
  simp only [List.append_assoc, List.cons_append]
theorem join_eq {n m : Nat} {ps qs : List (Int × Int)} (g : Good n ps) (h : Good m qs) : outL (n + m) (addL n (outL n ps) (outL m qs)) = joinL n m ps qs := by
  have g1 : Good n (outL n ps) := (good_prs n).filter _
  have g2 : Good m (outL m qs) := (good_prs m).filter _
  unfold outL joinL
  refine List.filter_congr fun q hq => ?_
  have hb := (good_prs (n + m)).bd q hq
  have hlt : q.1 < q.2 := by omega
  refine (outP_eq (addL_good g1 g2) hlt).trans ?_
  have m1 : ∀ {k : Nat} {rs : List (Int × Int)} (gr : Good k rs) (r : Int × Int), r ∈ outL k rs ↔ (0 ≤ r.1 ∧ r.1 < r.2 ∧ r.2 < k) ∧ r ∉ rs := fun {k rs} gr r => by
    unfold outL
    rw [List.mem_filter]
    constructor
    · rintro ⟨hr, ho⟩
      have hb := (good_prs k).bd r hr
      rw [outP_eq gr (by omega)] at ho
      exact ⟨hb, by simpa using ho⟩
    · rintro ⟨hb, ho⟩
      refine ⟨?_, by rw [outP_eq gr (by omega)]; simpa using ho⟩
      obtain ⟨r1, r2⟩ := r
      dsimp only at hb
      obtain ⟨a, rfl⟩ : ∃ a : Nat, r1 = a := ⟨r1.toNat, by omega⟩
      obtain ⟨b, rfl⟩ : ∃ b : Nat, r2 = b := ⟨r2.toNat, by omega⟩
      exact prs_mem (by omega) (by omega)
  have hmem : q ∈ addL n (outL n ps) (outL m qs) ↔ ((0 ≤ q.1 ∧ q.1 < q.2 ∧ q.2 < (n : Int)) ∧ q ∉ ps) ∨ ((0 ≤ q.1 - n ∧ q.1 - n < q.2 - n ∧ q.2 - n < (m : Int)) ∧ (q.1 - n, q.2 - n) ∉ qs) := by
    unfold addL
    rw [List.mem_append, movL_mem, m1 g, m1 h]
  unfold joinP
  rw [Bool.eq_iff_iff, Bool.not_eq_true', decide_eq_false_iff_not, hmem, Bool.or_eq_true, Bool.or_eq_true, Bool.and_eq_true, decide_eq_true_eq, decide_eq_true_eq, decide_eq_true_eq, decide_eq_true_eq]
  have b1 : q ∈ ps → q.2 < n := fun z => (g.bd _ z).2.2
  have b2 : (q.1 - n, q.2 - n) ∈ qs → (n : Int) ≤ q.1 := fun z => by have := (h.bd _ z).1; dsimp only at this; omega
  by_cases c1 : q ∈ ps <;> by_cases c2 : (q.1 - (n : Int), q.2 - (n : Int)) ∈ qs <;> simp only [c1, c2, true_or, or_true, not_true_eq_false, not_false_eq_true, and_false, and_true, false_or, or_false, iff_true, true_iff, forall_const] at b1 b2 ⊢ <;> omega
structure CpI (H : Hp) (D : Addr) (ps A : List (Int × Int)) (k : Nat) (H' : Hp) : Prop where
  s : Same H H'
  ex : k = (A.filter fun r => decide (r ∈ ps)).length ∧ ∃ zs, H' D = some (.lst zs) ∧ PrsAt H' zs (A.filter (outP ps))
def spSizes : Sp := fun vs H Q _ => ∃ (p l : Addr), vs = [.ref p] ∧ Pool p l H ∧ ∀ H' L (a b : Nat), Pool p l H' → KP p H H' → L ≠ p → H' L = some (.lst [.int (a : Int), .int (b : Int)]) → 1 ≤ a → a ≤ 24 → 1 ≤ b → b ≤ 24 → Q (.ref L) H'
def spCompl : Sp := fun vs H Q _ => ∃ (v : V) (n : Nat) (ps : List (Int × Int)), vs = [v] ∧ DueAt H v n ps ∧ Good n ps ∧ n ≤ 24 ∧ ∀ H' u, Same H H' → DueAt H' u n (outL n ps) → Q u H'
def spUnion : Sp := fun vs H Q _ => ∃ (v z : V) (n m : Nat) (ps qs : List (Int × Int)), vs = [v, z] ∧ DueAt H v n ps ∧ DueAt H z m qs ∧ Good n ps ∧ Good m qs ∧ n ≤ 24 ∧ m ≤ 24 ∧ ∀ H' u, Same H H' → DueAt H' u (n + m) (addL n ps qs) → Q u H'
def spJoin : Sp := fun vs H Q _ => ∃ (v z : V) (n m : Nat) (ps qs : List (Int × Int)), vs = [v, z] ∧ DueAt H v n ps ∧ DueAt H z m qs ∧ Good n ps ∧ Good m qs ∧ n + m ≤ 24 ∧ ∀ H' u, Same H H' → DueAt H' u (n + m) (joinL n m ps qs) → Q u H'
def spIs (C : Addr) : Sp := fun vs H Q _ => ∃ (g : Addr) (v : V) (n : Nat) (ps : List (Int × Int)), vs = [.ref g, v] ∧ GrAt C H g n ps ∧ DueAt H v n ps ∧ Good n ps ∧ Q (.bl true) H
section
variable {P : Program} {w : World} {K : PySem.W.Frag} {mg : Str → Option Value} {base : Heap} {C : Addr}
theorem ok_law_sizes {f : Addr} {fd : FuncData} (F : Fun K "_law_sizes" "_law_sizes" s__law_sizes f fd) (c_law_draw : Ca P w K mg base 2 "_law_draw" spDraw) : FnOk P w K mg base CX0 3 f fd ["pool"] spSizes := by
  refine F.ok scs__law_sizes (fun vs H Q E h => ?_) (fun cdv A' outer s H vs Q E hr h => ?_)
  · obtain ⟨p, l, rfl, _⟩ := h
    rfl
  · obtain ⟨p, l, rfl, hp, q⟩ := h
    have fin : ∀ (H' : Hp) (a b : Int), Pool p l H' → KP p H H' → 1 ≤ a → a ≤ 24 → 1 ≤ b → b ≤ 24 → ∀ L, H' L = none → Q (.ref L) (upd H' L (.lst [.int a, .int b])) := fun H' a b hp' k a1 a2 b1 b2 L hL => by
      obtain ⟨a, rfl⟩ : ∃ k : Nat, a = k := ⟨a.toNat, by omega⟩
      obtain ⟨b, rfl⟩ : ∃ k : Nat, b = k := ⟨b.toNat, by omega⟩
      have hLp : L ≠ p := fun z => by obtain ⟨o, ho⟩ := hp'.at_; exact ne_of_none ho hL z.symm
      exact q _ L a b (hp'.same (same_new hL)) (k.trans (.of (same_new hL))) hLp upd_same (by omega) (by omega) (by omega) (by omega)
    refine ⟨_, (pss_cons (ps_set (i := 1) scs__law_sizes.nd rfl (Or.inl rfl) (C8.pe_c c_law_draw hr (by decide) (by rfl) (pa_cons (pv 0) (pa_cons pe_int pa_nil))))
      (pss_cons (ps_if (pt_cmpR op_eq (pv 1) pe_int (nomark _))
        (pss_cons (ps_set (i := 2) scs__law_sizes.nd rfl (Or.inl rfl) (pe_op op_add pe_int (C8.pe_c c_law_draw hr (by decide) (by rfl) (pa_cons (pv 0) (pa_cons pe_int pa_nil)))))
        (pss_one (ps_ret (pe_lst (pa_cons (pv 2) (pa_cons (pe_op op_sub pe_int (pv 2)) pa_nil)))))) pss_nil)
      (pss_cons (ps_if (pt_cmpR op_eq (pv 1) pe_int (nomark _))
        (pss_cons (ps_set (i := 2) scs__law_sizes.nd rfl (Or.inl rfl) (pe_op op_add pe_int (C8.pe_c c_law_draw hr (by decide) (by rfl) (pa_cons (pv 0) (pa_cons pe_int pa_nil)))))
        (pss_one (ps_ret (pe_lst (pa_cons (pv 2) (pa_cons (pe_op op_add (pe_op op_sub pe_int (pv 2)) (C8.pe_c c_law_draw hr (by decide) (by rfl) (pa_cons (pv 0) (pa_cons (pv 2) pa_nil)))) pa_nil)))))) pss_nil)
      (pss_cons (ps_if (pt_cmpR op_eq (pv 1) pe_int (nomark _))
        (pss_one (ps_ret (pe_lst (pa_cons (pe_op op_add pe_int (C8.pe_c c_law_draw hr (by decide) (by rfl) (pa_cons (pv 0) (pa_cons pe_int pa_nil)))) (pa_cons (pe_op op_add pe_int (C8.pe_c c_law_draw hr (by decide) (by rfl) (pa_cons (pv 0) (pa_cons pe_int pa_nil)))) pa_nil))))) pss_nil)
      (pss_one (ps_ret (pe_lst (pa_cons (pe_op op_add pe_int (C8.pe_c c_law_draw hr (by decide) (by rfl) (pa_cons (pv 0) (pa_cons pe_int pa_nil)))) (pa_cons (pe_op op_add pe_int (C8.pe_c c_law_draw hr (by decide) (by rfl) (pa_cons (pv 0) (pa_cons pe_int pa_nil)))) pa_nil))))))))), ?_⟩
    refine ⟨_, rfl, p, l, 6, rfl, hp, by decide, by decide, fun H1 kd P1 k1 a0 a1 => ?_⟩
    refine ⟨_, rfl, rfl, _, rfl, ite2 (fun c => ?_) (fun c => ?_)⟩
    · refine ⟨_, rfl, p, l, 23, rfl, P1, by decide, by decide, fun H2 r P2 k2 r0 r1 => ⟨_, _, rfl, rfl, ?_⟩⟩
      refine ⟨_, rfl, _, rfl, _, _, rfl, rfl, (by show 2 ≤ sizeLine; decide), fun L hL => ?_⟩
      exact fin H2 (1 + r) (24 - (1 + r)) P2 (k1.trans k2) (by omega) (by omega) (by omega) (by omega) L hL
    refine ⟨_, rfl, rfl, _, rfl, ite2 (fun c => ?_) (fun c => ?_)⟩
    · refine ⟨_, rfl, p, l, 24, rfl, P1, by decide, by decide, fun H2 r P2 k2 r0 r1 => ⟨_, _, rfl, rfl, ?_⟩⟩
      refine ⟨_, rfl, _, rfl, _, _, rfl, rfl, _, rfl, _, rfl, p, l, 1 + r, rfl, P2, by omega, by omega, fun H3 u P3 k3 u0 u1 => ⟨_, _, rfl, rfl, (by show 2 ≤ sizeLine; decide), fun L hL => ?_⟩⟩
      exact fin H3 (1 + r) (25 - (1 + r) + u) P3 ((k1.trans k2).trans k3) (by omega) (by omega) (by omega) (by omega) L hL
    refine ⟨_, rfl, rfl, _, rfl, ite2 (fun c => ?_) (fun c => ?_)⟩
    · refine ⟨_, rfl, p, l, 24, rfl, P1, by decide, by decide, fun H2 r P2 k2 r0 r1 => ⟨_, _, rfl, rfl, ?_⟩⟩
      refine ⟨_, rfl, p, l, 24, rfl, P2, by decide, by decide, fun H3 u P3 k3 u0 u1 => ⟨_, _, rfl, rfl, (by show 2 ≤ sizeLine; decide), fun L hL => ?_⟩⟩
      exact fin H3 (1 + r) (1 + u) P3 ((k1.trans k2).trans k3) (by omega) (by omega) (by omega) (by omega) L hL
    refine ⟨_, rfl, p, l, 8, rfl, P1, by decide, by decide, fun H2 r P2 k2 r0 r1 => ⟨_, _, rfl, rfl, ?_⟩⟩
    refine ⟨_, rfl, p, l, 8, rfl, P2, by decide, by decide, fun H3 u P3 k3 u0 u1 => ⟨_, _, rfl, rfl, (by show 2 ≤ sizeLine; decide), fun L hL => ?_⟩⟩
    exact fin H3 (1 + r) (1 + u) P3 ((k1.trans k2).trans k3) (by omega) (by omega) (by omega) (by omega) L hL
theorem ok_law_complement {f : Addr} {fd : FuncData} (F : Fun K "_law_complement" "_law_complement" s__law_complement f fd) (B : B0 mg) : FnOk P w K mg base CX0 1 f fd ["pair"] spCompl := by
  refine F.ok scs__law_complement (fun vs H Q E h => ?_) (fun cdv A' outer s H vs Q E hr h => ?_)
  · obtain ⟨v, n, ps, rfl, _⟩ := h
    rfl
  · obtain ⟨v, n, ps, rfl, hv, hG, h24, q⟩ := h
    refine ⟨_, (pss_cons (ps_set (i := 1) scs__law_complement.nd rfl (Or.inl rfl) (pe_lst pa_nil))
      (pss_cons (ps_set (i := 2) scs__law_complement.nd rfl (Or.inl rfl) pe_int)
      (pss_cons (ps_for PassesOwn.never rfl (pi_range1 rfl B.range (pa_cons (pe_ix ix_tup (pv 0) pe_int (fun _ _ => rfl)) pa_nil)) (pg_name (i := 3) scs__law_complement.nd rfl (Or.inl rfl))
        (pss_one (ps_for PassesOwn.never rfl (pi_range2 (by rfl) B.range (pa_cons (pe_op op_add (pv 3) pe_int) (pa_cons (pe_ix ix_tup (pv 0) pe_int (fun _ _ => rfl)) pa_nil))) (pg_name (i := 4) scs__law_complement.nd rfl (Or.inl rfl))
          (pss_one (ps_if (PW.pt (pw_and (pt_cmpR op_lt (pv 2) (pe_callB call_len_seq (by rfl) B.len (by decide +kernel) (pa_cons (pe_ix ix_tup (pv 0) pe_int (fun _ _ => rfl)) pa_nil)) (nomark _)) (pw_and1 (pt_cmpR (op_eqD hr.units) (pe_ix ix_tup (pe_ix ix_tup (pv 0) pe_int (fun _ _ => rfl)) (pv 2) (fun _ _ => rfl)) (pe_tup (pa_cons (pv 3) (pa_cons (pv 4) pa_nil))) (nomark _)))))
            (pss_one (ps_set (i := 2) scs__law_complement.nd rfl (Or.inl rfl) (pe_op op_add (pv 2) pe_int))) 
            (pss_one (ps_expr (pe_bm PySem.F.plainAttrs_list PySem.F.slot_list_append PySem.F.type_list_append mt_append (pv 1) (pa_cons (pe_tup (pa_cons (pv 3) (pa_cons (pv 4) pa_nil))) pa_nil)))))))))
      (pss_one (ps_ret (pe_tup (pa_cons (pe_ix ix_tup (pv 0) pe_int (fun _ _ => rfl)) (pa_cons (pe_callTy call_tuple_of (by rfl) B.tuple (by decide +kernel) (pa_cons (pv 1) pa_nil)) pa_nil)))))))), ?_⟩
    obtain ⟨t, e, xs, rfl, ht, he, hP⟩ := id hv
    refine ⟨Nat.zero_le _, fun D hD => ?_⟩
    have sD := same_new (o := .lst []) hD
    refine ⟨_, rfl, t, _, 0, _, rfl, rfl, .of (sD _ _ ht), rfl, (n : Int), rfl, by omega, by omega, ?_⟩
    refine for_range (lo := 0) (n := ((n : Nat) : Int).toNat) (fun i σ H' => ∃ k : Nat, CpI H D ps (prsTo (upto n) i) k H' ∧ ∃ y3 y4, σ = [some (.ref t), some (.ref D), some (.int (k : Int)), y3, y4]) ⟨0, ⟨sD, rfl, [], upd_same, .nil⟩, none, none, rfl⟩ ?_ ?_
    · rintro i σ H2 hi ⟨k, c, y3, y4, rfl⟩
      rw [Int.toNat_natCast] at hi
      have ei : (0 : Int) + (i : Int) = (i : Int) := by omega
      rw [ei]
      refine ⟨_, rfl, _, _, rfl, rfl, _, rfl, t, _, 0, _, rfl, rfl, .of (c.s _ _ ht), rfl, _, _, rfl, ⟨by omega, by omega, by omega, by omega⟩, ?_⟩
      have hm : ((n : Int) - ((i : Int) + 1)).toNat = n - (i + 1) := by omega
      refine for_range (lo := (i : Int) + 1) (n := ((n : Int) - ((i : Int) + 1)).toNat) (fun j σ H' => ∃ k : Nat, CpI H D ps (prsTo (upto n) i ++ (rowP (upto n) i).take j) k H' ∧ ∃ y4, σ = [some (.ref t), some (.ref D), some (.int (k : Int)), some (.int (i : Int)), y4])
        ⟨k, by rw [List.take_zero, List.append_nil]; exact c, y4, rfl⟩ ?_ ?_
      · rintro j σ H3 hj ⟨k, c3, y4, rfl⟩
        rw [hm] at hj
        have hg := rowP_get (n := n) (i := i) (j := j) (by omega)
        have eL : prsTo (upto n) i ++ (rowP (upto n) i).take (j + 1) = (prsTo (upto n) i ++ (rowP (upto n) i).take j) ++ [((i : Int), ((i + 1 + j : Nat) : Int))] := by
          rw [List.take_add_one, hg, List.append_assoc]
          rfl
        obtain ⟨Bq, hB⟩ := prs_cut (n := n) (i := i) (j := j) (by omega)
        have ej : (i : Int) + 1 + (j : Int) = ((i + 1 + j : Nat) : Int) := by omega
        rw [ej, eL]
        generalize prsTo (upto n) i ++ (rowP (upto n) i).take j = AA at c3 hB ⊢
        have hq : ((i : Int), ((i + 1 + j : Nat) : Int)).1 < ((i : Int), ((i + 1 + j : Nat) : Int)).2 := by dsimp only; omega
        have hmem := at_mem hG hB
        have hoP := outP_eq hG hq
        have hlen : AA.length ≤ 300 := by
          have := congrArg List.length hB
          rw [List.length_append] at this
          have := prs_len (n := n) h24
          omega
        obtain ⟨ck, zs, h1, h2⟩ := c3.ex
        rw [← ck] at hmem
        generalize ((i + 1 + j : Nat) : Int) = jj at hmem hoP ⊢
        have skip : ((i : Int), jj) ∈ ps → ∀ H4, Same H3 H4 → CpI H D ps (AA ++ [((i : Int), jj)]) (k + 1) H4 := fun hm H4 s4 => by
          refine ⟨c3.s.trans s4, ?_, zs, s4 _ _ h1, ?_⟩
          · rw [List.filter_append, List.filter_cons_of_pos (by exact decide_eq_true hm), List.length_append, ck]
            rfl
          · rw [List.filter_append, List.filter_cons_of_neg (by rw [hoP, decide_eq_true hm]; decide), List.filter_nil, List.append_nil]
            exact h2.kp (p := 0) (.of s4)
        have put : ((i : Int), jj) ∉ ps → ∀ H4 u, Same H3 H4 → H4 u = some (.tup [.int (i : Int), .int jj]) → zs.length < sizeLine ∧ CpI H D ps (AA ++ [((i : Int), jj)]) k (upd H4 D (.lst (zs ++ [.ref u]))) := fun hm H4 u s4 hu => by
          refine ⟨?_, fun b o z => by rw [upd_ne (ne_of_none z hD)]; exact (c3.s.trans s4) _ _ z, ?_, zs ++ [.ref u], upd_same, ?_⟩
          · rw [paired_len h2]
            have := List.length_filter_le (outP ps) AA
            exact small1000 (by omega)
          · rw [List.filter_append, List.filter_cons_of_neg (by simpa using hm), List.filter_nil, List.append_nil, ck]
          · rw [List.filter_append, List.filter_cons_of_pos (by rw [hoP, decide_eq_false hm]; rfl), List.filter_nil]
            have kp : KP D H3 (upd H4 D (.lst (zs ++ [.ref u]))) := (KP.of s4).trans (KP.put (s4 _ _ h1))
            exact paired_app (h2.kp kp) (.cons ⟨u, rfl, (KP.put (p := D) (s4 _ _ h1)).tup hu⟩ .nil)
        refine ⟨_, rfl, _, rfl, t, _, 1, _, rfl, rfl, .of (c3.s _ _ ht), rfl, e, xs, rfl, .inr (.of (c3.s _ _ he)), _, _, rfl, rfl, _, rfl, ite2 (fun c => ?_) (fun c => ?_)⟩
        · have c : k < xs.length := by have := of_decide_eq_true c; omega
          obtain ⟨⟨pa, pb⟩, hpk, tq, hxe, htq⟩ := paired_get (hP.kp (p := 0) (.of c3.s)) (List.getElem?_eq_getElem c)
          refine ⟨_, rfl, t, _, 1, _, rfl, rfl, .of (c3.s _ _ ht), rfl, _, rfl, e, xs, (k : Int), .ref tq, rfl, rfl, .of (c3.s _ _ he), atI_nat (by rw [List.getElem?_eq_getElem c, hxe]), _, rfl, _, rfl, (by show 2 ≤ sizeLine; decide), fun u hu => ?_⟩
          have su := same_new (o := .tup [.int (i : Int), .int jj]) hu
          refine ⟨_, _, .tup (.inl (.inl (su _ _ htq))) (.cons (.int _) (.cons (.int _) .nil)), .tup (.inl (.inl upd_same)) (.cons (.int _) (.cons (.int _) .nil)), shaped_pr _ _, shaped_pr _ _, ?_⟩
          rw [eqv_pr]
          refine ⟨_, rfl, ite2 (fun c5 => ?_) (fun c5 => ?_)⟩
          · have c5 := of_decide_eq_true c5
            exact ⟨_, rfl, _, _, rfl, rfl, k + 1, skip (hmem.mp (by rw [← c5]; exact hpk)) _ su, _, rfl⟩
          · have hno : ((i : Int), jj) ∉ ps := fun z => c5 (decide_eq_true (by
              have := hmem.mpr z
              rw [hpk] at this
              exact Option.some.inj this))
            generalize upd H3 u (.tup [.int (i : Int), .int jj]) = H4 at su ⊢
            refine ⟨_, rfl, .inl ⟨rfl, _, .inl (.inl (su _ _ h1))⟩, _, rfl, _, rfl, (by show 2 ≤ sizeLine; decide), fun r hr => ?_⟩
            have sr := su.trans (same_new (o := .tup [.int (i : Int), .int jj]) hr)
            have pp := put hno _ r sr upd_same
            exact ⟨D, zs, _, rfl, rfl, sr _ _ h1, pp.1, k, pp.2, _, rfl⟩
        · have hno : ((i : Int), jj) ∉ ps := fun z => by
            have h5 := (List.getElem?_eq_some_iff.mp (hmem.mpr z)).1
            rw [← paired_len hP] at h5
            exact c (decide_eq_true (by omega))
          refine iteF ⟨_, rfl, .inl ⟨rfl, _, .inl (.inl h1)⟩, _, rfl, _, rfl, (by show 2 ≤ sizeLine; decide), fun r hr => ?_⟩
          have sr := same_new (o := .tup [.int (i : Int), .int jj]) hr
          have pp := put hno _ r sr upd_same
          exact ⟨D, zs, _, rfl, rfl, sr _ _ h1, pp.1, k, pp.2, _, rfl⟩
      · rintro σ H3 ⟨k, c3, y4, rfl⟩
        rw [hm] at c3
        have e2 : (rowP (upto n) i).take (n - (i + 1)) = rowP (upto n) i := List.take_of_length_le (by rw [rowP_length hi]; exact Nat.le_refl _)
        rw [e2, ← prsTo_succ] at c3
        exact ⟨k, c3, _, _, rfl⟩
    · rintro σ H3 ⟨k, c3, y3, y4, rfl⟩
      rw [Int.toNat_natCast] at c3
      have e3 : prsTo (upto n) n = prs (upto n) := by unfold prs prsTo; rw [upto_len]
      rw [e3] at c3
      obtain ⟨_, zs, h1, h2⟩ := c3.ex
      refine ⟨_, rfl, t, _, 0, _, rfl, rfl, .of (c3.s _ _ ht), rfl, _, rfl, D, zs, rfl, .inl ⟨.inl (.inl h1), fun u hu => ⟨(by show 2 ≤ sizeLine; decide), fun r hr => ?_⟩⟩⟩
      have su := same_new (o := .tup zs) hu
      have sr := same_new (o := .tup [.int (n : Int), .ref u]) hr
      exact q _ _ ((c3.s.trans su).trans sr) ⟨r, u, zs, rfl, upd_same, sr _ _ upd_same, h2.kp (p := 0) (.of (su.trans sr))⟩
theorem ok_law_union {f : Addr} {fd : FuncData} (F : Fun K "_law_union" "_law_union" s__law_union f fd) (B : B0 mg) : FnOk P w K mg base CX0 1 f fd ["one", "other"] spUnion := by
  refine F.ok scs__law_union (fun vs H Q E h => ?_) (fun cdv A' outer s H vs Q E hr h => ?_)
  · obtain ⟨v, z, n, m, ps, qs, rfl, _⟩ := h
    rfl
  · obtain ⟨v, z, n, m, ps, qs, rfl, hv, hz, hG1, hG2, h1, h2, q⟩ := h
    refine ⟨_, (pss_cons (ps_setLc (i := 2) (own := [("edge", 3)]) (g := (gName 3)) (tt := tYes) (te := (tTup (tCons (tOp (rI0 fun i j => .int (i + j)) (tOp (rIxT K) (tVar 3) (tC (.int 0))) (tOp (rIxT K) (tVar 0) (tC (.int 0)))) (tCons (tOp (rI0 fun i j => .int (i + j)) (tOp (rIxT K) (tVar 3) (tC (.int 1))) (tOp (rIxT K) (tVar 0) (tC (.int 0)))) tNil)))) rfl scs__law_union.nd rfl rfl (sw_true rfl rfl rfl (by decide +kernel)) (pi_tup (pe_ix ix_tup (pv 1) pe_int (fun _ _ => rfl))) (blkOk_by (N := Ns__law_union) (sc := defScope s__law_union) (by decide +kernel)) (fun _ _ _ _ _ => (pg_name (i := 3) scs__law_union.nd rfl (Or.inl rfl))) (fun _ _ _ _ _ => pts_nil) (fun _ _ _ _ _ => by exact (pe_tup (pa_cons (pe_op op_add (pe_ix ix_tup (pv 3) pe_int (fun _ _ => rfl)) (pe_ix ix_tup (pv 0) pe_int (fun _ _ => rfl))) (pa_cons (pe_op op_add (pe_ix ix_tup (pv 3) pe_int (fun _ _ => rfl)) (pe_ix ix_tup (pv 0) pe_int (fun _ _ => rfl))) pa_nil)))))
      (pss_one (ps_ret (pe_tup (pa_cons (pe_op op_add (pe_ix ix_tup (pv 0) pe_int (fun _ _ => rfl)) (pe_ix ix_tup (pv 1) pe_int (fun _ _ => rfl))) (pa_cons (pe_op op_catA (pe_ix ix_tup (pv 0) pe_int (fun _ _ => rfl)) (pe_callTy call_tuple_of (by rfl) B.tuple (by decide +kernel) (pa_cons (pv 2) pa_nil))) pa_nil)))))), ?_⟩
    obtain ⟨t, e, xs, rfl, ht, he, hP⟩ := id hv
    obtain ⟨t', e', xs', rfl, ht', he', hP'⟩ := id hz
    refine ⟨_, rfl, t', _, 1, _, rfl, rfl, .of ht', rfl, e', rfl, ⟨_, .of he'⟩, fun D hD => lc_tup (K := K) (a := e') (xs := xs') (fun i H' => Same H H' ∧ ∃ zs, H' D = some (.lst zs) ∧ PrsAt H' zs (movL (qs.take i) n)) ⟨same_new hD, [], upd_same, .nil⟩ (fun i H' _ h => .inl (.inl (h.1 _ _ he'))) ?_ ?_⟩
    · rintro i x H3 hi ⟨s3, zs, hD3, hP3⟩
      obtain ⟨⟨qa, qb⟩, hq, te, rfl, hte⟩ := paired_get (hP'.kp (p := 0) (.of s3)) hi
      have eL : movL (qs.take (i + 1)) n = movL (qs.take i) n ++ [(qa + n, qb + n)] := by
        unfold movL
        rw [List.take_add_one, hq, List.map_append]
        rfl
      refine ⟨rfl, tYes_i ?_⟩
      refine ⟨_, rfl, te, _, 0, _, rfl, rfl, .of hte, rfl, _, rfl, t, _, 0, _, rfl, rfl, .of (s3 _ _ ht), rfl, _, _, rfl, rfl, _, rfl, te, _, 1, _, rfl, rfl, .of hte, rfl, _, rfl, t, _, 0, _, rfl, rfl, .of (s3 _ _ ht), rfl, _, _, rfl, rfl, (by show 2 ≤ sizeLine; decide), fun t6 ht6 => ?_⟩
      have s6 := same_new (o := .tup [.int (qa + n), .int (qb + n)]) ht6
      refine ⟨zs, s6 _ _ hD3, ?_, fun b o eb => by rw [upd_ne (ne_of_none eb hD)]; exact s6 _ _ (s3 _ _ eb), zs ++ [.ref t6], upd_same, ?_⟩
      · rw [paired_len hP3]
        have h7 : (movL (qs.take i) n).length = (qs.take i).length := by unfold movL; rw [List.length_map]
        have h8 := good_len hG2 h2
        rw [h7, List.length_take]
        exact small1000 (by omega)
      · rw [eL]
        have kp : KP D H3 (upd (upd H3 t6 (.tup [.int (qa + n), .int (qb + n)])) D (.lst (zs ++ [.ref t6]))) := (KP.of s6).trans (KP.put (s6 _ _ hD3))
        exact paired_app (hP3.kp kp) (.cons ⟨t6, rfl, (KP.put (p := D) (s6 _ _ hD3)).tup upd_same⟩ .nil)
    · rintro H3 ⟨s3, zs, hD3, hP3⟩
      rw [List.take_of_length_le (by rw [paired_len hP']; exact Nat.le_refl _)] at hP3
      refine ⟨_, rfl, t, _, 0, _, rfl, rfl, .of (s3 _ _ ht), rfl, _, rfl, t', _, 0, _, rfl, rfl, .of (s3 _ _ ht'), rfl, _, _, rfl, rfl, _, rfl, t, _, 1, _, rfl, rfl, .of (s3 _ _ ht), rfl, _, rfl, D, zs, rfl, .inl ⟨.inl (.inl hD3), fun u hu => ?_⟩⟩
      have su := same_new (o := .tup zs) hu
      have l3 := paired_len hP
      have l4 := paired_len hP3
      have l5 := good_len hG1 h1
      have l6 := good_len hG2 h2
      have l7 : (movL qs n).length = qs.length := by unfold movL; rw [List.length_map]
      refine catA_any ((s3.trans su) _ _ he) upd_same (Nat.le_of_lt (small1000 (by omega))) fun H4 t4 s4 h4 => ⟨(by show 2 ≤ sizeLine; decide), fun r hr => ?_⟩
      have sr := same_new (o := .tup [.int ((n : Int) + (m : Int)), .ref t4]) hr
      refine q _ _ (((s3.trans su).trans s4).trans sr) ⟨r, t4, xs ++ zs, rfl, upd_same, sr _ _ h4, ?_⟩
      exact paired_app (hP.kp (p := 0) (.of (((s3.trans su).trans s4).trans sr))) (hP3.kp (p := 0) (.of ((su.trans s4).trans sr)))
theorem ok_law_join {f : Addr} {fd : FuncData} (F : Fun K "_law_join" "_law_join" s__law_join f fd) (c_law_complement : Ca P w K mg base 1 "_law_complement" spCompl) (c_law_union : Ca P w K mg base 1 "_law_union" spUnion) : FnOk P w K mg base CX0 2 f fd ["one", "other"] spJoin := by
  refine F.ok scs__law_join (fun vs H Q E h => ?_) (fun cdv A' outer s H vs Q E hr h => ?_)
  · obtain ⟨v, z, n, m, ps, qs, rfl, _⟩ := h
    rfl
  · obtain ⟨v, z, n, m, ps, qs, rfl, hv, hz, hG1, hG2, h24, q⟩ := h
    refine ⟨_, (pss_one (ps_ret (C8.pe_c c_law_complement hr (by decide) (by rfl) (pa_cons (C8.pe_c c_law_union hr (by decide) (by rfl) (pa_cons (C8.pe_c c_law_complement hr (by decide) (by rfl) (pa_cons (pv 0) pa_nil)) (pa_cons (C8.pe_c c_law_complement hr (by decide) (by rfl) (pa_cons (pv 1) pa_nil)) pa_nil))) pa_nil)))), ?_⟩
    refine ⟨_, rfl, v, n, ps, rfl, hv, hG1, by omega, fun H1 u1 s1 d1 => ?_⟩
    refine ⟨_, rfl, z, m, qs, rfl, hz.same s1, hG2, by omega, fun H2 u2 s2 d2 => ?_⟩
    refine ⟨u1, u2, n, m, _, _, rfl, d1.same s2, d2, (good_prs n).filter _, (good_prs m).filter _, by omega, by omega, fun H3 u3 s3 d3 => ?_⟩
    refine ⟨u3, n + m, _, rfl, d3, addL_good ((good_prs n).filter _) ((good_prs m).filter _), h24, fun H4 u4 s4 d4 => ?_⟩
    rw [join_eq hG1 hG2] at d4
    exact q H4 u4 (((s1.trans s2).trans s3).trans s4) d4
theorem ok_law_is {f : Addr} {fd : FuncData} (F : Fun K "_law_is" "_law_is" s__law_is f fd) (B : B0 mg) (G : GrT K C) (A : GrA K C) (hGr : ∃ u, mg "Graph" = some u ∧ RelV (.ref C) u) : FnOk P w K mg base CX0 1 f fd ["graph", "due"] (spIs C) := by
  refine F.ok scs__law_is (fun vs H Q E h => ?_) (fun cdv A' outer s H vs Q E hr h => ?_)
  · obtain ⟨g, v, n, ps, rfl, _⟩ := h
    rfl
  · obtain ⟨g, v, n, ps, rfl, hg, hv, hG, q⟩ := h
    refine ⟨_, (pss_cons (ps_if (PW.pt (pw_or (pt_not (pt_val (pe_callB call_isi (by rfl) B.isi (by decide +kernel) (pa_cons (pv 0) (pa_cons (C8.pe_gc (v := .ref C) (by rfl) hGr) pa_nil))))) (pw_or1 (pt_not (pt_val (pe_callB call_isi (by rfl) B.isi (by decide +kernel) (pa_cons (pe_fld (pv 0) rfl) (pa_cons (pe_bltn (v := .ty "tuple") (by rfl) B.tuple (by decide +kernel) rfl) pa_nil))))))))
        (pss_one (ps_ret pe_bl)) pss_nil)
      (pss_cons (ps_if (PW.pt (pw_or (pt_not (pt_val (pe_callB call_isi (by rfl) B.isi (by decide +kernel) (pa_cons (pe_fld (pv 0) rfl) (pa_cons (pe_bltn (v := .ty "int") (by rfl) B.int (by decide +kernel) rfl) pa_nil))))) (pw_or (pt_val (pe_callB call_isi (by rfl) B.isi (by decide +kernel) (pa_cons (pe_fld (pv 0) rfl) (pa_cons (pe_bltn (v := .ty "bool") (by rfl) B.bool (by decide +kernel) rfl) pa_nil)))) (pw_or1 (pt_cmpR op_ne (pe_fld (pv 0) rfl) (pe_ix ix_tup (pv 1) pe_int (fun _ _ => rfl)) (nomark _))))))
        (pss_one (ps_ret pe_bl)) pss_nil)
      (pss_cons (ps_for PassesOwn.never rfl (pi_tup (pe_fld (pv 0) rfl)) (pg_name (i := 2) scs__law_is.nd rfl (Or.inl rfl))
        (pss_cons (ps_if (PW.pt (pw_or (pt_not (pt_val (pe_callB call_isi (by rfl) B.isi (by decide +kernel) (pa_cons (pv 2) (pa_cons (pe_bltn (v := .ty "tuple") (by rfl) B.tuple (by decide +kernel) rfl) pa_nil))))) (pw_or1 (pt_cmpR op_ne (pe_callB call_len_seq (by rfl) B.len (by decide +kernel) (pa_cons (pv 2) pa_nil)) pe_int (nomark _)))))
          (pss_one (ps_ret pe_bl)) pss_nil)
        (pss_one (ps_if (PW.pt (pw_or (pt_val (pe_callB call_isi (by rfl) B.isi (by decide +kernel) (pa_cons (pe_ix ix_tup (pv 2) pe_int (fun _ _ => rfl)) (pa_cons (pe_bltn (v := .ty "bool") (by rfl) B.bool (by decide +kernel) rfl) pa_nil)))) (pw_or1 (pt_val (pe_callB call_isi (by rfl) B.isi (by decide +kernel) (pa_cons (pe_ix ix_tup (pv 2) pe_int (fun _ _ => rfl)) (pa_cons (pe_bltn (v := .ty "bool") (by rfl) B.bool (by decide +kernel) rfl) pa_nil)))))))
          (pss_one (ps_ret pe_bl)) pss_nil))))
      (pss_one (ps_ret (pe_cmpR (op_eqD hr.units) (pe_fld (pv 0) rfl) (pe_ix ix_tup (pv 1) pe_int (fun _ _ => rfl)) (nomark _))))))), ?_⟩
    obtain ⟨t, e, xs, rfl, ht, he, hP⟩ := id hv
    obtain ⟨dx, e', vt, r, ys, rs, k1, k2, k3, _⟩ := hg.ex
    have tn : ∀ i : Int, tag C H (.int i) = some .int := fun _ => rfl
    refine ⟨_, rfl, .ref g, .ref C, _, _, _, rfl, .own _, tag_ty G hg.tag, kit_gr G .gr, _, rfl, iteF ?_⟩
    refine ⟨_, rfl, g, C, dx, _, .ref e', rfl, k1, G.cl, A.e, rfl, .ref e', .ty "tuple", _, _, _, rfl, .ty _, tag_ty G (tag_tup k2), kit_tag G .tup .tup (by decide) (by decide), _, rfl, iteF ?_⟩
    refine ⟨_, rfl, g, C, dx, _, .int (n : Int), rfl, k1, G.cl, A.s, rfl, .int (n : Int), .ty "int", _, _, _, rfl, .ty _, tag_ty G (tn _), kit_tag G .int .int (by decide) (by decide), _, rfl, iteF ?_⟩
    refine ⟨_, rfl, g, C, dx, _, .int (n : Int), rfl, k1, G.cl, A.s, rfl, .int (n : Int), .ty "bool", _, _, _, rfl, .ty _, tag_ty G (tn _), kit_tag G .int .bl (by decide) (by decide), _, rfl, iteF ?_⟩
    refine ⟨_, rfl, g, C, dx, _, .int (n : Int), rfl, k1, G.cl, A.s, rfl, _, rfl, t, _, 0, _, rfl, rfl, .of ht, rfl, rfl, _, rfl, ?_⟩
    rw [decide_eq_true rfl]
    refine iteF ?_
    refine ⟨_, rfl, g, C, dx, _, .ref e', rfl, k1, G.cl, A.e, rfl, e', rfl, ⟨_, .of k2⟩, for_tup (xs := ys) (fun i σ H' => H' = H ∧ ∃ y2, σ = [some (.ref g), some (.ref t), y2]) ⟨rfl, none, rfl⟩ (fun i σ H' _ h => by rw [h.1]; exact .of k2) ?_ ?_⟩
    · rintro i x σ H3 hi ⟨rfl, y2, rfl⟩
      obtain ⟨⟨qa, qb⟩, hq, te, rfl, hte⟩ := paired_get k3 hi
      refine ⟨_, rfl, .ref te, .ty "tuple", _, _, _, rfl, .ty _, tag_ty G (tag_tup hte), kit_tag G .tup .tup (by decide) (by decide), _, rfl, iteF ?_⟩
      refine ⟨_, rfl, te, _, rfl, .inr (.of hte), rfl, _, rfl, ?_⟩
      refine iteF ?_
      refine ⟨_, rfl, te, _, 0, _, rfl, rfl, .of hte, rfl, .int qa, .ty "bool", _, _, _, rfl, .ty _, tag_ty G (tn _), kit_tag G .int .bl (by decide) (by decide), _, rfl, iteF ?_⟩
      refine ⟨_, rfl, te, _, 1, _, rfl, rfl, .of hte, rfl, .int qb, .ty "bool", _, _, _, rfl, .ty _, tag_ty G (tn _), kit_tag G .int .bl (by decide) (by decide), _, rfl, iteF ?_⟩
      exact ⟨rfl, _, rfl⟩
    · rintro σ H3 ⟨rfl, y2, rfl⟩
      have hsh := shaped_prs ps
      refine ⟨_, rfl, g, C, dx, _, .ref e', rfl, k1, G.cl, A.e, rfl, _, rfl, t, _, 1, _, rfl, rfl, .of ht, rfl, _, _, .tup (.inl (.inl k2)) (dp_prs k3), .tup (.inl (.inl he)) (dp_prs hP), hsh, hsh, ?_⟩
      rw [SeqAt.eqv_refl _ (SeqAt.canLay_of_shaped hsh)]
      exact q
end
end Ev
namespace Ev
open PySem PySem.Spec PyProof.Rows L2
/-! ### what is told of an error of one field -/
structure ErrC (K : PySem.W.Frag) (mg : Str → Option Value) (CI CE : Addr) (nm fl : Str) : Prop where
  T : ∃ fI, OneF K CI fI fl
  gE : mg "GraphError" = some (.ref CE)
  gN : mg nm = some (.ref CI)
  xN : PySem.W.exmOne K (.ref CI) (.ref CE) = some true
  nn : PySem.W.kitOne K (.ref CI) (.ref CI) = some true
def t_suiteE (K : PySem.W.Frag) (CI : Addr) (nm fl : Str) (i : Nat) : Addr → Value → Option Addr → TS := fun a cls d =>
  tIfS (tB (tCB (rIsX K a cls d) (tCons (tVar i) (tCons (tC (.ref CI)) tNil)))) (tRet (tTup (tCons (tC (.str nm)) (tCons (tXf a cls d CI fl (tVar i)) tNil)))) tNext
theorem suiteE {K : PySem.W.Frag} {mg : Str → Option Value} {CI CE : Addr} {nm fl : Str} {i : Nat} (Z : ErrC K mg CI CE nm fl) {v : V} {H H' : Hp} {d : Option Addr} {D : Ends} {σ : L2.St} {a : Addr}
    (hm : OneMade fl v H d H') (hσ : σ[i]? = some (some (.ref a))) (hq : ∀ H2 t, Same H H2 → H2 t = some (.tup [.str nm, v]) → D.rt (.ref t) H2) : t_suiteE K CI nm fl i a (.ref CI) d D σ H' := by
  obtain ⟨fI, T⟩ := Z.T
  obtain ⟨dd, rfl, hdd, s⟩ := hm
  refine ⟨.ref a, hσ, CI, .ref CI, .ref CI, true, dd, [(fl, v)], rfl, rfl, rfl, hdd, T.ec, .own _, Z.nn, _, rfl, iteT ?_⟩
  refine ⟨.ref a, hσ, rfl, rfl, dd, [(fl, v)], v, rfl, hdd, (by simp [List.lookup]), (by show 2 ≤ sizeLine; decide), fun t ht => ?_⟩
  exact hq _ t (s.trans (same_new ht)) upd_same
end Ev
namespace Ev
open PySem PySem.Spec PyProof.Rows L2
/-! ### own operators that may raise, as one thing -/
structure BinM (P : Program) (w : World) (K : PySem.W.Frag) (mg : Str → Option Value) (base : Heap) (C : Addr) (k : Nat) (m : Str) (sp : Sp) : Prop where
  ex : ∃ (f : Addr) (fd : FuncData) (ps : List Str), FnOk P w K mg base (L2.CX P w) k f fd ps sp ∧ PySem.W.findIn K (.ref C) m = some (some (.ref f)) ∧ PySem.W.isFn K (.ref f) = true ∧ Binds K fd ps []
  self : PySem.W.selfFirst K C = true
structure InvM (P : Program) (w : World) (K : PySem.W.Frag) (mg : Str → Option Value) (base : Heap) (C : Addr) (k : Nat) (sp : Sp) : Prop where
  ex : ∃ (f : Addr) (fd : FuncData) (ps : List Str), FnOk P w K mg base CX0 k f fd ps sp ∧ PySem.W.findIn K (.ref C) "__invert__" = some (some (.ref f)) ∧ PySem.W.isFn K (.ref f) = true ∧ Binds K fd ps []
section
variable {X : Cx} {k j : Nat} {C : Addr} {m : Str} {sp : Sp}
theorem passE0 {σ : L2.St} : PassesAt (L2.CX X.prog X.w) X σ C8.E0 := fun _ _ _ _ _ _ ⟨_, _, _, _, _, _, _, _, _, _, _, _, h⟩ => h.elim
theorem pe_bin {op : Operator} {E : L2.St → XK} {e1 e2 : Expr} {ta tb : TE} {pos : Pos} (c : BinM X.prog X.w X.K X.mg X.base C k m sp) (hn : PySem.dunder op.info.2 = m) (hr : Room j X.A) (hk : k ≤ j) (hx : ∀ σ, PassesAt (L2.CX X.prog X.w) X σ (E σ)) (ha : PE X e1 ta) (hb : PE X e2 tb) : PE X (.BinOp e1 op e2 pos) (tBinS C sp E ta tb) := by
  obtain ⟨f, fd, ps, F, hs, hf, b⟩ := c.ex
  exact pe_binS F (hr.mono hk) c.self (by rw [hn]; exact hs) hf b hx ha hb
theorem un_own (c : InvM X.prog X.w X.K X.mg X.base C k sp) (hr : Room j X.A) (hk : k ≤ j) : UnR X (unaryOp .Invert) (rUnOwn C sp C8.E0) := by
  obtain ⟨f, fd, ps, F, hs, hf, b⟩ := c.ex
  exact un_invOwn F (hr.mono hk) hs hf b pass0
end
def sumL (b : Bool) (n m : Nat) (ps qs : List (Int × Int)) : List (Int × Int) := if b then joinL n m ps qs else addL n ps qs
def SumAt (C : Addr) (H : Hp) (n m : Nat) (ps qs : List (Int × Int)) (b : Bool) (r : V) : Prop := ∃ t, r = .ref t ∧
  ((24 < n + m ∧ H t = some (.tup [.str "TooLarge", .str "vertices"])) ∨ (n + m ≤ 24 ∧ ∃ g, H t = some (.tup [.str "answer", .ref g]) ∧ GrAt C H g (n + m) (sumL b n m ps qs)))
def spSumT (C : Addr) : Sp := fun vs H Q _ => ∃ (a c : Addr) (n m : Nat) (ps qs : List (Int × Int)) (b : Bool), vs = [.ref a, .ref c, .bl b] ∧ GrAt C H a n ps ∧ GrAt C H c m qs ∧ Good n ps ∧ Good m qs ∧ 1 ≤ n ∧ 1 ≤ m ∧ n ≤ 24 ∧ m ≤ 24 ∧ ∀ H' r, Same H H' → SumAt C H' n m ps qs b r → Q r H'
def spSumsR (C : Addr) : Sp := fun vs H Q _ => ∃ (a c : Addr) (v z : V) (n m : Nat) (ps qs : List (Int × Int)), vs = [.ref a, .ref c, v, z] ∧ GrAt C H a n ps ∧ GrAt C H c m qs ∧ DueAt H v n ps ∧ DueAt H z m qs ∧ Good n ps ∧ Good m qs ∧ 1 ≤ n ∧ 1 ≤ m ∧ n ≤ 24 ∧ m ≤ 24 ∧ ∀ H', Same H H' → Q (.bl true) H'
def t_sum (C CT : Addr) (W : WX) : TS :=
  tSeq (tIfS (tB (tVar 2)) (tRet (tTup (tCons (tC (.str "answer")) (tCons (tBinS C (spSum C CT joinL) (WE W) (tVar 0) (tVar 1)) tNil)))) tNext)
    (tRet (tTup (tCons (tC (.str "answer")) (tCons (tBinS C (spSum C CT fun n _ ps qs => addL n ps qs) (WE W) (tVar 0) (tVar 1)) tNil))))
theorem ne_tl (x y : Str) : PyData.eqv (.tuple [.str x, .str y]) (.tuple [.str x, .str y]) = true := by
  simp [PyData.eqv, PyData.eqvAll]
theorem shaped_ss : SeqAt.shaped (.tuple [.str "TooLarge", .str "vertices"]) = true := by decide +kernel
theorem sumL_good {b : Bool} {n m : Nat} {ps qs : List (Int × Int)} (g : Good n ps) (h : Good m qs) : Good ((n + m : Nat) : Int) (sumL b n m ps qs) := by
  cases b
  · exact addL_good g h
  · exact joinL_good n m ps qs
section
variable {P : Program} {w : World} {K : PySem.W.Frag} {mg : Str → Option Value} {base : Heap} {C : Addr}
theorem ok_law_sum {f : Addr} {fd : FuncData} (F : Fun K "_law_sum" "_law_sum" s__law_sum f fd) {CT CE : Addr} (B : B0 mg) (Z : ErrC K mg CT CE "TooLarge" "what") (bA : BinM P w K mg base C 8 "__add__" (spSum C CT fun n _ ps qs => addL n ps qs)) (bM : BinM P w K mg base C 8 "__mul__" (spSum C CT joinL)) : FnOk P w K mg base CX0 9 f fd ["one", "other", "joined"] (spSumT C) := by
  refine F.ok scs__law_sum (fun vs H Q E h => ?_) (fun cdv A' outer s H vs Q E hr h => ?_)
  · obtain ⟨a, c, n, m, ps, qs, b, rfl, _⟩ := h
    rfl
  · obtain ⟨a, c, n, m, ps, qs, b, rfl, ha, hb, hG1, hG2, h1, h2, h3, h4, q⟩ := h
    obtain ⟨fI, T⟩ := Z.T
    refine ⟨_, pss_cons (ps_try_as (i := 3) (tb := t_sum C CT) (ts := t_suiteE K CT "TooLarge" "what" 3) (Wout := fun _ _ _ _ => False) rfl rfl scs__law_sum.nd rfl rfl ⟨rfl, by decide, Or.inl Z.gE⟩ takes0
          (fun W pn xe tk _ => pss_cons (ps_if (pt_val (pv 2)) (pss_one (ps_ret (pe_tup (pa_cons pe_str (pa_cons (by exact pe_bin (E := WE W) bM (by decide +kernel) hr (by decide) (fun σ => passAt tk σ) (pv 0) (pv 1)) pa_nil))))) pss_nil)
              (pss_one (ps_ret (pe_tup (pa_cons pe_str (pa_cons (by exact pe_bin (E := WE W) bA (by decide +kernel) hr (by decide) (fun σ => passAt tk σ) (pv 0) (pv 1)) pa_nil))))))
          (fun a oe cls d pn hz hf => pss_one (ps_if (pt_val (by exact pe_callB (call_isX hz hf) (by rfl) B.isi (by decide +kernel) (pa_cons (pv 3) (pa_cons (pe_glob rfl Z.gN rfl) pa_nil)))) (pss_one (ps_ret (pe_tup (pa_cons pe_str (pa_cons (by exact pe_xf T.xf T.no hz hf (pv 3)) pa_nil))))) pss_nil)))
      (pss_one (ps_ret (pe_tup (pa_cons pe_str pa_nil)))), ?_⟩
    obtain ⟨dx, e, vt, r, xs, rs, k1, _⟩ := ha.ex
    obtain ⟨dx', e', vt', r', xs', rs', k1', _⟩ := hb.ex
    refine ⟨_, rfl, b, rfl, ?_⟩
    cases b with
    | true =>
      exact iteT ⟨_, rfl, _, rfl, a, c, dx, dx', _, _, rfl, rfl, k1, k1', a, c, n, m, ps, qs, rfl, ha, hb, hG1, hG2, h1, h2, h3, h4, fun h d H' hm => ⟨true, Z.xN, fun a _ _ => suiteE Z hm rfl (fun H2 t s2 ht => q H2 _ s2 ⟨t, rfl, .inl ⟨h, ht⟩⟩), fun z => nomatch z⟩,
        fun h H' g' s1 hg => ⟨g', rfl, (by show 2 ≤ sizeLine; decide), fun t ht => q _ _ (s1.trans (same_new ht)) ⟨t, rfl, .inr ⟨h, g', upd_same, hg.kp (p := 0) (.of (same_new ht))⟩⟩⟩⟩
    | false =>
      exact iteF ⟨_, rfl, _, rfl, a, c, dx, dx', _, _, rfl, rfl, k1, k1', a, c, n, m, ps, qs, rfl, ha, hb, hG1, hG2, h1, h2, h3, h4, fun h d H' hm => ⟨true, Z.xN, fun a _ _ => suiteE Z hm rfl (fun H2 t s2 ht => q H2 _ s2 ⟨t, rfl, .inl ⟨h, ht⟩⟩), fun z => nomatch z⟩,
        fun h H' g' s1 hg => ⟨g', rfl, (by show 2 ≤ sizeLine; decide), fun t ht => q _ _ (s1.trans (same_new ht)) ⟨t, rfl, .inr ⟨h, g', upd_same, hg.kp (p := 0) (.of (same_new ht))⟩⟩⟩⟩
theorem ok_law_sums_right {f : Addr} {fd : FuncData} (F : Fun K "_law_sums_right" "_law_sums_right" s__law_sums_right f fd) (B : B0 mg) (c_law_sum : Ca P w K mg base 9 "_law_sum" (spSumT C)) (c_law_union : Ca P w K mg base 1 "_law_union" spUnion) (c_law_join : Ca P w K mg base 2 "_law_join" spJoin) (c_law_is : Ca P w K mg base 1 "_law_is" (spIs C)) : FnOk P w K mg base CX0 10 f fd ["first", "second", "one", "other"] (spSumsR C) := by
  refine F.ok scs__law_sums_right (fun vs H Q E h => ?_) (fun cdv A' outer s H vs Q E hr h => ?_)
  · obtain ⟨a, c, v, z, n, m, ps, qs, rfl, _⟩ := h
    rfl
  · obtain ⟨a, c, v, z, n, m, ps, qs, rfl, ha, hb, hv, hz, hG1, hG2, h1, h2, h3, h4, q⟩ := h
    refine ⟨_, (pss_cons (ps_for PassesOwn.never rfl (pi_list (pe_lst (pa_cons pe_bl (pa_cons pe_bl pa_nil)))) (pg_name (i := 4) scs__law_sums_right.nd rfl (Or.inl rfl))
        (pss_cons (ps_set (i := 5) scs__law_sums_right.nd rfl (Or.inl rfl) (C8.pe_c c_law_sum hr (by decide) (by rfl) (pa_cons (pv 0) (pa_cons (pv 1) (pa_cons (pv 4) pa_nil)))))
        (pss_cons (ps_set (i := 6) scs__law_sums_right.nd rfl (Or.inl rfl) (C8.pe_c c_law_union hr (by decide) (by rfl) (pa_cons (pv 2) (pa_cons (pv 3) pa_nil))))
        (C8.pss_cut (ps_if (PW.pt (pw_and (pt_val (pv 4)) (pw_and1 (pt_cmpR op_le (pe_ix ix_tup (pv 6) pe_int (fun _ _ => rfl)) pe_int (nomark _)))))
          (pss_one (ps_set (i := 6) scs__law_sums_right.nd rfl (Or.inl rfl) (C8.pe_c c_law_join hr (by decide) (by rfl) (pa_cons (pv 2) (pa_cons (pv 3) pa_nil))))) pss_nil)
        (pss_one (ps_if (pt_cmpR op_gt (pe_ix ix_tup (pv 6) pe_int (fun _ _ => rfl)) pe_int (nomark _))
          (pss_one (ps_if (pt_cmpR (op_neD hr.units) (pv 5) (pe_tup (pa_cons pe_str (pa_cons pe_str pa_nil))) (nomark _))
            (pss_one (ps_ret pe_bl)) pss_nil)) 
          (pss_one (ps_if (PW.pt (pw_or (pt_cmpR op_ne (pe_ix ix_tup (pv 5) pe_int (fun _ _ => rfl)) pe_str (nomark _)) (pw_or1 (pt_not (pt_val (C8.pe_c c_law_is hr (by decide) (by rfl) (pa_cons (pe_ix ix_tup (pv 5) pe_int (fun _ _ => rfl)) (pa_cons (pv 6) pa_nil))))))))
            (pss_one (ps_ret pe_bl)) pss_nil))))))))
      (pss_one (ps_ret pe_bl))), ?_⟩
    refine ⟨(by show 2 ≤ sizeLine; decide), fun L hL => ?_⟩
    have sL := same_new (o := .lst [.bl false, .bl true]) hL
    refine ⟨L, rfl, ⟨_, .of upd_same⟩, for_list (xs := [.bl false, .bl true]) (fun i σ H' => Same H H' ∧ H' L = some (.lst [.bl false, .bl true]) ∧ ∃ y4 y5 y6, σ = [some (.ref a), some (.ref c), some v, some z, y4, y5, y6]) ⟨sL, upd_same, none, none, none, rfl⟩ (fun i σ H' _ h => SqL.of h.2.1) ?_ ?_⟩
    · rintro i x σ H1 hi ⟨s1, hL1, y4, y5, y6, rfl⟩
      obtain ⟨b, rfl⟩ : ∃ b : Bool, x = .bl b := by
        match i, hi with
        | 0, hi => exact ⟨false, (Option.some.inj hi).symm⟩
        | 1, hi => exact ⟨true, (Option.some.inj hi).symm⟩
      refine ⟨_, rfl, _, rfl, _, rfl, a, c, n, m, ps, qs, b, rfl, ha.kp (p := 0) (.of s1), hb.kp (p := 0) (.of s1), hG1, hG2, h1, h2, h3, h4, fun H2 r s2 hS => ?_⟩
      have s12 := s1.trans s2
      refine ⟨_, rfl, _, rfl, v, z, n, m, ps, qs, rfl, hv.same s12, hz.same s12, hG1, hG2, h3, h4, fun H3 u s3 d3 => ?_⟩
      have s13 := s12.trans s3
      refine ⟨fun σ' H' => ∃ u3 ks, σ' = [some (.ref a), some (.ref c), some v, some z, some (.bl b), some r, some u3] ∧ Same H2 H' ∧ DueAt H' u3 (n + m) ks ∧ (n + m ≤ 24 → ks = sumL b n m ps qs), ?_, ?_⟩
      · refine ⟨_, rfl, b, rfl, ?_⟩
        cases b with
        | false => exact iteF ⟨u, _, rfl, s3, d3, fun _ => rfl⟩
        | true =>
          obtain ⟨td, ed, xd, rfl, htd, hed, hPd⟩ := id d3
          refine iteT ⟨_, rfl, td, _, 0, _, rfl, rfl, .of htd, rfl, _, _, rfl, rfl, _, rfl, ite2 (fun c5 => ?_) (fun c5 => ?_)⟩
          · have c5 : n + m ≤ 24 := by have := of_decide_eq_true c5; omega
            refine ⟨_, rfl, _, rfl, v, z, n, m, ps, qs, rfl, hv.same s13, hz.same s13, hG1, hG2, c5, fun H4 u4 s4 d4 => ?_⟩
            exact ⟨u4, _, rfl, s3.trans s4, d4, fun _ => rfl⟩
          · have c5 : ¬ n + m ≤ 24 := fun z => c5 (decide_eq_true (by omega))
            exact ⟨_, _, rfl, s3, d3, fun z => absurd z c5⟩
      · rintro σ' H4 ⟨u3, ks, rfl, s4, d4, hks⟩
        obtain ⟨td, ed, xd, rfl, htd, hed, hPd⟩ := id d4
        have s14 := s12.trans s4
        obtain ⟨t, rfl, hS⟩ := hS
        refine ⟨_, rfl, td, _, 0, _, rfl, rfl, .of htd, rfl, _, _, rfl, rfl, _, rfl, ite2 (fun c6 => ?_) (fun c6 => ?_)⟩
        · have c6 : 24 < n + m := by have := of_decide_eq_true c6; omega
          obtain ⟨_, ht⟩ := hS.resolve_right fun z => by have := z.1; omega
          refine ⟨_, rfl, (by show 2 ≤ sizeLine; decide), fun u5 hu5 => ?_⟩
          have s5 := same_new (o := .tup [.str "TooLarge", .str "vertices"]) hu5
          refine ⟨_, _, .tup (.inl (.inl ((s4.trans s5) _ _ ht))) (.cons (.str _) (.cons (.str _) .nil)), .tup (.inl (.inl upd_same)) (.cons (.str _) (.cons (.str _) .nil)), shaped_ss, shaped_ss, ?_⟩
          rw [ne_tl]
          exact ⟨_, rfl, iteF ⟨s14.trans s5, (s2.trans (s4.trans s5)) _ _ hL1, _, _, _, rfl⟩⟩
        · have c6 : n + m ≤ 24 := by
            rcases Nat.lt_or_ge 24 (n + m) with h | h
            · exact absurd (decide_eq_true (by omega)) c6
            · exact h
          obtain ⟨_, g, ht, hg⟩ := hS.resolve_left fun z => by have := z.1; omega
          obtain rfl := hks c6
          refine ⟨_, rfl, t, _, 0, _, rfl, rfl, .of (s4 _ _ ht), rfl, rfl, _, rfl, ?_⟩
          rw [decide_eq_true rfl]
          refine iteF ⟨_, rfl, t, _, 1, _, rfl, rfl, .of (s4 _ _ ht), rfl, _, rfl, g, .ref td, n + m, _, rfl, hg.kp (p := 0) (.of s4), d4, sumL_good hG1 hG2, _, rfl, iteF ?_⟩
          exact ⟨s14, (s2.trans s4) _ _ hL1, _, _, _, rfl⟩
    · rintro σ H1 ⟨s1, hL1, y4, y5, y6, rfl⟩
      exact q _ s1
end
end Ev
namespace Ev
open PySem PySem.Spec PyProof.Rows L2
def spAsked (K : PySem.W.Frag) : Sp := fun vs H Q _ => ∃ (a : Addr) (ns : List Int), vs = [.ref a] ∧ SqL K H a (ns.map V.int) ∧ ns.length ≤ 63 ∧ ∀ H', Q (.bl true) H'
section
variable {P : Program} {w : World} {K : PySem.W.Frag} {mg : Str → Option Value} {base : Heap} {C : Addr}
theorem ok_law {k : Nat} {f : Addr} {fd : FuncData} (F : Fun K "law" "law" s_law f fd) (cA : C8.Cal P w K mg base k "_law_asked" (spAsked K) []) : FnOk P w K mg base CX0 (k + 1) f fd ["script"] (spAsked K) := by
  refine F.ok scs_law (fun vs H Q E h => ?_) (fun cdv A outer s H vs Q E hr h => ?_)
  · obtain ⟨a, ns, rfl, _⟩ := h
    rfl
  · obtain ⟨a, ns, rfl, hS, hlen, q⟩ := h
    refine ⟨_, pss_one (ps_try_thru0 (pss_one (ps_ret (C8.pe_c cA (by exact hr) (Nat.le_refl _) (by rfl) (pa_cons (pv 0) pa_nil))))), ?_⟩
    exact ⟨_, rfl, a, ns, rfl, hS, hlen, fun H' => q H'⟩
end
end Ev
namespace Ev
open PySem PySem.Spec PyProof.Rows L2
theorem out_out {n : Nat} {ps : List (Int × Int)} (g : Good n ps) : outL n (outL n ps) = ps := by
  have g1 : Good n (outL n ps) := (good_prs n).filter _
  have e : ps = (prs (upto n)).filter fun q => decide (q ∈ ps) := good_filt g
  conv => rhs; rw [e]
  unfold outL
  refine List.filter_congr fun q hq => ?_
  have hb := (good_prs n).bd q hq
  have h1 : q ∈ (prs (upto n)).filter (outP ps) ↔ q ∉ ps := by
    rw [List.mem_filter, outP_eq g (by omega)]
    simp [hq]
  refine (outP_eq g1 (by omega)).trans ?_
  rw [Bool.eq_iff_iff]
  show (!decide (q ∈ (prs (upto n)).filter (outP ps))) = true ↔ _
  simp [h1, g]
theorem mk_graph {C : Addr} {H : Hp} {e : Addr} {xs : List V} {n : Nat} {ps : List (Int × Int)} {Q : VK} {g dx : Addr} (hg : H g = none) (hdx : H dx = none) (hne : dx ≠ g) (he : H e = some (.lst xs) ∨ H e = some (.tup xs)) (hP : PrsAt H xs ps) (hG : Good n ps) (h1 : 1 ≤ n) (h2 : n ≤ 24) (q : ∀ H', Same H H' → GrAt C H' g n ps → Q .non H') :
    spInit C [.ref g, .int (n : Int), .ref e] (upd (upd H dx (.own g)) g (.ins C dx [])) Q C8.E0 := by
  have hg5 : (upd H dx (.own g)) g = none := by rw [upd_ne hne.symm]; exact hg
  have s6 := same_new (o := .own g) hdx
  have s7 := same_new (o := .ins C dx []) hg5
  refine ⟨g, dx, e, n, xs, ps, rfl, h1, h2, upd_same, he.imp (fun z => s7 _ _ (s6 _ _ z)) (fun z => s7 _ _ (s6 _ _ z)), hP.kp (p := 0) (.of (s6.trans s7)), good_len hG h2, hG, fun H8 k8 g8 => ?_⟩
  exact q H8 (fun b o z => k8 b o (fun zz => by
    rw [zz, hg] at z
    cases z) (s7 _ _ (s6 _ _ z))) g8
theorem un_at {C : Addr} {H : Hp} {g : Addr} {n : Nat} {ps : List (Int × Int)} {Q : VK} (hg : GrAt C H g n ps) (h1 : 1 ≤ n) (h2 : n ≤ 24) (q : ∀ H' g', Same H H' → GrAt C H' g' n (outL n ps) → Q (.ref g') H') : rUnOwn C (spInv C) C8.E0 (.ref g) H Q := by
  obtain ⟨dx, e, vt, r, xs, rs, k1, _⟩ := id hg.ex
  exact ⟨g, dx, _, rfl, k1, g, n, ps, rfl, hg, h1, h2, q⟩
theorem bin_at {C CT : Addr} {f : Nat → Nat → List (Int × Int) → List (Int × Int) → List (Int × Int)} {H : Hp} {a b : Addr} {n m : Nat} {ps qs : List (Int × Int)} {Q : VK} (ha : GrAt C H a n ps) (hb : GrAt C H b m qs) (hG1 : Good n ps) (hG2 : Good m qs) (h1 : 1 ≤ n) (h2 : 1 ≤ m) (hs : n + m ≤ 24)
    (q : ∀ H' g', Same H H' → GrAt C H' g' (n + m) (f n m ps qs) → Q (.ref g') H') : ∃ a' b' dx dy fs gs, V.ref a = V.ref a' ∧ V.ref b = V.ref b' ∧ H a' = some (.ins C dx fs) ∧ H b' = some (.ins C dy gs) ∧ spSum C CT f [.ref a', .ref b'] H (fun v H' => ∃ r, v = .ref r ∧ Q v H') C8.E0 := by
  obtain ⟨dx, e, vt, r, xs, rs, k1, _⟩ := id ha.ex
  obtain ⟨dx', e', vt', r', xs', rs', k1', _⟩ := id hb.ex
  exact ⟨a, b, dx, dx', _, _, rfl, rfl, k1, k1', a, b, n, m, ps, qs, rfl, ha, hb, hG1, hG2, h1, h2, by omega, by omega, fun h => absurd h (by omega), fun _ H' g' s hg => ⟨g', rfl, q H' g' s hg⟩⟩
structure S3 (C t1 t2 g1 g2 L : Addr) (n m : Nat) (ps qs : List (Int × Int)) (H : Hp) : Prop where
  d1 : DueAt H (.ref t1) n ps
  d2 : DueAt H (.ref t2) m qs
  g1 : GrAt C H g1 n ps
  g2 : GrAt C H g2 m qs
  L : H L = some (.lst [.int (n : Int), .int (m : Int)])
theorem S3.same {C t1 t2 g1 g2 L : Addr} {n m : Nat} {ps qs : List (Int × Int)} {H H' : Hp} (s : Same H H') (h : S3 C t1 t2 g1 g2 L n m ps qs H) : S3 C t1 t2 g1 g2 L n m ps qs H' :=
  ⟨h.d1.same s, h.d2.same s, h.g1.kp (p := 0) (.of s), h.g2.kp (p := 0) (.of s), s _ _ h.L⟩
theorem outL_good {n : Nat} {ps : List (Int × Int)} : Good n (outL n ps) := (good_prs n).filter _
section
variable {P : Program} {w : World} {K : PySem.W.Frag} {mg : Str → Option Value} {base : Heap} {C : Addr}
theorem ok_law_asked3 {f : Addr} {fd : FuncData} (F : Fun K "_law_asked" "_law_asked" s__law_asked f fd) {CT : Addr} (B : B0 mg) (c_law_sizes : Ca P w K mg base 3 "_law_sizes" spSizes) (c_law_edges : Ca P w K mg base 3 "_law_edges" spEdgesT) (cG : C8.Mak P w K mg base 6 "Graph" C (spInit C) []) (c_law_complement : Ca P w K mg base 1 "_law_complement" spCompl) (c_law_union : Ca P w K mg base 1 "_law_union" spUnion) (c_law_is : Ca P w K mg base 1 "_law_is" (spIs C)) (c_law_sums_right : Ca P w K mg base 10 "_law_sums_right" (spSumsR C)) (c_inv : InvM P w K mg base C 8 (spInv C)) (b_add : BinM P w K mg base C 8 "__add__" (spSum C CT fun n _ ps qs => addL n ps qs)) (b_mul : BinM P w K mg base C 8 "__mul__" (spSum C CT joinL)) : FnOk P w K mg base CX0 11 f fd ["script"] (spAsked K) := by
  refine F.ok scs__law_asked (fun vs H Q E h => ?_) (fun cdv A' outer s H vs Q E hr h => ?_)
  · obtain ⟨a, sc, rfl, _⟩ := h
    rfl
  · obtain ⟨a, sc, rfl, hS, hlen, q⟩ := h
    refine ⟨_, (pss_cons (ps_set (i := 1) scs__law_asked.nd rfl (Or.inl rfl) (pe_lst (pa_cons (pe_callTy call_list_of (by rfl) B.list (by decide +kernel) (pa_cons (pv 0) pa_nil)) (pa_cons pe_int (pa_cons pe_int (pa_cons pe_int pa_nil))))))
      (pss_cons (ps_set (i := 2) scs__law_asked.nd rfl (Or.inl rfl) (C8.pe_c c_law_sizes hr (by decide) (by rfl) (pa_cons (pv 1) pa_nil)))
      (pss_cons (ps_set (i := 3) scs__law_asked.nd rfl (Or.inl rfl) (pe_tup (pa_cons (pe_ix ix_list (pv 2) pe_int (fun _ _ => rfl)) (pa_cons (C8.pe_c c_law_edges hr (by decide) (by rfl) (pa_cons (pv 1) (pa_cons (pe_ix ix_list (pv 2) pe_int (fun _ _ => rfl)) pa_nil))) pa_nil))))
      (pss_cons (ps_set (i := 4) scs__law_asked.nd rfl (Or.inl rfl) (pe_tup (pa_cons (pe_ix ix_list (pv 2) pe_int (fun _ _ => rfl)) (pa_cons (C8.pe_c c_law_edges hr (by decide) (by rfl) (pa_cons (pv 1) (pa_cons (pe_ix ix_list (pv 2) pe_int (fun _ _ => rfl)) pa_nil))) pa_nil))))
      (pss_cons (ps_set (i := 5) scs__law_asked.nd rfl (Or.inl rfl) (C8.pe_mk cG hr (by decide) (by rfl) (pa_cons (pe_ix ix_tup (pv 3) pe_int (fun _ _ => rfl)) (pa_cons (pe_ix ix_tup (pv 3) pe_int (fun _ _ => rfl)) pa_nil))))
      (pss_cons (ps_set (i := 6) scs__law_asked.nd rfl (Or.inl rfl) (C8.pe_mk cG hr (by decide) (by rfl) (pa_cons (pe_ix ix_tup (pv 4) pe_int (fun _ _ => rfl)) (pa_cons (pe_callTy call_list_of (by rfl) B.list (by decide +kernel) (pa_cons (pe_ix ix_tup (pv 4) pe_int (fun _ _ => rfl)) pa_nil)) pa_nil))))
      (pss_cons (ps_for PassesOwn.never rfl (pi_range1 rfl B.range (pa_cons pe_int pa_nil)) (pg_name (i := 7) scs__law_asked.nd rfl (Or.inl rfl))
        (pss_cons (ps_if (PW.pt (pw_or (pt_not (pt_val (C8.pe_c c_law_is hr (by decide) (by rfl) (pa_cons (pe_un (un_own c_inv hr (by decide)) (pv 5)) (pa_cons (C8.pe_c c_law_complement hr (by decide) (by rfl) (pa_cons (pv 3) pa_nil)) pa_nil))))) (pw_or1 (pt_not (pt_val (C8.pe_c c_law_is hr (by decide) (by rfl) (pa_cons (pe_un (un_own c_inv hr (by decide)) (pe_un (un_own c_inv hr (by decide)) (pv 5))) (pa_cons (pv 3) pa_nil))))))))
          (pss_one (ps_ret pe_bl)) pss_nil)
        (pss_cons (ps_if (pt_not (pt_val (C8.pe_c c_law_is hr (by decide) (by rfl) (pa_cons (pe_un (un_own c_inv hr (by decide)) (pv 6)) (pa_cons (C8.pe_c c_law_complement hr (by decide) (by rfl) (pa_cons (pv 4) pa_nil)) pa_nil)))))
          (pss_one (ps_ret pe_bl)) pss_nil)
        (pss_one (ps_if (pt_not (pt_val (C8.pe_c c_law_sums_right hr (by decide) (by rfl) (pa_cons (pv 5) (pa_cons (pv 6) (pa_cons (pv 3) (pa_cons (pv 4) pa_nil)))))))
          (pss_one (ps_ret pe_bl)) pss_nil)))))
      (pss_cons (ps_if (PW.pt (pw_or (pt_not (pt_val (C8.pe_c c_law_sums_right hr (by decide) (by rfl) (pa_cons (pv 6) (pa_cons (pv 5) (pa_cons (pv 4) (pa_cons (pv 3) pa_nil))))))) (pw_or1 (pt_not (pt_val (C8.pe_c c_law_sums_right hr (by decide) (by rfl) (pa_cons (pv 5) (pa_cons (pv 5) (pa_cons (pv 3) (pa_cons (pv 3) pa_nil))))))))))
        (pss_one (ps_ret pe_bl)) pss_nil)
      (C8.pss_cut (ps_if (pt_cmpR op_le (pe_op op_add (pe_ix ix_list (pv 2) pe_int (fun _ _ => rfl)) (pe_ix ix_list (pv 2) pe_int (fun _ _ => rfl))) pe_int (nomark _))
        (pss_cons (ps_set (i := 8) scs__law_asked.nd rfl (Or.inl rfl) (C8.pe_c c_law_complement hr (by decide) (by rfl) (pa_cons (C8.pe_c c_law_union hr (by decide) (by rfl) (pa_cons (pv 3) (pa_cons (pv 4) pa_nil))) pa_nil)))
        (pss_one (ps_if (PW.pt (pw_or (pt_not (pt_val (C8.pe_c c_law_is hr (by decide) (by rfl) (pa_cons (pe_un (un_own c_inv hr (by decide)) (pe_bin (E := fun _ => C8.E0) b_add (by decide +kernel) hr (by decide) (fun _ => passE0) (pv 5) (pv 6))) (pa_cons (pv 8) pa_nil))))) (pw_or1 (pt_not (pt_val (C8.pe_c c_law_is hr (by decide) (by rfl) (pa_cons (pe_bin (E := fun _ => C8.E0) b_mul (by decide +kernel) hr (by decide) (fun _ => passE0) (pe_un (un_own c_inv hr (by decide)) (pv 5)) (pe_un (un_own c_inv hr (by decide)) (pv 6))) (pa_cons (pv 8) pa_nil))))))))
          (pss_one (ps_ret pe_bl)) pss_nil))) pss_nil)
      (pss_one (ps_ret (pe_and (C8.pe_c c_law_is hr (by decide) (by rfl) (pa_cons (pv 5) (pa_cons (pv 3) pa_nil))) (pe_one (C8.pe_c c_law_is hr (by decide) (by rfl) (pa_cons (pv 6) (pa_cons (pv 4) pa_nil)))))))))))))))), ?_⟩
    refine ⟨_, rfl, a, sc.map V.int, rfl, .inl hS, fun l hl => ⟨(by show 4 ≤ sizeLine; decide), fun p hp => ?_⟩⟩
    have hlp : l ≠ p := fun z => by rw [← z, upd_same] at hp; cases hp
    have P0 : Pool p l (upd (upd H l (.lst (sc.map V.int))) p (.lst [.ref l, .int 0, .int 0, .int 0])) := ⟨0, 0, 0, sc, upd_same, hlp, by rw [upd_ne hlp]; exact upd_same, hlen⟩
    generalize upd (upd H l (.lst (sc.map V.int))) p (.lst [.ref l, .int 0, .int 0, .int 0]) = H1 at P0 ⊢
    refine ⟨_, rfl, p, l, rfl, P0, fun H2 L n m P2 k2 hLp hL h1 h3 h2 h4 => ?_⟩
    refine ⟨_, rfl, L, _, 0, _, rfl, rfl, SqL.of hL, rfl, _, rfl, _, rfl, L, _, 0, _, rfl, rfl, SqL.of hL, rfl, p, l, n, rfl, P2, h3, fun H3 e1 xs1 ps P3 k3 he1 hP1 hG1 hl1 => ⟨(by show 2 ≤ sizeLine; decide), fun t1 ht1 => ?_⟩⟩
    have s4 := same_new (o := .tup [.int (n : Int), .ref e1]) ht1
    have D1 : DueAt (upd H3 t1 (.tup [.int (n : Int), .ref e1])) (.ref t1) n ps := ⟨t1, e1, xs1, rfl, upd_same, s4 _ _ he1, hP1.kp (p := 0) (.of s4)⟩
    have P4 := P3.same s4
    have hL4 := s4 _ _ (k3.ls _ _ hLp hL)
    generalize upd H3 t1 (.tup [.int (n : Int), .ref e1]) = H4 at D1 P4 hL4 ⊢
    clear s4 P3 k3 he1 hP1 ht1 hL k2 P2 P0
    refine ⟨_, rfl, L, _, 1, _, rfl, rfl, SqL.of hL4, rfl, _, rfl, _, rfl, L, _, 1, _, rfl, rfl, SqL.of hL4, rfl, p, l, m, rfl, P4, h4, fun H5 e2 xs2 qs P5 k5 he2 hP2 hG2 hl2 => ⟨(by show 2 ≤ sizeLine; decide), fun t2 ht2 => ?_⟩⟩
    have s6 := same_new (o := .tup [.int (m : Int), .ref e2]) ht2
    have D2 : DueAt (upd H5 t2 (.tup [.int (m : Int), .ref e2])) (.ref t2) m qs := ⟨t2, e2, xs2, rfl, upd_same, s6 _ _ he2, hP2.kp (p := 0) (.of s6)⟩
    have D1' := (D1.kp k5).same s6
    have hL6 := s6 _ _ (k5.ls _ _ hLp hL4)
    generalize upd H5 t2 (.tup [.int (m : Int), .ref e2]) = H6 at D1' D2 hL6 ⊢
    clear s6 P5 k5 he2 hP2 ht2 hL4 P4 D1
    obtain ⟨_, f1, ys1, z1, a1, a2, a3⟩ := id D1'
    cases z1
    refine ⟨_, rfl, t1, _, 0, _, rfl, rfl, .of a1, rfl, _, rfl, t1, _, 1, _, rfl, rfl, .of a1, rfl, fun g1 dx1 x1 x2 x3 => mk_graph x1 x2 x3 (.inr a2) a3 hG1 h1 h3 fun H7 s7 hg1 => ⟨rfl, ?_⟩⟩
    have D1'' := D1'.same s7
    have D2' := D2.same s7
    have hL7 := s7 _ _ hL6
    clear a1 a2 a3 D1' D2 hL6 s7
    obtain ⟨_, f2, ys2, z2, b1, b2, b3⟩ := id D2'
    cases z2
    refine ⟨_, rfl, t2, _, 0, _, rfl, rfl, .of b1, rfl, _, rfl, t2, _, 1, _, rfl, rfl, .of b1, rfl, f2, _, rfl, .inr (.of b2), fun Lq hLq => ?_⟩
    have s8 := same_new (o := .lst ys2) hLq
    refine fun g2 dx2 x1 x2 x3 => mk_graph x1 x2 x3 (.inl upd_same) (b3.kp (p := 0) (.of s8)) hG2 h2 h4 fun H9 s9 hg2 => ⟨rfl, ?_⟩
    have s79 := s8.trans s9
    have W : S3 C t1 t2 g1 g2 L n m ps qs H9 := ⟨D1''.same s79, D2'.same s79, hg1.kp (p := 0) (.of s79), hg2, s79 _ _ hL7⟩
    clear s79 s8 s9 hg2 b1 b2 b3 D1'' D2' hg1 hL7 hLq
    refine ⟨(2 : Int), rfl, by decide, by decide, for_range (lo := 0) (n := 2) (fun i σ H' => S3 C t1 t2 g1 g2 L n m ps qs H' ∧ ∃ y7 y8, σ = [some (.ref a), some (.ref p), some (.ref L), some (.ref t1), some (.ref t2), some (.ref g1), some (.ref g2), y7, y8]) ⟨W, none, none, rfl⟩ ?_ ?_⟩
    · rintro i σ H10 hi ⟨W, y7, y8, rfl⟩
      refine ⟨_, rfl, un_at W.g1 h1 h3 fun H11 g11 s11 hg11 => ?_⟩
      refine ⟨_, rfl, .ref t1, n, ps, rfl, W.d1.same s11, hG1, h3, fun H12 u12 s12 d12 => ?_⟩
      refine ⟨g11, u12, n, _, rfl, hg11.kp (p := 0) (.of s12), d12, outL_good, _, rfl, iteF ?_⟩
      have W := W.same (s11.trans s12)
      refine ⟨_, rfl, un_at W.g1 h1 h3 fun H13 g13 s13 hg13 => un_at hg13 h1 h3 fun H14 g14 s14 hg14 => ?_⟩
      rw [out_out hG1] at hg14
      have W := W.same (s13.trans s14)
      refine ⟨_, rfl, g14, .ref t1, n, ps, rfl, hg14, W.d1, hG1, _, rfl, iteF ?_⟩
      refine ⟨_, rfl, un_at W.g2 h2 h4 fun H15 g15 s15 hg15 => ?_⟩
      refine ⟨_, rfl, .ref t2, m, qs, rfl, W.d2.same s15, hG2, h4, fun H16 u16 s16 d16 => ?_⟩
      refine ⟨g15, u16, m, _, rfl, hg15.kp (p := 0) (.of s16), d16, outL_good, _, rfl, iteF ?_⟩
      have W := W.same (s15.trans s16)
      refine ⟨_, rfl, _, rfl, _, rfl, _, rfl, g1, g2, .ref t1, .ref t2, n, m, ps, qs, rfl, W.g1, W.g2, W.d1, W.d2, hG1, hG2, h1, h2, h3, h4, fun H17 s17 => ⟨_, rfl, iteF ?_⟩⟩
      exact ⟨W.same s17, _, _, rfl⟩
    · rintro σ H10 ⟨W, y7, y8, rfl⟩
      refine ⟨_, rfl, _, rfl, _, rfl, _, rfl, g2, g1, .ref t2, .ref t1, m, n, qs, ps, rfl, W.g2, W.g1, W.d2, W.d1, hG2, hG1, h2, h1, h4, h3, fun H11 s11 => ⟨_, rfl, iteF ?_⟩⟩
      have W := W.same s11
      refine ⟨_, rfl, _, rfl, _, rfl, _, rfl, g1, g1, .ref t1, .ref t1, n, n, ps, ps, rfl, W.g1, W.g1, W.d1, W.d1, hG1, hG1, h1, h1, h3, h3, fun H12 s12 => ⟨_, rfl, iteF ?_⟩⟩
      have W := W.same s12
      refine ⟨fun σ' H' => S3 C t1 t2 g1 g2 L n m ps qs H' ∧ ∃ y7 y8, σ' = [some (.ref a), some (.ref p), some (.ref L), some (.ref t1), some (.ref t2), some (.ref g1), some (.ref g2), y7, y8], ?_, ?_⟩
      · refine ⟨_, rfl, L, _, 0, _, rfl, rfl, SqL.of W.L, rfl, _, rfl, L, _, 1, _, rfl, rfl, SqL.of W.L, rfl, _, _, rfl, rfl, _, _, rfl, rfl, _, rfl, ite2 (fun c => ?_) (fun c => ?_)⟩
        · have hs : n + m ≤ 24 := by have := of_decide_eq_true c; omega
          refine ⟨_, rfl, _, rfl, .ref t1, .ref t2, n, m, ps, qs, rfl, W.d1, W.d2, hG1, hG2, h3, h4, fun H13 u13 s13 d13 => ?_⟩
          refine ⟨u13, n + m, _, rfl, d13, addL_good hG1 hG2, hs, fun H14 u14 s14 d14 => ?_⟩
          have W := W.same (s13.trans s14)
          refine ⟨_, rfl, _, rfl, bin_at W.g1 W.g2 hG1 hG2 h1 h2 hs fun H15 g15 s15 hg15 => un_at hg15 (by omega) hs fun H16 g16 s16 hg16 => ?_⟩
          have d16 := d14.same (s15.trans s16)
          refine ⟨_, rfl, g16, u14, n + m, _, rfl, hg16, d16, outL_good, _, rfl, iteF ?_⟩
          have W := W.same (s15.trans s16)
          refine ⟨_, rfl, un_at W.g1 h1 h3 fun H17 g17 s17 hg17 => ⟨_, rfl, un_at (W.g2.kp (p := 0) (.of s17)) h2 h4 fun H18 g18 s18 hg18 => ?_⟩⟩
          refine bin_at (hg17.kp (p := 0) (.of s18)) hg18 outL_good outL_good h1 h2 hs fun H19 g19 s19 hg19 => ?_
          have ej := join_eq (ps := outL n ps) (qs := outL m qs) outL_good outL_good
          rw [out_out hG1, out_out hG2] at ej
          rw [← ej] at hg19
          have s169 := (s17.trans s18).trans s19
          refine ⟨_, rfl, g19, u14, n + m, _, rfl, hg19, d16.same s169, outL_good, _, rfl, iteF ?_⟩
          exact ⟨W.same s169, _, _, rfl⟩
        · exact ⟨W, _, _, rfl⟩
      · rintro σ' H13 ⟨W, y7, y8, rfl⟩
        refine ⟨_, rfl, _, rfl, g1, .ref t1, n, ps, rfl, W.g1, W.d1, hG1, _, rfl, iteT ?_⟩
        exact ⟨_, rfl, _, rfl, g2, .ref t2, m, qs, rfl, W.g2, W.d2, hG2, q H13⟩
end
end Ev
namespace EvH
open PySem PySem.Spec PyProof.Rows L2 He Ev
/-! ### facts of a class, as Bools -/
def oexB (K : PySem.W.Frag) (C : Addr) : Bool := (match K.lookup C with
    | some ⟨.type "type", _, .cls cd, sl⟩ => (match cd.mro, sl.toList with
      | .ref D :: bm, [_, _, _, _, some (.builtin n), _] => D == C && (n == "ValueError.__new__" && (!cd.hasDel && (cd.hasDict && PySem.HandSPX.refsVE bm)))
      | _, _ => false)
    | _ => false) && (eqO (PySem.W.findIn K (.ref C) "__setattr__") (some (some (.builtin "object.__setattr__"))) && (decide (PySem.W.subIn K (.ref C) (.type "BaseException") = some true) &&
    (decide (PySem.W.typeIn K (.ref C) = some (.type "type")) && PySem.W.keepIn K (.ref C))))
theorem oexB_ok {K : PySem.W.Frag} {C : Addr} (h : oexB K C = true) : OexC K C := by
  obtain ⟨h1, h⟩ := ba h
  obtain ⟨h2, h⟩ := ba h
  obtain ⟨h3, h⟩ := ba h
  obtain ⟨h4, h5⟩ := ba h
  refine ⟨?_, eqO_ok h2, of_decide_eq_true h3, of_decide_eq_true h4, h5⟩
  clear h h2 h3 h4 h5
  split at h1
  · rename_i dd cd sl ho
    split at h1
    · rename_i D bm k0 k1 k2 k3 n k5 hm hs
      obtain ⟨e1, h1⟩ := ba h1
      obtain ⟨e2, h1⟩ := ba h1
      obtain ⟨e3, h1⟩ := ba h1
      obtain ⟨e4, e5⟩ := ba h1
      obtain rfl : D = C := eq_of_beq e1
      obtain rfl : n = "ValueError.__new__" := eq_of_beq e2
      obtain ⟨nm, bs, mro, ns, qn, hd, sn, sub, ab, col, del⟩ := cd
      dsimp only at hm e3 e4
      subst hm e4
      have e3 : del = false := by cases del with
        | false => rfl
        | true => cases e3
      subst e3
      have hsl : sl = #[k0, k1, k2, k3, some (.builtin "ValueError.__new__"), k5] := by
        obtain ⟨l⟩ := sl
        simp only at hs
        rw [hs]
      subst hsl
      exact ⟨nm, qn, ns, bs, bm, sn, sub, ab, col, dd, k0, k1, k2, k3, k5, ho, e5⟩
    · cases h1
  · cases h1
def gets (K : PySem.W.Frag) (C : Addr) : Bool := eqO (PySem.W.findIn K (.ref C) "__class__") (some (some (.builtin "object.__class__"))) && (decide (PySem.W.specialIn K (.builtin "object.__class__") "__get__" = some (some (.builtin "getset_descriptor.__get__"))) &&
  (decide (PySem.W.takesIn K (.builtin "object.__class__") = some true) && decide (PySem.W.mroIn K C (.type "object") = some true)))
def oneB (K : PySem.W.Frag) (C : Addr) (f : Str) : Bool := oexB K C && (eqO (PySem.W.findIn K (.ref C) f) (some none) && (eqO (PySem.W.findIn K (.ref C) "__init__") (some (some (.ref (ma K C "__init__")))) &&
  (decide (PySem.W.typeIn K (.ref (ma K C "__init__")) = some (.type "function")) && (xfB K C && gets K C))))
theorem oneB_ok {K : PySem.W.Frag} {C : Addr} {f : Str} (h : oneB K C f = true) : OneF K C (ma K C "__init__") f := by
  obtain ⟨h1, h⟩ := ba h
  obtain ⟨h2, h⟩ := ba h
  obtain ⟨h3, h⟩ := ba h
  obtain ⟨h4, h⟩ := ba h
  obtain ⟨h5, h6⟩ := ba h
  have X := xfB_ok h5
  obtain ⟨g1, g⟩ := ba h6
  obtain ⟨g2, g⟩ := ba g
  obtain ⟨g3, g4⟩ := ba g
  exact ⟨oexB_ok h1, eqO_ok h2, eqO_ok h3, of_decide_eq_true h4, X, ⟨X.ga, X.gg, X.exC, X.hdC, eqO_ok g1, of_decide_eq_true g2, of_decide_eq_true g3, of_decide_eq_true g4⟩⟩
def tgs : List Tg := [.non, .bl, .int, .str, .lst, .tup]
def grB (K : PySem.W.Frag) (C : Addr) : Bool := PySem.W.plainGet K C Str.empty && (PySem.W.hasDictIn K C && (PySem.W.plainOver K C && (eqO (PySem.W.findIn K (.ref C) "__setattr__") (some (some (.builtin "object.__setattr__"))) && (gets K C &&
  ((tgs.drop 1).all (fun g => decide (PySem.W.kitOne K (.ref C) (.type g.s) = some false)) && (tgs.all (fun g => decide (PySem.W.kitOne K (.type g.s) (.ref C) = some false)) && decide (PySem.W.kitOne K (.ref C) (.ref C) = some true)))))))
theorem grB_ok {K : PySem.W.Frag} {C : Addr} (h : grB K C = true) : GrT K C := by
  obtain ⟨h1, h⟩ := ba h
  obtain ⟨h2, h⟩ := ba h
  obtain ⟨h3, h⟩ := ba h
  obtain ⟨h4, h⟩ := ba h
  obtain ⟨h5, h⟩ := ba h
  obtain ⟨h6, h⟩ := ba h
  obtain ⟨h7, h8⟩ := ba h
  obtain ⟨g1, g⟩ := ba h5
  obtain ⟨g2, g⟩ := ba g
  obtain ⟨g3, g4⟩ := ba g
  refine ⟨⟨h1, h2, h3, eqO_ok h4⟩, eqO_ok g1, of_decide_eq_true g2, of_decide_eq_true g3, of_decide_eq_true g4, fun g e1 e2 => ?_, fun g e => ?_, of_decide_eq_true h8⟩
  · refine of_decide_eq_true (List.all_eq_true.mp h6 g ?_)
    cases g <;> first | exact absurd rfl e1 | exact absurd rfl e2 | (simp [tgs])
  · refine of_decide_eq_true (List.all_eq_true.mp h7 g ?_)
    cases g <;> first | exact absurd rfl e | (simp [tgs])
def mkB (K : PySem.W.Frag) (C : Addr) : Bool := PySem.W.makesIn K C && (eqO (PySem.W.findIn K (.ref C) "__init__") (some (some (.ref (ma K C "__init__")))) && (PySem.W.isFn K (.ref (ma K C "__init__")) && PySem.W.keepIn K (.ref C)))
theorem mkB_ok {K : PySem.W.Frag} {C : Addr} (h : mkB K C = true) : Mk K C (ma K C "__init__") := by
  obtain ⟨h1, h⟩ := ba h
  obtain ⟨h2, h⟩ := ba h
  obtain ⟨h3, h4⟩ := ba h
  exact ⟨h1, eqO_ok h2, h3, h4⟩
def crB (K : PySem.W.Frag) (C : Addr) : Bool := PySem.W.readsIn K C (.type "type") && decide (PySem.W.specialIn K (.ref C) "__getattribute__" = some (some (.builtin "type.__getattribute__")))
theorem crB_ok {K : PySem.W.Frag} {C : Addr} (h : crB K C = true) : ClX.CRead K C (.type "type") := by
  obtain ⟨h1, h2⟩ := ba h
  exact ⟨h1, of_decide_eq_true h2⟩
def cmB (K : PySem.W.Frag) (C : Addr) (m : Str) : Bool := He5.wrapB K C "classmethod" "classmethod.__get__" m && PySem.W.fnIn K (He5.wf K C "classmethod" m)
theorem cmB_ok {K : PySem.W.Frag} {C : Addr} {m : Str} (h : cmB K C m = true) : ClX.CMet K C (.type "type") m (ma K C m) (He5.wf K C "classmethod" m) := by
  obtain ⟨h1, h2⟩ := ba h
  exact He5.cmet_of h1 h2
def exmB (K : PySem.W.Frag) (a b : Addr) (v : Bool) : Bool := decide (PySem.W.exmOne K (.ref a) (.ref b) = some v)
def kitB (K : PySem.W.Frag) (a b : Addr) (v : Bool) : Bool := decide (PySem.W.kitOne K (.ref a) (.ref b) = some v)
/-! ### the Hook: facts, any Bool, defs at any address -/
def obsEv (fa : List Fa) (ex : PySem.W.Frag → Bool) (fn : List He5.DefA) (K : PySem.W.Frag) : He.AlD := ((fa.all fun f => f.ok K) && (ex K && fn.all fun d => d.ok K), fn.map fun d => He5.fnA K (d.at_ K))
def valEv (fn : List He5.DefA) : He.AlD := (true, fn.map He5.DefA.val)
def SaysEv (fa : List Fa) (ex : PySem.W.Frag → Bool) (fn : List He5.DefA) (K : PySem.W.Frag) : Prop := obsEv fa ex fn K = valEv fn
def obsEvG (n : Nat) (fa : List Fa) (ex : PySem.W.Frag → Bool) (fn : List He5.DefA) (g : Addr → Option Obj) : He.AlD := obsEv fa ex fn (frG g (He5.asA g n))
def hookEv (n : Nat) (fa : List Fa) (ex : PySem.W.Frag → Bool) (fn : List He5.DefA) : PySem.W.Hook where
  α := He.AlD
  obs := fun s => obsEvG n fa ex fn s.heap.get?
  val := fun _ => valEv fn
  says := fun _ h => ∃ K : PySem.W.Frag, K.In h ∧ SaysEv fa ex fn K
  of := fun _ _ e => ⟨_, frG_in, e⟩
  keeps := fun _ _ _ ⟨K, hK, c⟩ k => ⟨K, PySem.W.Frag.In.keeps hK k, c⟩
theorem obsEvG_eq {n : Nat} {fa : List Fa} {ex : PySem.W.Frag → Bool} {fn : List He5.DefA} {g : Addr → Option Obj} {s : Shared} (h : ∀ a, g a = s.heap.get? a) : obsEvG n fa ex fn g = (hookEv n fa ex fn).obs s := by
  have e : g = s.heap.get? := funext h
  rw [e] <;> rfl
section
variable {fa : List Fa} {ex : PySem.W.Frag → Bool} {fn : List He5.DefA} {K : PySem.W.Frag}
theorem SaysEv.more (c : SaysEv fa ex fn K) : ex K = true := (ba (ba (show ((fa.all fun f => f.ok K) && (ex K && fn.all fun d => d.ok K)) = true from congrArg (fun z : He.AlD => z.1) c)).2).1
theorem SaysEv.fact (c : SaysEv fa ex fn K) (i : Nat) {f : Fa} (h : fa[i]? = some f := by rfl) : f.ok K = true := by
  have c1 := (ba (show ((fa.all fun f => f.ok K) && (ex K && fn.all fun d => d.ok K)) = true from congrArg (fun z : He.AlD => z.1) c)).1
  exact List.all_eq_true.mp c1 f (List.mem_of_getElem? h)
theorem SaysEv.def_ (c : SaysEv fa ex fn K) (i : Nat) {d : He5.DefA} (h : fn[i]? = some d := by rfl) : ∃ fd, L2.FunD K d.name d.qual d.params d.body d.scope (d.dvs K) (d.kws K) (d.at_ K) fd := by
  have c2 := (ba (ba (show ((fa.all fun f => f.ok K) && (ex K && fn.all fun d => d.ok K)) = true from congrArg (fun z : He.AlD => z.1) c)).2).2
  have e : fn.map (fun d => He5.fnA K (d.at_ K)) = fn.map He5.DefA.val := congrArg (fun z : He.AlD => z.2) c
  have e2 : (fn.map fun d => He5.fnA K (d.at_ K))[i]? = (fn.map He5.DefA.val)[i]? := by rw [e]
  rw [List.getElem?_map, List.getElem?_map, h] at e2
  exact He5.DefA.funD (Option.some.inj e2) (List.all_eq_true.mp c2 d (List.mem_of_getElem? h))
end
/-- a def of the module -/
def dG (x : Str) (st : Stmt) : He5.DefA := ⟨fun K => ga K x, x, x, defArgs st, defBody st, defScope st, [], []⟩
/-- a method of a class -/
def dM (c m qual : Str) (st : Stmt) : He5.DefA := ⟨fun K => ma K (ga K c) m, m, qual, defArgs st, defBody st, defScope st, [], []⟩
/-- a classmethod -/
def dC (c m qual : Str) (st : Stmt) : He5.DefA := ⟨fun K => He5.wf K (ga K c) "classmethod" m, m, qual, defArgs st, defBody st, defScope st, [], []⟩
theorem SaysEv.fun_ {fa : List Fa} {ex : PySem.W.Frag → Bool} {fn : List He5.DefA} {K : PySem.W.Frag} (c : SaysEv fa ex fn K) (i : Nat) {at_ : PySem.W.Frag → Addr} {x q : Str} {st : Stmt} (h : fn[i]? = some ⟨at_, x, q, defArgs st, defBody st, defScope st, [], []⟩ := by rfl) : ∃ fd, L2.Fun K x q st (at_ K) fd := by
  obtain ⟨fd, F⟩ := c.def_ i h
  exact ⟨fd, He5.fun_of F⟩
end EvH
namespace Ev
open PySem PySem.Spec PyProof.Rows L2
section
variable {P : Program} {w : World} {K : PySem.W.Frag} {mg : Str → Option Value} {base : Heap}
theorem ok_init_TooLarge {f : Addr} {fd : FuncData} (F : Fun K "__init__" "TooLarge.__init__" s_TooLarge___init__ f fd) : FnOk P w K mg base CX0 1 f fd ["self", "what"] (spOne K "what") := by
  refine F.ok scs_TooLarge___init__ (fun vs H Q E h => ?_) (fun cdv A outer s H vs Q E hr h => ?_)
  · obtain ⟨a, C, v, rfl, _⟩ := h
    rfl
  · obtain ⟨a, C, v, rfl, h1, T, hno, q⟩ := h
    exact ⟨_, pss_one (ps_ost (pv 0) (pv 1)), _, rfl, _, rfl, a, C, rfl, T, hno, .inl ⟨h1, fun dx n ne => q dx n ne⟩⟩
end
end Ev
namespace EvH
open PySem PySem.Spec PyProof.Rows L2 He Ev
def opB (K : PySem.W.Frag) (C : Addr) (m : Str) : Bool := eqO (PySem.W.findIn K (.ref C) m) (some (some (.ref (ma K C m)))) && PySem.W.isFn K (.ref (ma K C m))
theorem opB_ok {K : PySem.W.Frag} {C : Addr} {m : Str} (h : opB K C m = true) : PySem.W.findIn K (.ref C) m = some (some (.ref (ma K C m))) ∧ PySem.W.isFn K (.ref (ma K C m)) = true := by
  obtain ⟨h1, h2⟩ := ba h
  exact ⟨eqO_ok h1, h2⟩
def fn : List He5.DefA := [dG "is_integer" s_is_integer, dG "is_between" s_is_between, dG "is_sequence" s_is_sequence, dG "is_pair" s_is_pair, dG "is_ascending" s_is_ascending, dG "is_subset" s_is_subset, dG "vertex_pairs" s_vertex_pairs, dM "Graph" "__init__" "Graph.__init__" s_Graph___init__, dM "Graph" "__contains__" "Graph.__contains__" s_Graph___contains__, dM "Graph" "__invert__" "Graph.__invert__" s_Graph___invert__, dM "Graph" "__add__" "Graph.__add__" s_Graph___add__, dM "Graph" "__mul__" "Graph.__mul__" s_Graph___mul__, dG "common_size" s_common_size, dG "require_vertices" s_require_vertices, dG "moved_edges" s_moved_edges, dG "first_fault" s_first_fault, dG "first_wrong_edge" s_first_wrong_edge, dG "is_edge" s_is_edge, dG "neighbor_rows" s_neighbor_rows, dG "_law_mixed" s__law_mixed, dG "_law_draw" s__law_draw, dG "_law_edges" s__law_edges, dG "_law_sizes" s__law_sizes, dG "_law_complement" s__law_complement, dG "_law_union" s__law_union, dG "_law_join" s__law_join, dG "_law_is" s__law_is, dG "_law_sum" s__law_sum, dG "_law_sums_right" s__law_sums_right, dG "_law_asked" s__law_asked, dM "TooLarge" "__init__" "TooLarge.__init__" s_TooLarge___init__, dG "law" s_law]
def fa : List He.Fa := ([.glo "is_integer", .glo "is_between", .glo "is_sequence", .glo "is_pair", .glo "is_ascending", .glo "is_subset", .glo "vertex_pairs", .glo "common_size", .glo "require_vertices", .glo "moved_edges", .glo "first_fault", .glo "first_wrong_edge", .glo "is_edge", .glo "neighbor_rows", .glo "_law_mixed", .glo "_law_draw", .glo "_law_edges", .glo "_law_sizes", .glo "_law_complement", .glo "_law_union", .glo "_law_join", .glo "_law_is", .glo "_law_sum", .glo "_law_sums_right", .glo "_law_asked", .glo "law", .glo "Graph", .glo "TooLarge", .glo "GraphError", .free "isinstance"] : List He.Fa) ++ ([.free "int", .free "bool", .free "len", .free "list", .free "tuple", .free "str", .free "all", .free "zip", .free "range", .free "enumerate", .free "abs", .free "min", .free "sorted", .int "MOST_VERTICES" 24, .noat "Graph" "size", .noat "Graph" "edges", .noat "Graph" "_vertices", .noat "Graph" "_rows"] : List He.Fa)
def ex (K : PySem.W.Frag) : Bool := grB K (ga K "Graph") && (mkB K (ga K "Graph") && (oneB K (ga K "TooLarge") "what" && (exmB K (ga K "TooLarge") (ga K "GraphError") true && (kitB K (ga K "TooLarge") (ga K "TooLarge") true && (opB K (ga K "Graph") "__contains__" && (opB K (ga K "Graph") "__invert__" && (opB K (ga K "Graph") "__add__" && (opB K (ga K "Graph") "__mul__" && (PySem.W.selfFirst K (ga K "Graph"))))))))))
theorem facts {P : Program} {w : World} {K : PySem.W.Frag} {h : Heap} {mg : Str → Option Value} (X : K.In h) (G : h.Ns mainGlobals mg) (c : SaysEv fa ex fn K) :
    ∃ fd : FuncData, (∀ (s : Shared) (v : Value), BindsTo s fd ⟨[v], []⟩ [("script", v)]) ∧ ∀ base : Heap, K.In base → base.Ns mainGlobals mg → FnOk P w K mg base CX0 12 (ga K "law") fd ["script"] (spAsked K) := by
  obtain ⟨fd_is_integer, F_is_integer⟩ := c.fun_ 0 (at_ := fun K => ga K "is_integer") (x := "is_integer") (q := "is_integer") (st := s_is_integer) rfl
  have b_is_integer : Binds K fd_is_integer ["value"] [] := F_is_integer.binds fun _ _ _ _ _ _ us hl => match us, hl with | [_], _ => rfl
  obtain ⟨fd_is_between, F_is_between⟩ := c.fun_ 1 (at_ := fun K => ga K "is_between") (x := "is_between") (q := "is_between") (st := s_is_between) rfl
  have b_is_between : Binds K fd_is_between ["value", "least", "greatest"] [] := F_is_between.binds fun _ _ _ _ _ _ us hl => match us, hl with | [_, _, _], _ => rfl
  obtain ⟨fd_is_sequence, F_is_sequence⟩ := c.fun_ 2 (at_ := fun K => ga K "is_sequence") (x := "is_sequence") (q := "is_sequence") (st := s_is_sequence) rfl
  have b_is_sequence : Binds K fd_is_sequence ["value"] [] := F_is_sequence.binds fun _ _ _ _ _ _ us hl => match us, hl with | [_], _ => rfl
  obtain ⟨fd_is_pair, F_is_pair⟩ := c.fun_ 3 (at_ := fun K => ga K "is_pair") (x := "is_pair") (q := "is_pair") (st := s_is_pair) rfl
  have b_is_pair : Binds K fd_is_pair ["value"] [] := F_is_pair.binds fun _ _ _ _ _ _ us hl => match us, hl with | [_], _ => rfl
  obtain ⟨fd_is_ascending, F_is_ascending⟩ := c.fun_ 4 (at_ := fun K => ga K "is_ascending") (x := "is_ascending") (q := "is_ascending") (st := s_is_ascending) rfl
  have b_is_ascending : Binds K fd_is_ascending ["values"] [] := F_is_ascending.binds fun _ _ _ _ _ _ us hl => match us, hl with | [_], _ => rfl
  obtain ⟨fd_is_subset, F_is_subset⟩ := c.fun_ 5 (at_ := fun K => ga K "is_subset") (x := "is_subset") (q := "is_subset") (st := s_is_subset) rfl
  have b_is_subset : Binds K fd_is_subset ["value", "size"] [] := F_is_subset.binds fun _ _ _ _ _ _ us hl => match us, hl with | [_, _], _ => rfl
  obtain ⟨fd_vertex_pairs, F_vertex_pairs⟩ := c.fun_ 6 (at_ := fun K => ga K "vertex_pairs") (x := "vertex_pairs") (q := "vertex_pairs") (st := s_vertex_pairs) rfl
  have b_vertex_pairs : Binds K fd_vertex_pairs ["subset"] [] := F_vertex_pairs.binds fun _ _ _ _ _ _ us hl => match us, hl with | [_], _ => rfl
  obtain ⟨fd_Graph___init, F_Graph___init⟩ := c.fun_ 7 (at_ := fun K => ma K (ga K "Graph") "__init__") (x := "__init__") (q := "Graph.__init__") (st := s_Graph___init__) rfl
  have b_Graph___init : Binds K fd_Graph___init ["self", "size", "edges"] [] := F_Graph___init.binds fun _ _ _ _ _ _ us hl => match us, hl with | [_, _, _], _ => rfl
  obtain ⟨fd_Graph___contains, F_Graph___contains⟩ := c.fun_ 8 (at_ := fun K => ma K (ga K "Graph") "__contains__") (x := "__contains__") (q := "Graph.__contains__") (st := s_Graph___contains__) rfl
  have b_Graph___contains : Binds K fd_Graph___contains ["self", "value"] [] := F_Graph___contains.binds fun _ _ _ _ _ _ us hl => match us, hl with | [_, _], _ => rfl
  obtain ⟨fd_Graph___invert, F_Graph___invert⟩ := c.fun_ 9 (at_ := fun K => ma K (ga K "Graph") "__invert__") (x := "__invert__") (q := "Graph.__invert__") (st := s_Graph___invert__) rfl
  have b_Graph___invert : Binds K fd_Graph___invert ["self"] [] := F_Graph___invert.binds fun _ _ _ _ _ _ us hl => match us, hl with | [_], _ => rfl
  obtain ⟨fd_Graph___add, F_Graph___add⟩ := c.fun_ 10 (at_ := fun K => ma K (ga K "Graph") "__add__") (x := "__add__") (q := "Graph.__add__") (st := s_Graph___add__) rfl
  have b_Graph___add : Binds K fd_Graph___add ["self", "other"] [] := F_Graph___add.binds fun _ _ _ _ _ _ us hl => match us, hl with | [_, _], _ => rfl
  obtain ⟨fd_Graph___mul, F_Graph___mul⟩ := c.fun_ 11 (at_ := fun K => ma K (ga K "Graph") "__mul__") (x := "__mul__") (q := "Graph.__mul__") (st := s_Graph___mul__) rfl
  have b_Graph___mul : Binds K fd_Graph___mul ["self", "other"] [] := F_Graph___mul.binds fun _ _ _ _ _ _ us hl => match us, hl with | [_, _], _ => rfl
  obtain ⟨fd_common_size, F_common_size⟩ := c.fun_ 12 (at_ := fun K => ga K "common_size") (x := "common_size") (q := "common_size") (st := s_common_size) rfl
  have b_common_size : Binds K fd_common_size ["one", "other"] [] := F_common_size.binds fun _ _ _ _ _ _ us hl => match us, hl with | [_, _], _ => rfl
  obtain ⟨fd_require_vertices, F_require_vertices⟩ := c.fun_ 13 (at_ := fun K => ga K "require_vertices") (x := "require_vertices") (q := "require_vertices") (st := s_require_vertices) rfl
  have b_require_vertices : Binds K fd_require_vertices ["count", "most"] [] := F_require_vertices.binds fun _ _ _ _ _ _ us hl => match us, hl with | [_, _], _ => rfl
  obtain ⟨fd_moved_edges, F_moved_edges⟩ := c.fun_ 14 (at_ := fun K => ga K "moved_edges") (x := "moved_edges") (q := "moved_edges") (st := s_moved_edges) rfl
  have b_moved_edges : Binds K fd_moved_edges ["edges", "steps"] [] := F_moved_edges.binds fun _ _ _ _ _ _ us hl => match us, hl with | [_, _], _ => rfl
  obtain ⟨fd_first_fault, F_first_fault⟩ := c.fun_ 15 (at_ := fun K => ga K "first_fault") (x := "first_fault") (q := "first_fault") (st := s_first_fault) rfl
  have b_first_fault : Binds K fd_first_fault ["values", "are_right"] [] := F_first_fault.binds fun _ _ _ _ _ _ us hl => match us, hl with | [_, _], _ => rfl
  obtain ⟨fd_first_wrong_edge, F_first_wrong_edge⟩ := c.fun_ 16 (at_ := fun K => ga K "first_wrong_edge") (x := "first_wrong_edge") (q := "first_wrong_edge") (st := s_first_wrong_edge) rfl
  have b_first_wrong_edge : Binds K fd_first_wrong_edge ["size", "edges"] [] := F_first_wrong_edge.binds fun _ _ _ _ _ _ us hl => match us, hl with | [_, _], _ => rfl
  obtain ⟨fd_is_edge, F_is_edge⟩ := c.fun_ 17 (at_ := fun K => ga K "is_edge") (x := "is_edge") (q := "is_edge") (st := s_is_edge) rfl
  have b_is_edge : Binds K fd_is_edge ["value", "size"] [] := F_is_edge.binds fun _ _ _ _ _ _ us hl => match us, hl with | [_, _], _ => rfl
  obtain ⟨fd_neighbor_rows, F_neighbor_rows⟩ := c.fun_ 18 (at_ := fun K => ga K "neighbor_rows") (x := "neighbor_rows") (q := "neighbor_rows") (st := s_neighbor_rows) rfl
  have b_neighbor_rows : Binds K fd_neighbor_rows ["size", "edges"] [] := F_neighbor_rows.binds fun _ _ _ _ _ _ us hl => match us, hl with | [_, _], _ => rfl
  obtain ⟨fd_law_mixed, F_law_mixed⟩ := c.fun_ 19 (at_ := fun K => ga K "_law_mixed") (x := "_law_mixed") (q := "_law_mixed") (st := s__law_mixed) rfl
  have b_law_mixed : Binds K fd_law_mixed ["cell", "turn"] [] := F_law_mixed.binds fun _ _ _ _ _ _ us hl => match us, hl with | [_, _], _ => rfl
  obtain ⟨fd_law_draw, F_law_draw⟩ := c.fun_ 20 (at_ := fun K => ga K "_law_draw") (x := "_law_draw") (q := "_law_draw") (st := s__law_draw) rfl
  have b_law_draw : Binds K fd_law_draw ["pool", "limit"] [] := F_law_draw.binds fun _ _ _ _ _ _ us hl => match us, hl with | [_, _], _ => rfl
  obtain ⟨fd_law_edges, F_law_edges⟩ := c.fun_ 21 (at_ := fun K => ga K "_law_edges") (x := "_law_edges") (q := "_law_edges") (st := s__law_edges) rfl
  have b_law_edges : Binds K fd_law_edges ["pool", "size"] [] := F_law_edges.binds fun _ _ _ _ _ _ us hl => match us, hl with | [_, _], _ => rfl
  obtain ⟨fd_law_sizes, F_law_sizes⟩ := c.fun_ 22 (at_ := fun K => ga K "_law_sizes") (x := "_law_sizes") (q := "_law_sizes") (st := s__law_sizes) rfl
  have b_law_sizes : Binds K fd_law_sizes ["pool"] [] := F_law_sizes.binds fun _ _ _ _ _ _ us hl => match us, hl with | [_], _ => rfl
  obtain ⟨fd_law_complement, F_law_complement⟩ := c.fun_ 23 (at_ := fun K => ga K "_law_complement") (x := "_law_complement") (q := "_law_complement") (st := s__law_complement) rfl
  have b_law_complement : Binds K fd_law_complement ["pair"] [] := F_law_complement.binds fun _ _ _ _ _ _ us hl => match us, hl with | [_], _ => rfl
  obtain ⟨fd_law_union, F_law_union⟩ := c.fun_ 24 (at_ := fun K => ga K "_law_union") (x := "_law_union") (q := "_law_union") (st := s__law_union) rfl
  have b_law_union : Binds K fd_law_union ["one", "other"] [] := F_law_union.binds fun _ _ _ _ _ _ us hl => match us, hl with | [_, _], _ => rfl
  obtain ⟨fd_law_join, F_law_join⟩ := c.fun_ 25 (at_ := fun K => ga K "_law_join") (x := "_law_join") (q := "_law_join") (st := s__law_join) rfl
  have b_law_join : Binds K fd_law_join ["one", "other"] [] := F_law_join.binds fun _ _ _ _ _ _ us hl => match us, hl with | [_, _], _ => rfl
  obtain ⟨fd_law_is, F_law_is⟩ := c.fun_ 26 (at_ := fun K => ga K "_law_is") (x := "_law_is") (q := "_law_is") (st := s__law_is) rfl
  have b_law_is : Binds K fd_law_is ["graph", "due"] [] := F_law_is.binds fun _ _ _ _ _ _ us hl => match us, hl with | [_, _], _ => rfl
  obtain ⟨fd_law_sum, F_law_sum⟩ := c.fun_ 27 (at_ := fun K => ga K "_law_sum") (x := "_law_sum") (q := "_law_sum") (st := s__law_sum) rfl
  have b_law_sum : Binds K fd_law_sum ["one", "other", "joined"] [] := F_law_sum.binds fun _ _ _ _ _ _ us hl => match us, hl with | [_, _, _], _ => rfl
  obtain ⟨fd_law_sums_right, F_law_sums_right⟩ := c.fun_ 28 (at_ := fun K => ga K "_law_sums_right") (x := "_law_sums_right") (q := "_law_sums_right") (st := s__law_sums_right) rfl
  have b_law_sums_right : Binds K fd_law_sums_right ["first", "second", "one", "other"] [] := F_law_sums_right.binds fun _ _ _ _ _ _ us hl => match us, hl with | [_, _, _, _], _ => rfl
  obtain ⟨fd_law_asked, F_law_asked⟩ := c.fun_ 29 (at_ := fun K => ga K "_law_asked") (x := "_law_asked") (q := "_law_asked") (st := s__law_asked) rfl
  have b_law_asked : Binds K fd_law_asked ["script"] [] := F_law_asked.binds fun _ _ _ _ _ _ us hl => match us, hl with | [_], _ => rfl
  obtain ⟨fd_TooLarge___init, F_TooLarge___init⟩ := c.fun_ 30 (at_ := fun K => ma K (ga K "TooLarge") "__init__") (x := "__init__") (q := "TooLarge.__init__") (st := s_TooLarge___init__) rfl
  have b_TooLarge___init : Binds K fd_TooLarge___init ["self", "what"] [] := F_TooLarge___init.binds fun _ _ _ _ _ _ us hl => match us, hl with | [_, _], _ => rfl
  obtain ⟨fd_law, D_law⟩ : ∃ fd, FunD K "law" "law" (defArgs s_law) (defBody s_law) (defScope s_law) [] [] (ga K "law") fd := c.def_ 31 (d := dG "law" s_law) rfl
  have F_law := He5.fun_of D_law
  have g_is_integer : mg "is_integer" = some (.ref (ga K "is_integer")) := He.glo_ok X G (c.fact 0 (f := .glo "is_integer") rfl)
  have g_is_between : mg "is_between" = some (.ref (ga K "is_between")) := He.glo_ok X G (c.fact 1 (f := .glo "is_between") rfl)
  have g_is_sequence : mg "is_sequence" = some (.ref (ga K "is_sequence")) := He.glo_ok X G (c.fact 2 (f := .glo "is_sequence") rfl)
  have g_is_pair : mg "is_pair" = some (.ref (ga K "is_pair")) := He.glo_ok X G (c.fact 3 (f := .glo "is_pair") rfl)
  have g_is_ascending : mg "is_ascending" = some (.ref (ga K "is_ascending")) := He.glo_ok X G (c.fact 4 (f := .glo "is_ascending") rfl)
  have g_is_subset : mg "is_subset" = some (.ref (ga K "is_subset")) := He.glo_ok X G (c.fact 5 (f := .glo "is_subset") rfl)
  have g_vertex_pairs : mg "vertex_pairs" = some (.ref (ga K "vertex_pairs")) := He.glo_ok X G (c.fact 6 (f := .glo "vertex_pairs") rfl)
  have g_common_size : mg "common_size" = some (.ref (ga K "common_size")) := He.glo_ok X G (c.fact 7 (f := .glo "common_size") rfl)
  have g_require_vertices : mg "require_vertices" = some (.ref (ga K "require_vertices")) := He.glo_ok X G (c.fact 8 (f := .glo "require_vertices") rfl)
  have g_moved_edges : mg "moved_edges" = some (.ref (ga K "moved_edges")) := He.glo_ok X G (c.fact 9 (f := .glo "moved_edges") rfl)
  have g_first_fault : mg "first_fault" = some (.ref (ga K "first_fault")) := He.glo_ok X G (c.fact 10 (f := .glo "first_fault") rfl)
  have g_first_wrong_edge : mg "first_wrong_edge" = some (.ref (ga K "first_wrong_edge")) := He.glo_ok X G (c.fact 11 (f := .glo "first_wrong_edge") rfl)
  have g_is_edge : mg "is_edge" = some (.ref (ga K "is_edge")) := He.glo_ok X G (c.fact 12 (f := .glo "is_edge") rfl)
  have g_neighbor_rows : mg "neighbor_rows" = some (.ref (ga K "neighbor_rows")) := He.glo_ok X G (c.fact 13 (f := .glo "neighbor_rows") rfl)
  have g_law_mixed : mg "_law_mixed" = some (.ref (ga K "_law_mixed")) := He.glo_ok X G (c.fact 14 (f := .glo "_law_mixed") rfl)
  have g_law_draw : mg "_law_draw" = some (.ref (ga K "_law_draw")) := He.glo_ok X G (c.fact 15 (f := .glo "_law_draw") rfl)
  have g_law_edges : mg "_law_edges" = some (.ref (ga K "_law_edges")) := He.glo_ok X G (c.fact 16 (f := .glo "_law_edges") rfl)
  have g_law_sizes : mg "_law_sizes" = some (.ref (ga K "_law_sizes")) := He.glo_ok X G (c.fact 17 (f := .glo "_law_sizes") rfl)
  have g_law_complement : mg "_law_complement" = some (.ref (ga K "_law_complement")) := He.glo_ok X G (c.fact 18 (f := .glo "_law_complement") rfl)
  have g_law_union : mg "_law_union" = some (.ref (ga K "_law_union")) := He.glo_ok X G (c.fact 19 (f := .glo "_law_union") rfl)
  have g_law_join : mg "_law_join" = some (.ref (ga K "_law_join")) := He.glo_ok X G (c.fact 20 (f := .glo "_law_join") rfl)
  have g_law_is : mg "_law_is" = some (.ref (ga K "_law_is")) := He.glo_ok X G (c.fact 21 (f := .glo "_law_is") rfl)
  have g_law_sum : mg "_law_sum" = some (.ref (ga K "_law_sum")) := He.glo_ok X G (c.fact 22 (f := .glo "_law_sum") rfl)
  have g_law_sums_right : mg "_law_sums_right" = some (.ref (ga K "_law_sums_right")) := He.glo_ok X G (c.fact 23 (f := .glo "_law_sums_right") rfl)
  have g_law_asked : mg "_law_asked" = some (.ref (ga K "_law_asked")) := He.glo_ok X G (c.fact 24 (f := .glo "_law_asked") rfl)
  have g_law : mg "law" = some (.ref (ga K "law")) := He.glo_ok X G (c.fact 25 (f := .glo "law") rfl)
  have g_Graph : mg "Graph" = some (.ref (ga K "Graph")) := He.glo_ok X G (c.fact 26 (f := .glo "Graph") rfl)
  have g_TooLarge : mg "TooLarge" = some (.ref (ga K "TooLarge")) := He.glo_ok X G (c.fact 27 (f := .glo "TooLarge") rfl)
  have g_GraphError : mg "GraphError" = some (.ref (ga K "GraphError")) := He.glo_ok X G (c.fact 28 (f := .glo "GraphError") rfl)
  have B : B0 mg := ⟨He.free_ok X G (c.fact 29 (f := .free "isinstance") rfl), He.free_ok X G (c.fact 30 (f := .free "int") rfl), He.free_ok X G (c.fact 31 (f := .free "bool") rfl), He.free_ok X G (c.fact 32 (f := .free "len") rfl), He.free_ok X G (c.fact 33 (f := .free "list") rfl), He.free_ok X G (c.fact 34 (f := .free "tuple") rfl), He.free_ok X G (c.fact 35 (f := .free "str") rfl), He.free_ok X G (c.fact 36 (f := .free "all") rfl), He.free_ok X G (c.fact 37 (f := .free "zip") rfl), He.free_ok X G (c.fact 38 (f := .free "range") rfl), He.free_ok X G (c.fact 39 (f := .free "enumerate") rfl), He.free_ok X G (c.fact 40 (f := .free "abs") rfl), He.free_ok X G (c.fact 41 (f := .free "min") rfl)⟩
  have hSorted : mg "sorted" = none := He.free_ok X G (c.fact 42 (f := .free "sorted") rfl)
  obtain ⟨t_MOST_VERTICES, e_MOST_VERTICES⟩ := He.int_ok X G (c.fact 43 (f := .int "MOST_VERTICES" 24) rfl)
  have h_MOST_VERTICES : ∃ u, mg "MOST_VERTICES" = some u ∧ RelV (.int 24) u := ⟨_, e_MOST_VERTICES, t_MOST_VERTICES, rfl⟩
  have A : GrA K (ga K "Graph") := ⟨He.noat_ok (c.fact 44 (f := .noat "Graph" "size") rfl), He.noat_ok (c.fact 45 (f := .noat "Graph" "edges") rfl), He.noat_ok (c.fact 46 (f := .noat "Graph" "_vertices") rfl), He.noat_ok (c.fact 47 (f := .noat "Graph" "_rows") rfl)⟩
  have x_0 := c.more
  obtain ⟨y_0, x_1⟩ := He.ba x_0
  obtain ⟨y_1, x_2⟩ := He.ba x_1
  obtain ⟨y_2, x_3⟩ := He.ba x_2
  obtain ⟨y_3, x_4⟩ := He.ba x_3
  obtain ⟨y_4, x_5⟩ := He.ba x_4
  obtain ⟨y_5, x_6⟩ := He.ba x_5
  obtain ⟨y_6, x_7⟩ := He.ba x_6
  obtain ⟨y_7, x_8⟩ := He.ba x_7
  obtain ⟨y_8, x_9⟩ := He.ba x_8
  have GR := grB_ok y_0
  have MG := mkB_ok y_1
  have ON_TooLarge := oneB_ok y_2
  have xm_TooLarge := of_decide_eq_true y_3
  have kt_TooLarge := of_decide_eq_true y_4
  have op_contains := opB_ok y_5
  have op_invert := opB_ok y_6
  have op_add := opB_ok y_7
  have op_mul := opB_ok y_8
  have SF := x_9
  have hGr : ∃ u, mg "Graph" = some u ∧ RelV (.ref (ga K "Graph")) u := ⟨_, g_Graph, rfl⟩
  refine ⟨fd_law, fun s v => FunD.bindsA (ps := ["script"]) D_law (fun _ _ _ _ _ _ us hl => match us, hl with | [_], _ => rfl) s [v] rfl, fun base hK hN => ?_⟩
  have e_TooLarge : ErrT P w K mg base "TooLarge" "what" (ga K "TooLarge") := ⟨⟨_, _, ON_TooLarge, ok_init_TooLarge F_TooLarge___init, b_TooLarge___init⟩, g_TooLarge⟩
  have z_TooLarge : ErrC K mg (ga K "TooLarge") (ga K "GraphError") "TooLarge" "what" := ⟨⟨_, ON_TooLarge⟩, g_GraphError, g_TooLarge, xm_TooLarge, kt_TooLarge⟩
  have c_is_integer : Ca P w K mg base 1 "is_integer" (spInteger (ga K "Graph")) := ⟨⟨_, _, _, [], ok_is_integer (x := "is_integer") (st := s_is_integer) F_is_integer GR B, g_is_integer, F_is_integer.kp, b_is_integer, .nil⟩⟩
  have c_is_between : Ca P w K mg base 2 "is_between" (spBetween (ga K "Graph")) := ⟨⟨_, _, _, [], ok_is_between F_is_between c_is_integer, g_is_between, F_is_between.kp, b_is_between, .nil⟩⟩
  have c_is_sequence : Ca P w K mg base 1 "is_sequence" (spSequence (ga K "Graph")) := ⟨⟨_, _, _, [], ok_is_sequence F_is_sequence GR B, g_is_sequence, F_is_sequence.kp, b_is_sequence, .nil⟩⟩
  have c_is_pair : Ca P w K mg base 1 "is_pair" (spPair (ga K "Graph")) := ⟨⟨_, _, _, [], ok_is_pair F_is_pair GR B, g_is_pair, F_is_pair.kp, b_is_pair, .nil⟩⟩
  have c_is_ascending : Ca P w K mg base 1 "is_ascending" (spAscending) := ⟨⟨_, _, _, [], ok_is_ascending F_is_ascending B, g_is_ascending, F_is_ascending.kp, b_is_ascending, .nil⟩⟩
  have c_is_subset : Ca P w K mg base 3 "is_subset" (spSubset (ga K "Graph")) := ⟨⟨_, _, _, [], ok_is_subset F_is_subset GR B c_is_between c_is_ascending, g_is_subset, F_is_subset.kp, b_is_subset, .nil⟩⟩
  have c_is_edge : Ca P w K mg base 4 "is_edge" (spEdge (ga K "Graph")) := ⟨⟨_, _, _, [], ok_is_edge F_is_edge c_is_pair c_is_subset, g_is_edge, F_is_edge.kp, b_is_edge, .nil⟩⟩
  have c_first_fault : Ca P w K mg base 1 "first_fault" (spFF) := ⟨⟨_, _, _, [], ok_first_fault F_first_fault B, g_first_fault, F_first_fault.kp, b_first_fault, .nil⟩⟩
  have c_first_wrong_edge : Ca P w K mg base 5 "first_wrong_edge" (spFwe) := ⟨⟨_, _, _, [], ok_first_wrong_edge F_first_wrong_edge B c_is_sequence c_is_edge c_first_fault, g_first_wrong_edge, F_first_wrong_edge.kp, b_first_wrong_edge, .nil⟩⟩
  have c_neighbor_rows : Ca P w K mg base 1 "neighbor_rows" (spRows) := ⟨⟨_, _, _, [], ok_neighbor_rows F_neighbor_rows B, g_neighbor_rows, F_neighbor_rows.kp, b_neighbor_rows, .nil⟩⟩
  have c_law_mixed : Ca P w K mg base 1 "_law_mixed" (spMixed) := ⟨⟨_, _, _, [], ok_law_mixed F_law_mixed B, g_law_mixed, F_law_mixed.kp, b_law_mixed, .nil⟩⟩
  have c_law_draw : Ca P w K mg base 2 "_law_draw" (spDraw) := ⟨⟨_, _, _, [], ok_law_draw F_law_draw B c_law_mixed, g_law_draw, F_law_draw.kp, b_law_draw, .nil⟩⟩
  have IG := ok_init (P := P) (w := w) (base := base) F_Graph___init GR A B h_MOST_VERTICES c_is_between c_first_wrong_edge c_neighbor_rows
  have cG : C8.Mak P w K mg base 6 "Graph" (ga K "Graph") (spInit (ga K "Graph")) [] := ⟨⟨_, _, _, [], MG, IG, g_Graph, b_Graph___init, .nil⟩⟩
  have FH := ok_has (P := P) (w := w) (mg := mg) (base := base) F_Graph___contains GR A c_is_pair c_is_between c_is_integer
  have c_vertex_pairs : Ca P w K mg base 1 "vertex_pairs" (spPairs) := ⟨⟨_, _, _, [], ok_vertex_pairs F_vertex_pairs B, g_vertex_pairs, F_vertex_pairs.kp, b_vertex_pairs, .nil⟩⟩
  have c_moved_edges : Ca P w K mg base 1 "moved_edges" (spMoved) := ⟨⟨_, _, _, [], ok_moved F_moved_edges B, g_moved_edges, F_moved_edges.kp, b_moved_edges, .nil⟩⟩
  have f_c_require_vertices := ok_require_vertices (P := P) (w := w) (mg := mg) (base := base) F_require_vertices e_TooLarge
  have c_require_vertices : CaX P w K mg base 3 "require_vertices" (spReqV (ga K "TooLarge")) := ⟨⟨_, _, _, f_c_require_vertices, g_require_vertices, F_require_vertices.kp, b_require_vertices⟩⟩
  have f_c_common_size := ok_common_size (P := P) (w := w) (mg := mg) (base := base) F_common_size GR A h_MOST_VERTICES c_require_vertices
  have c_common_size : CaX P w K mg base 4 "common_size" (spCommon (ga K "Graph") (ga K "TooLarge")) := ⟨⟨_, _, _, f_c_common_size, g_common_size, F_common_size.kp, b_common_size⟩⟩
  have b_add : BinM P w K mg base (ga K "Graph") 8 "__add__" (spSum (ga K "Graph") (ga K "TooLarge") fun n _ ps qs => addL n ps qs) := ⟨⟨_, _, _, ok_plus (P := P) (w := w) (mg := mg) (base := base) F_Graph___add GR A c_common_size c_moved_edges cG, op_add.1, op_add.2, b_Graph___add⟩, SF⟩
  have b_mul : BinM P w K mg base (ga K "Graph") 8 "__mul__" (spSum (ga K "Graph") (ga K "TooLarge") joinL) := ⟨⟨_, _, _, ok_times (P := P) (w := w) (mg := mg) (base := base) F_Graph___mul B GR A hSorted c_common_size c_moved_edges cG, op_mul.1, op_mul.2, b_Graph___mul⟩, SF⟩
  have c_inv : InvM P w K mg base (ga K "Graph") 8 (spInv (ga K "Graph")) := ⟨⟨_, _, _, ok_inv (P := P) (w := w) (mg := mg) (base := base) F_Graph___invert GR A c_vertex_pairs cG FH op_contains.1 op_contains.2 b_Graph___contains, op_invert.1, op_invert.2, b_Graph___invert⟩⟩
  have c_law_sizes : Ca P w K mg base 3 "_law_sizes" (spSizes) := ⟨⟨_, _, _, [], ok_law_sizes F_law_sizes c_law_draw, g_law_sizes, F_law_sizes.kp, b_law_sizes, .nil⟩⟩
  have c_law_edges : Ca P w K mg base 3 "_law_edges" (spEdgesT) := ⟨⟨_, _, _, [], ok_law_edgesT F_law_edges B c_law_draw, g_law_edges, F_law_edges.kp, b_law_edges, .nil⟩⟩
  have c_law_complement : Ca P w K mg base 1 "_law_complement" (spCompl) := ⟨⟨_, _, _, [], ok_law_complement F_law_complement B, g_law_complement, F_law_complement.kp, b_law_complement, .nil⟩⟩
  have c_law_union : Ca P w K mg base 1 "_law_union" (spUnion) := ⟨⟨_, _, _, [], ok_law_union F_law_union B, g_law_union, F_law_union.kp, b_law_union, .nil⟩⟩
  have c_law_join : Ca P w K mg base 2 "_law_join" (spJoin) := ⟨⟨_, _, _, [], ok_law_join F_law_join c_law_complement c_law_union, g_law_join, F_law_join.kp, b_law_join, .nil⟩⟩
  have c_law_is : Ca P w K mg base 1 "_law_is" (spIs (ga K "Graph")) := ⟨⟨_, _, _, [], ok_law_is F_law_is B GR A hGr, g_law_is, F_law_is.kp, b_law_is, .nil⟩⟩
  have c_law_sum : Ca P w K mg base 9 "_law_sum" (spSumT (ga K "Graph")) := ⟨⟨_, _, _, [], ok_law_sum F_law_sum B z_TooLarge b_add b_mul, g_law_sum, F_law_sum.kp, b_law_sum, .nil⟩⟩
  have c_law_sums_right : Ca P w K mg base 10 "_law_sums_right" (spSumsR (ga K "Graph")) := ⟨⟨_, _, _, [], ok_law_sums_right F_law_sums_right B c_law_sum c_law_union c_law_join c_law_is, g_law_sums_right, F_law_sums_right.kp, b_law_sums_right, .nil⟩⟩
  have c_law_asked : Ca P w K mg base 11 "_law_asked" (spAsked K) := ⟨⟨_, _, _, [], ok_law_asked3 F_law_asked B c_law_sizes c_law_edges cG c_law_complement c_law_union c_law_is c_law_sums_right c_inv b_add b_mul, g_law_asked, F_law_asked.kp, b_law_asked, .nil⟩⟩
  exact ok_law F_law c_law_asked
end EvH
set_option maxHeartbeats 0
namespace EvH
open PySem PySem.Spec PyProof.Rows L2
def looseN : List PySem.Str := (["_wall", "GraphError", "InvalidGraph", "TooLarge", "is_integer", "is_between", "is_sequence", "is_pair", "is_ascending", "first_fault", "MOST_VERTICES", "require_vertices", "is_subset", "vertex_pairs", "Graph", "first_wrong_edge", "is_edge", "neighbor_rows", "common_size", "moved_edges", "_law_mixed", "_law_draw", "_law_edges", "_law_sizes", "_law_complement", "_law_union", "_law_join", "_law_is", "_law_sum", "_law_sums_right"] : List PySem.Str) ++ (["_law_asked"] : List PySem.Str)
abbrev R : PySem.W.OpenRow := PySem.W.OpenLaw.row PySem.Challenge.rw_everypart_k03_union_join_complement
abbrev hk : PySem.W.Hook := hookEv 5 fa ex fn
def ob (s : PySem.W.SharedT) : He.AlD := obsEvG 5 fa ex fn (HandSHeadRun.getT s)
theorem ob_eq (s : PySem.W.SharedT) : ob s = hk.obs s.abs := obsEvG_eq (HandSHeadRun.getT_eq s)
theorem run (w : World) : HandSHeadRun.RunEq R (PySem.W.view R.prog [37]) hk ob 6000 looseN w := by
  intro os
  kernel_rfl
end EvH
open PySem PySem.W PySem.Calls PyProof.Rows
theorem PySem.Challenge.cw_everypart_k03_union_join_complement_holds : PySem.Challenge.rw_everypart_k03_union_join_complement.Holds := by
  w_on; o_law
  refine HandSHeadRun.head_any (r := OpenLaw.row PySem.Challenge.rw_everypart_k03_union_join_complement) (q := view (OpenLaw.row PySem.Challenge.rw_everypart_k03_union_join_complement).prog [37]) (H := EvH.hk) (ob := EvH.ob) (M := 6000) (loose := EvH.looseN) (d := HandSHeadRun.topDef (OpenLaw.row PySem.Challenge.rw_everypart_k03_union_join_complement).prog 37) (kwd := []) EvH.ob_eq
    (by kernel_rfl) (fun s => by kernel_rfl) EvH.run (by kernel_rfl) (by kernel_rfl) (by kernel_rfl) (by rfl) (by first | assumption | decide +kernel) (by decide +kernel) ⟨rfl, rfl, rfl, rfl, rfl, by decide +kernel⟩ ?hw ?hc
  case hw => w_witness2
  case hc =>
    refine L2.walk_ofE (l := PySem.Challenge.rw_everypart_k03_union_join_complement) (n := 63) (k := 12) (x := "script") (CX := L2.CX0) rfl (by decide) (by kernel_rfl) ⟨rfl, by decide, by decide⟩ ?F (fun _ _ _ _ z => z)
    intro w mg fa h Y G hmg0
    obtain ⟨K, KX, c⟩ := Y
    have hmg : mg ("law" : PySem.Str) = some (.ref fa) := by
      have e : (HandSHeadRun.topDef (OpenLaw.row PySem.Challenge.rw_everypart_k03_union_join_complement).prog 37).name = ("law" : PySem.Str) := by kernel_rfl
      rw [← e]
      exact hmg0
    obtain ⟨fd, hb, hF⟩ := EvH.facts (P := (PySem.Challenge.rw_everypart_k03_union_join_complement).prog) (w := w) KX G c
    have e2 : fa = He.ga K "law" := by
      have z := hmg.symm.trans (He.glo_ok KX G (c.fact 25 (f := .glo "law") rfl))
      cases z
      rfl
    subst e2
    exact ⟨K, fd, Ev.spAsked K, KX, hb, fun H a ns hl _ hS => ⟨a, ns, rfl, hS, hl, fun _ => rfl⟩, hF⟩
