import PyProof.Rows.All
import Wide.All
import OpenK.AllK
import Wide.FinOn
import KE.KStateDown
import Lean
import KE.GoesMore
import KE.GoesEnum
import KE.KExcIs
import HandS.ForMost
import HandS.Exc
import HandS.TryOnly
import HandS.ExcOwn
import HandS.WordsExc
import HandS.IsInst
import HandS.ExcInit
import HandS.ExcField
import HandS.ExcIs
import HandS.ClsMeth
import HandS.CallSlots
import HandS.Codes
import HandS.Zip
import HandS.Walk
import HandS.TupLe
import HandS.TupAny
import HandS.Conv
import HandS.Wide
import HandS.Flow
import HandS.Text
import HandS.DictComp
import HandS.More
import HandS.HeadNt
import HandS.Head0
import HandS.Head1
import HandS.Head2
import HandS.HeadEnd
import PySem.Challenge.RW_everypart_k04_induced_graphs
set_option Elab.async false
set_option linter.all false
set_option maxRecDepth 100000
set_option maxHeartbeats 4000000
namespace Ev
open PySem PySem.Spec PyProof.Rows L2
/-! ### kinds of values -/
inductive Tg where | non | bl | int | str | lst | tup | gr
  deriving DecidableEq
def Tg.s : Tg → String
  | .non => "NoneType" | .bl => "bool" | .int => "int" | .str => "str" | .lst => "list" | .tup => "tuple" | .gr => ""
def Tg.v (C : Addr) : Tg → Value
  | .gr => .ref C
  | g => .type g.s
def tag (C : Addr) (H : Hp) : V → Option Tg
  | .non => some .non
  | .bl _ => some .bl
  | .int _ => some .int
  | .str _ => some .str
  | .ref a => match H a with
    | some (.lst _) => some .lst
    | some (.tup _) => some .tup
    | some (.ins D _ _) => if D = C then some .gr else none
    | _ => none
  | _ => none
/-- what the text says of the class Graph -/
structure GrT (K : PySem.W.Frag) (C : Addr) : Prop where
  cl : Cls K C
  ha : PySem.W.findIn K (.ref C) "__class__" = some (some (.builtin "object.__class__"))
  hn : PySem.W.specialIn K (.builtin "object.__class__") "__get__" = some (some (.builtin "getset_descriptor.__get__"))
  htk : PySem.W.takesIn K (.builtin "object.__class__") = some true
  hm : PySem.W.mroIn K C (.type "object") = some true
  kg : ∀ g : Tg, g ≠ .gr → g ≠ .non → PySem.W.kitOne K (.ref C) (.type g.s) = some false
  kb : ∀ g : Tg, g ≠ .gr → PySem.W.kitOne K (.type g.s) (.ref C) = some false
  kk : PySem.W.kitOne K (.ref C) (.ref C) = some true
section
variable {K : PySem.W.Frag} {C : Addr} {H H' : Hp} {v : V} {g : Tg}
theorem tag_ty (G : GrT K C) (h : tag C H v = some g) : TyX K H v (g.v C) := by
  cases v with
  | non => cases h; exact .base .non
  | bl b => cases h; exact .base (.bl b)
  | int i => cases h; exact .base (.int i)
  | str x => cases h; exact .base (.str x)
  | byt b => cases h
  | flt b => cases h
  | ty n => cases h
  | ref a =>
    unfold tag at h
    dsimp only at h
    split at h
    · rename_i xs e; cases h; exact .base (.lst e)
    · rename_i xs e; cases h; exact .base (.tup e)
    · rename_i D dx fs e
      split at h
      · rename_i eD; cases h; subst eD; exact .base (.ins e G.cl G.ha G.hn G.htk G.hm)
      · cases h
    · cases h
def Tg.is (g : Tg) (n : Tg) : Bool := decide (g = n) || (decide (g = .bl) && decide (n = .int))
theorem kit_tag (G : GrT K C) (g n : Tg) (hn : n ≠ .gr) (hn2 : n ≠ .non) : PySem.W.kitOne K (g.v C) (.type n.s) = some (g.is n) := by
  cases g <;> cases n <;> first | exact absurd rfl hn | exact absurd rfl hn2 | exact kit_ty (by decide +kernel) | exact G.kg _ (by intro z; cases z) (by intro z; cases z)
theorem kit_gr (G : GrT K C) (g : Tg) : PySem.W.kitOne K (g.v C) (.ref C) = some (decide (g = .gr)) := by
  cases g <;> first | exact G.kk | exact G.kb _ (by intro z; cases z)
theorem tag_same (s : Same H H') (h : tag C H v = some g) : tag C H' v = some g := by
  cases v with
  | ref a =>
    unfold tag at h ⊢
    dsimp only at h ⊢
    cases e : H a with
    | none => rw [e] at h; cases h
    | some o => rw [e] at h; rw [s _ _ e]; exact h
  | _ => exact h
end

structure B0 (mg : Str → Option Value) : Prop where
  isi : mg "isinstance" = none
  int : mg "int" = none
  bool : mg "bool" = none
  len : mg "len" = none
  list : mg "list" = none
  tuple : mg "tuple" = none
  str : mg "str" = none
  all : mg "all" = none
  zip : mg "zip" = none
  range : mg "range" = none
  enumerate : mg "enumerate" = none
  abs : mg "abs" = none
  min : mg "min" = none
/-! ### heaps: all but the lists is kept, and of the lists all but the one at p -/
structure KP (p : Addr) (H H' : Hp) : Prop where
  nl : ∀ b o, H b = some o → (∀ zs, o ≠ .lst zs) → H' b = some o
  ls : ∀ b zs, b ≠ p → H b = some (.lst zs) → H' b = some (.lst zs)
theorem KP.refl (p : Addr) (H : Hp) : KP p H H := ⟨fun _ _ h _ => h, fun _ _ _ h => h⟩
theorem KP.trans {p : Addr} {H H1 H2 : Hp} (a : KP p H H1) (b : KP p H1 H2) : KP p H H2 := ⟨fun c o h n => b.nl c o (a.nl c o h n) n, fun c zs n h => b.ls c zs n (a.ls c zs n h)⟩
theorem KP.of {p : Addr} {H H' : Hp} (s : Same H H') : KP p H H' := ⟨fun b o h _ => s b o h, fun b zs _ h => s b _ h⟩
theorem KP.tup {p : Addr} {H H' : Hp} (k : KP p H H') {b : Addr} {xs : List V} (h : H b = some (.tup xs)) : H' b = some (.tup xs) := k.nl b _ h (fun _ z => nomatch z)
theorem KP.ins {p : Addr} {H H' : Hp} (k : KP p H H') {b C d : Addr} {fs : List (Str × V)} (h : H b = some (.ins C d fs)) : H' b = some (.ins C d fs) := k.nl b _ h (fun _ z => nomatch z)
theorem KP.put {p : Addr} {H : Hp} {zs ws : List V} (h : H p = some (.lst zs)) : KP p H (upd H p (.lst ws)) := ⟨fun b o e n => by
    have hb : b ≠ p := fun z => by
      rw [z, h] at e
      exact n zs (Option.some.inj e).symm
    rw [upd_ne hb]; exact e, fun b zs n e => by rw [upd_ne n]; exact e⟩
theorem same_new {H : Hp} {p : Addr} {o : HO} (h : H p = none) : Same H (upd H p o) := fun b x e => by
  rw [upd_ne (ne_of_none e h)]
  exact e
theorem KP.new {p q : Addr} {H : Hp} {o : HO} (h : H q = none) : KP p H (upd H q o) := .of (same_new h)
/-! ### pairs of ints -/
def PrAt (H : Hp) (x : V) (q : Int × Int) : Prop := ∃ t, x = .ref t ∧ H t = some (.tup [.int q.1, .int q.2])
abbrev PrsAt (H : Hp) : List V → List (Int × Int) → Prop := Paired (PrAt H)
theorem PrAt.kp {p : Addr} {H H' : Hp} {x : V} {q : Int × Int} (k : KP p H H') (h : PrAt H x q) : PrAt H' x q := by
  obtain ⟨t, e, h⟩ := h
  exact ⟨t, e, k.tup h⟩
theorem PrsAt.kp {p : Addr} {H H' : Hp} (k : KP p H H') : ∀ {xs : List V} {ps : List (Int × Int)}, PrsAt H xs ps → PrsAt H' xs ps
  | _, _, .nil => .nil
  | _, _, .cons r t => .cons (r.kp k) (PrsAt.kp k t)
theorem paired_app {α β : Type} {R : α → β → Prop} : ∀ {xs ys : List α} {us ws : List β}, Paired R xs us → Paired R ys ws → Paired R (xs ++ ys) (us ++ ws)
  | _, _, _, _, .nil, s => s
  | _, _, _, _, .cons r t, s => .cons r (paired_app t s)
theorem paired_get {α β : Type} {R : α → β → Prop} : ∀ {xs : List α} {us : List β} {i : Nat} {x : α}, Paired R xs us → xs[i]? = some x → ∃ u, us[i]? = some u ∧ R x u
  | _, _, _, _, .nil, e => by simp at e
  | _, _, 0, _, .cons r _, e => by simp at e; subst e; exact ⟨_, rfl, r⟩
  | _, _, i + 1, x, .cons _ t, e => by
    obtain ⟨u, h1, h2⟩ := paired_get (i := i) (x := x) t (by simpa using e)
    exact ⟨u, by simpa using h1, h2⟩
theorem paired_getR {α β : Type} {R : α → β → Prop} : ∀ {xs : List α} {us : List β} {i : Nat} {u : β}, Paired R xs us → us[i]? = some u → ∃ x, xs[i]? = some x ∧ R x u
  | _, _, _, _, .nil, e => by simp at e
  | _, _, 0, _, .cons r _, e => by simp at e; subst e; exact ⟨_, rfl, r⟩
  | _, _, i + 1, x, .cons _ t, e => by
    obtain ⟨u, h1, h2⟩ := paired_getR (i := i) (u := x) t (by simpa using e)
    exact ⟨u, by simpa using h1, h2⟩
theorem paired_len {α β : Type} {R : α → β → Prop} : ∀ {xs : List α} {us : List β}, Paired R xs us → xs.length = us.length
  | _, _, .nil => rfl
  | _, _, .cons _ t => congrArg Nat.succ (paired_len t)
/-! ### graphs -/
/-- the vertices joined to i by these edges, in the order of the edges -/
def nbr (ps : List (Int × Int)) (i : Int) : List Int := ps.flatMap fun q => (if q.1 = i then [q.2] else []) ++ (if q.2 = i then [q.1] else [])
def RowsAt (H : Hp) (rs : List V) (n : Nat) (ps : List (Int × Int)) : Prop := rs.length = n ∧ ∀ (i : Nat) (x : V), rs[i]? = some x → ∃ t, x = .ref t ∧ H t = some (.tup ((nbr ps (i : Int)).map V.int))
def upto (n : Nat) : List Int := (List.range n).map fun (i : Nat) => (i : Int)
def grFs (n : Nat) (e vt r : Addr) : List (Str × V) := putF "_rows" (.ref r) (putF "_vertices" (.ref vt) (putF "edges" (.ref e) (putF "size" (.int n) [])))
structure GrAt (C : Addr) (H : Hp) (a : Addr) (n : Nat) (ps : List (Int × Int)) : Prop where
  ex : ∃ dx e vt r xs rs, H a = some (.ins C dx (grFs n e vt r)) ∧ H e = some (.tup xs) ∧ PrsAt H xs ps ∧ H vt = some (.tup ((upto n).map V.int)) ∧ H r = some (.tup rs) ∧ RowsAt H rs n ps
theorem GrAt.kp {p C : Addr} {H H' : Hp} {a : Addr} {n : Nat} {ps : List (Int × Int)} (k : KP p H H') (h : GrAt C H a n ps) : GrAt C H' a n ps := by
  obtain ⟨dx, e, vt, r, xs, rs, h1, h2, h3, h4, h5, h6, h7⟩ := h.ex
  refine ⟨dx, e, vt, r, xs, rs, k.ins h1, k.tup h2, h3.kp k, k.tup h4, k.tup h5, h6, fun i x hx => ?_⟩
  obtain ⟨t, e1, e2⟩ := h7 i x hx
  exact ⟨t, e1, k.tup e2⟩
theorem GrAt.tag {C : Addr} {H : Hp} {a : Addr} {n : Nat} {ps : List (Int × Int)} (h : GrAt C H a n ps) : tag C H (.ref a) = some .gr := by
  obtain ⟨dx, e, vt, r, xs, rs, h1, _⟩ := h.ex
  unfold Ev.tag
  dsimp only
  rw [h1]
  dsimp only
  rw [if_pos rfl]
/-! ### values of any kind, alike to a depth -/
def sc : V → Bool
  | .non | .bl _ | .int _ | .str _ => true
  | _ => false
/-- no int here has more than 110 bits -/
def bnd : V → Prop
  | .int i => -1298074214633706907132624082305024 < i ∧ i < 1298074214633706907132624082305024
  | _ => True
def Leaf (C : Addr) (H : Hp) (x y : V) : Prop := (x = y ∧ sc x = true ∧ bnd x) ∨ ∃ a n ps, x = .ref a ∧ y = .ref a ∧ GrAt C H a n ps
def Alk (C : Addr) (S : Addr → Prop) : Nat → Hp → V → V → Prop
  | 0, H, x, y => Leaf C H x y
  | n + 1, H, x, y => Leaf C H x y ∨ ∃ a b xs ys, x = .ref a ∧ y = .ref b ∧ ¬ S a ∧ ¬ S b ∧ ((H a = some (.lst xs) ∧ H b = some (.lst ys)) ∨ (H a = some (.tup xs) ∧ H b = some (.tup ys))) ∧
      xs.length = ys.length ∧ xs.length ≤ 1000 ∧ ∀ (i : Nat) (x y : V), xs[i]? = some x → ys[i]? = some y → Alk C S n H x y
theorem Leaf.kp {C p : Addr} {H H' : Hp} {x y : V} (k : KP p H H') (h : Leaf C H x y) : Leaf C H' x y := by
  rcases h with h | ⟨a, n, ps, e1, e2, g⟩
  · exact .inl h
  · exact .inr ⟨a, n, ps, e1, e2, g.kp k⟩
theorem Leaf.alk {C : Addr} {S : Addr → Prop} {H : Hp} {x y : V} : ∀ {n : Nat}, Leaf C H x y → Alk C S n H x y
  | 0, h => h
  | _ + 1, h => .inl h
theorem Alk.kp {C p : Addr} {S : Addr → Prop} {H H' : Hp} (hp : S p) (k : KP p H H') : ∀ {n : Nat} {x y : V}, Alk C S n H x y → Alk C S n H' x y
  | 0, _, _, h => Leaf.kp k h
  | n + 1, x, y, h => by
    rcases h with h | ⟨a, b, xs, ys, e1, e2, na, nb, ho, hl, hm, hc⟩
    · exact .inl (h.kp k)
    · refine .inr ⟨a, b, xs, ys, e1, e2, na, nb, ?_, hl, hm, fun i x y hx hy => Alk.kp hp k (hc i x y hx hy)⟩
      rcases ho with ⟨h1, h2⟩ | ⟨h1, h2⟩
      · exact .inl ⟨k.ls _ _ (fun z => na (z ▸ hp)) h1, k.ls _ _ (fun z => nb (z ▸ hp)) h2⟩
      · exact .inr ⟨k.tup h1, k.tup h2⟩
theorem Alk.same {C : Addr} {S : Addr → Prop} {H H' : Hp} (s : Same H H') : ∀ {n : Nat} {x y : V}, Alk C S n H x y → Alk C S n H' x y
  | 0, _, _, h => Leaf.kp (p := 0) (.of s) h
  | n + 1, x, y, h => by
    rcases h with h | ⟨a, b, xs, ys, e1, e2, na, nb, ho, hl, hm, hc⟩
    · exact .inl (h.kp (p := 0) (.of s))
    · refine .inr ⟨a, b, xs, ys, e1, e2, na, nb, ?_, hl, hm, fun i x y hx hy => Alk.same s (hc i x y hx hy)⟩
      rcases ho with ⟨h1, h2⟩ | ⟨h1, h2⟩
      · exact .inl ⟨s _ _ h1, s _ _ h2⟩
      · exact .inr ⟨s _ _ h1, s _ _ h2⟩
theorem Alk.more {C : Addr} {S T : Addr → Prop} {H : Hp} (hT : ∀ s, T s → S s ∨ H s = none) : ∀ {n : Nat} {x y : V}, Alk C S n H x y → Alk C T n H x y
  | 0, _, _, h => h
  | n + 1, x, y, h => by
    rcases h with h | ⟨a, b, xs, ys, e1, e2, na, nb, ho, hl, hm, hc⟩
    · exact .inl h
    · have f : ∀ {c : Addr} {o : HO}, ¬ S c → H c = some o → ¬ T c := fun {c o} n e t => by
        rcases hT c t with z | z
        · exact n z
        · rw [z] at e; cases e
      refine .inr ⟨a, b, xs, ys, e1, e2, ?_, ?_, ho, hl, hm, fun i x y hx hy => Alk.more hT (hc i x y hx hy)⟩
      · rcases ho with ⟨h1, _⟩ | ⟨h1, _⟩ <;> exact f na h1
      · rcases ho with ⟨_, h1⟩ | ⟨_, h1⟩ <;> exact f nb h1
theorem Alk.up {C : Addr} {S : Addr → Prop} {H : Hp} : ∀ {n : Nat} {x y : V}, Alk C S n H x y → Alk C S (n + 1) H x y
  | 0, _, _, h => .inl h
  | n + 1, x, y, h => by
    rcases h with h | ⟨a, b, xs, ys, e1, e2, na, nb, ho, hl, hm, hc⟩
    · exact .inl h
    · exact .inr ⟨a, b, xs, ys, e1, e2, na, nb, ho, hl, hm, fun i x y hx hy => Alk.up (hc i x y hx hy)⟩
theorem Leaf.tag {C : Addr} {H : Hp} {x y : V} (h : Leaf C H x y) : ∃ g, tag C H x = some g ∧ tag C H y = some g ∧ g ≠ .lst ∧ g ≠ .tup := by
  rcases h with ⟨e, h, _⟩ | ⟨a, n, ps, e1, e2, g⟩
  · subst e
    cases x with
    | non => exact ⟨.non, rfl, rfl, by decide, by decide⟩
    | bl b => exact ⟨.bl, rfl, rfl, by decide, by decide⟩
    | int b => exact ⟨.int, rfl, rfl, by decide, by decide⟩
    | str b => exact ⟨.str, rfl, rfl, by decide, by decide⟩
    | _ => cases h
  · subst e1 e2
    exact ⟨.gr, g.tag, g.tag, by decide, by decide⟩
theorem tag_lst {C : Addr} {H : Hp} {a : Addr} {xs : List V} (h : H a = some (.lst xs)) : tag C H (.ref a) = some .lst := by
  unfold tag; dsimp only; rw [h]
theorem tag_tup {C : Addr} {H : Hp} {a : Addr} {xs : List V} (h : H a = some (.tup xs)) : tag C H (.ref a) = some .tup := by
  unfold tag; dsimp only; rw [h]
theorem Alk.tag {C : Addr} {S : Addr → Prop} {H : Hp} {n : Nat} {x y : V} (h : Alk C S n H x y) : ∃ g, tag C H x = some g ∧ tag C H y = some g := by
  cases n with
  | zero => obtain ⟨g, h1, h2, _⟩ := Leaf.tag h; exact ⟨g, h1, h2⟩
  | succ n =>
    rcases h with h | ⟨a, b, xs, ys, e1, e2, na, nb, ho, hl, hm, hc⟩
    · obtain ⟨g, h1, h2, _⟩ := h.tag; exact ⟨g, h1, h2⟩
    · subst e1 e2
      rcases ho with ⟨h1, h2⟩ | ⟨h1, h2⟩
      · exact ⟨.lst, tag_lst h1, tag_lst h2⟩
      · exact ⟨.tup, tag_tup h1, tag_tup h2⟩
theorem Leaf.bnd {C : Addr} {H : Hp} {x y : V} (h : Leaf C H x y) : bnd x := by
  rcases h with ⟨_, _, h⟩ | ⟨a, n, ps, e1, e2, g⟩
  · exact h
  · subst e1; exact True.intro
theorem Alk.bnd {C : Addr} {S : Addr → Prop} {H : Hp} {n : Nat} {x y : V} (h : Alk C S n H x y) : bnd x := by
  cases n with
  | zero => exact Leaf.bnd h
  | succ n =>
    rcases h with h | ⟨a, b, xs, ys, e1, e2, _⟩
    · exact h.bnd
    · subst e1; exact True.intro
theorem tag_int {C : Addr} {H : Hp} {x : V} (h : tag C H x = some .int) : ∃ i, x = .int i := by
  cases x with
  | int i => exact ⟨i, rfl⟩
  | ref a =>
    unfold tag at h
    dsimp only at h
    split at h <;> first | cases h | (split at h <;> cases h)
  | _ => cases h
/-! ### the pool of draws -/
def Pool (p l : Addr) (H : Hp) : Prop := ∃ (i : Nat) (j t : Int) (ns : List Int), H p = some (.lst [.ref l, .int i, .int j, .int t]) ∧ l ≠ p ∧ H l = some (.lst (ns.map V.int)) ∧ ns.length ≤ 63
theorem Pool.same {p l : Addr} {H H' : Hp} (s : Same H H') (h : Pool p l H) : Pool p l H' := by
  obtain ⟨i, j, t, ns, h1, h2, h3, h4⟩ := h
  exact ⟨i, j, t, ns, s _ _ h1, h2, s _ _ h3, h4⟩
theorem Pool.put {p l D : Addr} {H : Hp} {o : HO} (h : Pool p l H) (n1 : p ≠ D) (n2 : l ≠ D) : Pool p l (upd H D o) := by
  obtain ⟨i, j, t, ns, h1, h2, h3, h4⟩ := h
  exact ⟨i, j, t, ns, by rw [upd_ne n1]; exact h1, h2, by rw [upd_ne n2]; exact h3, h4⟩
theorem Pool.at_ {p l : Addr} {H : Hp} (h : Pool p l H) : ∃ o, H p = some o := by
  obtain ⟨i, j, t, ns, h1, _⟩ := h
  exact ⟨_, h1⟩
theorem Pool.atl {p l : Addr} {H : Hp} (h : Pool p l H) : ∃ o, H l = some o := by
  obtain ⟨i, j, t, ns, _, _, h1, _⟩ := h
  exact ⟨_, h1⟩
end Ev
namespace Ev
open PySem PySem.Spec PyProof.Rows L2
def top (i : Nat) : Stmt := PySem.Challenge.pw_everypart_k04_induced_graphs.main.body.getD i (.Pass ⟨0, 0, 0, 0⟩)
abbrev s_InvalidGraph___init__ : Stmt := inClass (top 3) 0
abbrev Ns_InvalidGraph___init__ : List Str := ["self", "part", "place"]
theorem scs_InvalidGraph___init__ : FnScope Ns_InvalidGraph___init__ ["self", "part", "place"] (defScope s_InvalidGraph___init__) := ⟨rfl, rfl, rfl, by decide +kernel, rfl, by decide +kernel, by decide +kernel⟩
abbrev s_InvalidSubset___init__ : Stmt := inClass (top 4) 0
abbrev Ns_InvalidSubset___init__ : List Str := ["self", "value"]
theorem scs_InvalidSubset___init__ : FnScope Ns_InvalidSubset___init__ ["self", "value"] (defScope s_InvalidSubset___init__) := ⟨rfl, rfl, rfl, by decide +kernel, rfl, by decide +kernel, by decide +kernel⟩
abbrev s_TooLarge___init__ : Stmt := inClass (top 5) 0
abbrev Ns_TooLarge___init__ : List Str := ["self", "what"]
theorem scs_TooLarge___init__ : FnScope Ns_TooLarge___init__ ["self", "what"] (defScope s_TooLarge___init__) := ⟨rfl, rfl, rfl, by decide +kernel, rfl, by decide +kernel, by decide +kernel⟩
abbrev s_is_integer : Stmt := top 7
abbrev Ns_is_integer : List Str := ["value"]
theorem scs_is_integer : FnScope Ns_is_integer ["value"] (defScope s_is_integer) := ⟨rfl, rfl, rfl, by decide +kernel, rfl, by decide +kernel, by decide +kernel⟩
abbrev s_is_between : Stmt := top 8
abbrev Ns_is_between : List Str := ["value", "least", "greatest"]
theorem scs_is_between : FnScope Ns_is_between ["value", "least", "greatest"] (defScope s_is_between) := ⟨rfl, rfl, rfl, by decide +kernel, rfl, by decide +kernel, by decide +kernel⟩
abbrev s_is_sequence : Stmt := top 9
abbrev Ns_is_sequence : List Str := ["value"]
theorem scs_is_sequence : FnScope Ns_is_sequence ["value"] (defScope s_is_sequence) := ⟨rfl, rfl, rfl, by decide +kernel, rfl, by decide +kernel, by decide +kernel⟩
abbrev s_is_pair : Stmt := top 10
abbrev Ns_is_pair : List Str := ["value"]
theorem scs_is_pair : FnScope Ns_is_pair ["value"] (defScope s_is_pair) := ⟨rfl, rfl, rfl, by decide +kernel, rfl, by decide +kernel, by decide +kernel⟩
abbrev s_is_ascending : Stmt := top 11
abbrev Ns_is_ascending : List Str := ["values", "before", "behind"]
theorem scs_is_ascending : FnScope Ns_is_ascending ["values"] (defScope s_is_ascending) := ⟨rfl, rfl, rfl, by decide +kernel, rfl, by decide +kernel, by decide +kernel⟩
abbrev s_first_fault : Stmt := top 12
abbrev Ns_first_fault : List Str := ["values", "are_right", "place", "value"]
theorem scs_first_fault : FnScope Ns_first_fault ["values", "are_right"] (defScope s_first_fault) := ⟨rfl, rfl, rfl, by decide +kernel, rfl, by decide +kernel, by decide +kernel⟩
abbrev s_require_vertices : Stmt := top 15
abbrev Ns_require_vertices : List Str := ["count", "most"]
theorem scs_require_vertices : FnScope Ns_require_vertices ["count", "most"] (defScope s_require_vertices) := ⟨rfl, rfl, rfl, by decide +kernel, rfl, by decide +kernel, by decide +kernel⟩
abbrev s_is_subset : Stmt := top 17
abbrev Ns_is_subset : List Str := ["value", "size", "vertex"]
theorem scs_is_subset : FnScope Ns_is_subset ["value", "size"] (defScope s_is_subset) := ⟨rfl, rfl, rfl, by decide +kernel, rfl, by decide +kernel, by decide +kernel⟩
abbrev s_vertex_pairs : Stmt := top 18
abbrev Ns_vertex_pairs : List Str := ["subset", "place", "one", "other"]
theorem scs_vertex_pairs : FnScope Ns_vertex_pairs ["subset"] (defScope s_vertex_pairs) := ⟨rfl, rfl, rfl, by decide +kernel, rfl, by decide +kernel, by decide +kernel⟩
abbrev s_Graph___init__ : Stmt := inClass (top 20) 0
abbrev Ns_Graph___init__ : List Str := ["self", "size", "edges", "place"]
theorem scs_Graph___init__ : FnScope Ns_Graph___init__ ["self", "size", "edges"] (defScope s_Graph___init__) := ⟨rfl, rfl, rfl, by decide +kernel, rfl, by decide +kernel, by decide +kernel⟩
abbrev s_Graph___len__ : Stmt := inClass (top 20) 1
abbrev Ns_Graph___len__ : List Str := ["self"]
theorem scs_Graph___len__ : FnScope Ns_Graph___len__ ["self"] (defScope s_Graph___len__) := ⟨rfl, rfl, rfl, by decide +kernel, rfl, by decide +kernel, by decide +kernel⟩
abbrev s_Graph___iter__ : Stmt := inClass (top 20) 2
abbrev Ns_Graph___iter__ : List Str := ["self"]
theorem scs_Graph___iter__ : FnScope Ns_Graph___iter__ ["self"] (defScope s_Graph___iter__) := ⟨rfl, rfl, rfl, by decide +kernel, rfl, by decide +kernel, by decide +kernel⟩
abbrev s_Graph___contains__ : Stmt := inClass (top 20) 3
abbrev Ns_Graph___contains__ : List Str := ["self", "value", "one", "other"]
theorem scs_Graph___contains__ : FnScope Ns_Graph___contains__ ["self", "value"] (defScope s_Graph___contains__) := ⟨rfl, rfl, rfl, by decide +kernel, rfl, by decide +kernel, by decide +kernel⟩
abbrev s_Graph___eq__ : Stmt := inClass (top 20) 4
abbrev Ns_Graph___eq__ : List Str := ["self", "other"]
theorem scs_Graph___eq__ : FnScope Ns_Graph___eq__ ["self", "other"] (defScope s_Graph___eq__) := ⟨rfl, rfl, rfl, by decide +kernel, rfl, by decide +kernel, by decide +kernel⟩
abbrev s_Graph___invert__ : Stmt := inClass (top 20) 5
abbrev Ns_Graph___invert__ : List Str := ["self", "pair"]
theorem scs_Graph___invert__ : FnScope Ns_Graph___invert__ ["self"] (defScope s_Graph___invert__) := ⟨rfl, rfl, rfl, by decide +kernel, rfl, by decide +kernel, by decide +kernel⟩
abbrev s_Graph___add__ : Stmt := inClass (top 20) 6
abbrev Ns_Graph___add__ : List Str := ["self", "other", "size"]
theorem scs_Graph___add__ : FnScope Ns_Graph___add__ ["self", "other"] (defScope s_Graph___add__) := ⟨rfl, rfl, rfl, by decide +kernel, rfl, by decide +kernel, by decide +kernel⟩
abbrev s_Graph___mul__ : Stmt := inClass (top 20) 7
abbrev Ns_Graph___mul__ : List Str := ["self", "other", "size", "between", "one", "two"]
theorem scs_Graph___mul__ : FnScope Ns_Graph___mul__ ["self", "other"] (defScope s_Graph___mul__) := ⟨rfl, rfl, rfl, by decide +kernel, rfl, by decide +kernel, by decide +kernel⟩
abbrev s_Graph_induced : Stmt := inClass (top 20) 10
abbrev Ns_Graph_induced : List Str := ["self", "subset", "places", "place", "vertex", "kept", "one", "other"]
theorem scs_Graph_induced : FnScope Ns_Graph_induced ["self", "subset"] (defScope s_Graph_induced) := ⟨rfl, rfl, rfl, by decide +kernel, rfl, by decide +kernel, by decide +kernel⟩
abbrev s_first_wrong_edge : Stmt := top 21
abbrev Ns_first_wrong_edge : List Str := ["size", "edges", "edge"]
theorem scs_first_wrong_edge : FnScope Ns_first_wrong_edge ["size", "edges"] (defScope s_first_wrong_edge) := ⟨rfl, rfl, rfl, by decide +kernel, rfl, by decide +kernel, by decide +kernel⟩
abbrev s_is_edge : Stmt := top 22
abbrev Ns_is_edge : List Str := ["value", "size"]
theorem scs_is_edge : FnScope Ns_is_edge ["value", "size"] (defScope s_is_edge) := ⟨rfl, rfl, rfl, by decide +kernel, rfl, by decide +kernel, by decide +kernel⟩
abbrev s_neighbor_rows : Stmt := top 23
abbrev Ns_neighbor_rows : List Str := ["size", "edges", "rows", "one", "other", "_", "row"]
theorem scs_neighbor_rows : FnScope Ns_neighbor_rows ["size", "edges"] (defScope s_neighbor_rows) := ⟨rfl, rfl, rfl, by decide +kernel, rfl, by decide +kernel, by decide +kernel⟩
abbrev s_common_size : Stmt := top 24
abbrev Ns_common_size : List Str := ["one", "other", "size"]
theorem scs_common_size : FnScope Ns_common_size ["one", "other"] (defScope s_common_size) := ⟨rfl, rfl, rfl, by decide +kernel, rfl, by decide +kernel, by decide +kernel⟩
abbrev s_moved_edges : Stmt := top 25
abbrev Ns_moved_edges : List Str := ["edges", "steps", "one", "other"]
theorem scs_moved_edges : FnScope Ns_moved_edges ["edges", "steps"] (defScope s_moved_edges) := ⟨rfl, rfl, rfl, by decide +kernel, rfl, by decide +kernel, by decide +kernel⟩
abbrev s__law_mixed : Stmt := top 27
abbrev Ns__law_mixed : List Str := ["cell", "turn", "first"]
theorem scs__law_mixed : FnScope Ns__law_mixed ["cell", "turn"] (defScope s__law_mixed) := ⟨rfl, rfl, rfl, by decide +kernel, rfl, by decide +kernel, by decide +kernel⟩
abbrev s__law_draw : Stmt := top 28
abbrev Ns__law_draw : List Str := ["pool", "limit", "cell", "digit"]
theorem scs__law_draw : FnScope Ns__law_draw ["pool", "limit"] (defScope s__law_draw) := ⟨rfl, rfl, rfl, by decide +kernel, rfl, by decide +kernel, by decide +kernel⟩
abbrev s__law_thing : Stmt := top 29
abbrev Ns__law_thing : List Str := ["pool", "deep", "kind", "row", "k"]
theorem scs__law_thing : FnScope Ns__law_thing ["pool", "deep"] (defScope s__law_thing) := ⟨rfl, rfl, rfl, by decide +kernel, rfl, by decide +kernel, by decide +kernel⟩
abbrev s__law_copy : Stmt := top 30
abbrev Ns__law_copy : List Str := ["value", "part"]
theorem scs__law_copy : FnScope Ns__law_copy ["value"] (defScope s__law_copy) := ⟨rfl, rfl, rfl, by decide +kernel, rfl, by decide +kernel, by decide +kernel⟩
abbrev s__law_alike : Stmt := top 31
abbrev Ns__law_alike : List Str := ["found", "due", "k"]
theorem scs__law_alike : FnScope Ns__law_alike ["found", "due"] (defScope s__law_alike) := ⟨rfl, rfl, rfl, by decide +kernel, rfl, by decide +kernel, by decide +kernel⟩
abbrev s__law_whole : Stmt := top 32
abbrev Ns__law_whole : List Str := ["value"]
theorem scs__law_whole : FnScope Ns__law_whole ["value"] (defScope s__law_whole) := ⟨rfl, rfl, rfl, by decide +kernel, rfl, by decide +kernel, by decide +kernel⟩
abbrev s__law_edges : Stmt := top 33
abbrev Ns__law_edges : List Str := ["pool", "size", "dense", "found", "a", "b"]
theorem scs__law_edges : FnScope Ns__law_edges ["pool", "size"] (defScope s__law_edges) := ⟨rfl, rfl, rfl, by decide +kernel, rfl, by decide +kernel, by decide +kernel⟩
abbrev s__law_subset : Stmt := top 34
abbrev Ns__law_subset : List Str := ["pool", "size", "dense", "kept", "v"]
theorem scs__law_subset : FnScope Ns__law_subset ["pool", "size"] (defScope s__law_subset) := ⟨rfl, rfl, rfl, by decide +kernel, rfl, by decide +kernel, by decide +kernel⟩
abbrev s__law_spoilt : Stmt := top 35
abbrev Ns__law_spoilt : List Str := ["pool", "subset", "size", "row", "at", "kind", "other"]
theorem scs__law_spoilt : FnScope Ns__law_spoilt ["pool", "subset", "size"] (defScope s__law_spoilt) := ⟨rfl, rfl, rfl, by decide +kernel, rfl, by decide +kernel, by decide +kernel⟩
abbrev s__law_is_subset : Stmt := top 36
abbrev Ns__law_is_subset : List Str := ["value", "size", "k"]
theorem scs__law_is_subset : FnScope Ns__law_is_subset ["value", "size"] (defScope s__law_is_subset) := ⟨rfl, rfl, rfl, by decide +kernel, rfl, by decide +kernel, by decide +kernel⟩
abbrev s__law_due : Stmt := top 37
abbrev Ns__law_due : List Str := ["size", "edges", "value", "near", "edge", "found", "a", "b"]
theorem scs__law_due : FnScope Ns__law_due ["size", "edges", "value"] (defScope s__law_due) := ⟨rfl, rfl, rfl, by decide +kernel, rfl, by decide +kernel, by decide +kernel⟩
abbrev s__law_induced : Stmt := top 38
abbrev Ns__law_induced : List Str := ["graph", "value", "named", "e"]
theorem scs__law_induced : FnScope Ns__law_induced ["graph", "value", "named"] (defScope s__law_induced) := ⟨rfl, rfl, rfl, by decide +kernel, rfl, by decide +kernel, by decide +kernel⟩
abbrev s__law_right : Stmt := top 39
abbrev Ns__law_right : List Str := ["graph", "size", "edges", "value", "named", "due", "copy", "told"]
theorem scs__law_right : FnScope Ns__law_right ["graph", "size", "edges", "value", "named"] (defScope s__law_right) := ⟨rfl, rfl, rfl, by decide +kernel, rfl, by decide +kernel, by decide +kernel⟩
abbrev s__law_asked : Stmt := top 40
abbrev Ns__law_asked : List Str := ["script", "pool", "size", "edges", "graph", "good", "named", "k", "other", "v"]
theorem scs__law_asked : FnScope Ns__law_asked ["script"] (defScope s__law_asked) := ⟨rfl, rfl, rfl, by decide +kernel, rfl, by decide +kernel, by decide +kernel⟩
abbrev s_law : Stmt := top 41
abbrev Ns_law : List Str := ["script"]
theorem scs_law : FnScope Ns_law ["script"] (defScope s_law) := ⟨rfl, rfl, rfl, by decide +kernel, rfl, by decide +kernel, by decide +kernel⟩
end Ev
namespace Ev
open PySem PySem.Spec PyProof.Rows L2
abbrev Ca (P : Program) (w : World) (K : PySem.W.Frag) (mg : Str → Option Value) (base : Heap) (k : Nat) (x : Str) (sp : Sp) : Prop := C8.Cal P w K mg base k x sp []
/-! ### the kinds -/
def spInteger (C : Addr) : Sp := fun vs H Q _ => ∃ v g, vs = [v] ∧ tag C H v = some g ∧ Q (.bl (decide (g = .int))) H
def betw (v : V) (lo hi : Int) : Bool := match v with
  | .int i => decide (lo ≤ i) && decide (i ≤ hi)
  | _ => false
def spBetween (C : Addr) : Sp := fun vs H Q _ => ∃ v g lo hi, vs = [v, .int lo, .int hi] ∧ tag C H v = some g ∧ Q (.bl (betw v lo hi)) H
def spSequence (C : Addr) : Sp := fun vs H Q _ => ∃ v g, vs = [v] ∧ tag C H v = some g ∧ ∀ H', Same H H' → Q (.bl (decide (g = .lst) || decide (g = .tup))) H'
def tupOf (H : Hp) : V → Option (List V)
  | .ref a => match H a with
    | some (.tup xs) => some xs
    | _ => none
  | _ => none
def spPair (C : Addr) : Sp := fun vs H Q _ => ∃ v g, vs = [v] ∧ tag C H v = some g ∧ Q (.bl (match tupOf H v with | some xs => decide (xs.length = 2) | none => false)) H
theorem tag_tupOf {C : Addr} {H : Hp} {v : V} {g : Tg} (h : tag C H v = some g) : (g = .tup ∧ ∃ a xs, v = .ref a ∧ H a = some (.tup xs) ∧ tupOf H v = some xs) ∨ (g ≠ .tup ∧ tupOf H v = none) := by
  cases v with
  | ref a =>
    unfold tag at h
    unfold tupOf
    dsimp only at h ⊢
    split at h
    · rename_i xs e; cases h; exact .inr ⟨by decide, by rw [e]⟩
    · rename_i xs e; cases h; exact .inl ⟨rfl, a, xs, rfl, e, by rw [e]⟩
    · rename_i D dx fs e
      split at h
      · cases h; exact .inr ⟨by decide, by rw [e]⟩
      · cases h
    · cases h
  | non => cases h; exact .inr ⟨by decide, rfl⟩
  | bl b => cases h; exact .inr ⟨by decide, rfl⟩
  | int b => cases h; exact .inr ⟨by decide, rfl⟩
  | str b => cases h; exact .inr ⟨by decide, rfl⟩
  | _ => cases h
section
variable {P : Program} {w : World} {K : PySem.W.Frag} {mg : Str → Option Value} {base : Heap} {C : Addr}
theorem ok_is_integer {x : Str} {st : Stmt} {f : Addr} {fd : FuncData} (F : Fun K "is_integer" "is_integer" s_is_integer f fd) (G : GrT K C) (B : B0 mg) : FnOk P w K mg base CX0 1 f fd ["value"] (spInteger C) := by
  refine F.ok scs_is_integer (fun vs H Q E h => ?_) (fun cdv A outer s H vs Q E hr h => ?_)
  · obtain ⟨v, g, rfl, _⟩ := h
    rfl
  · obtain ⟨v, g, rfl, hg, q⟩ := h
    refine ⟨_, pss_one (ps_ret (pe_and (pe_callB call_isi (by rfl) B.isi (by decide +kernel) (pa_cons (pv 0) (pa_cons (pe_bltn (v := .ty "int") (by rfl) B.int (by decide +kernel) rfl) pa_nil)))
      (pe_one (pe_not (pe_callB call_isi (by rfl) B.isi (by decide +kernel) (pa_cons (pv 0) (pa_cons (pe_bltn (v := .ty "bool") (by rfl) B.bool (by decide +kernel) rfl) pa_nil))))))), ?_⟩
    refine ⟨v, rfl, v, .ty "int", _, _, _, rfl, .ty _, tag_ty G hg, kit_tag G g .int (by decide) (by decide), _, rfl, ?_⟩
    cases e : g.is .int with
    | true =>
      refine iteT ⟨v, rfl, v, .ty "bool", _, _, _, rfl, .ty _, tag_ty G hg, kit_tag G g .bl (by decide) (by decide), _, rfl, ?_⟩
      have : (!(g.is .bl)) = decide (g = .int) := by cases g <;> first | rfl | (cases e)
      rw [this]; exact q
    | false =>
      refine iteF ?_
      have : false = decide (g = .int) := by cases g <;> first | rfl | (cases e)
      rw [this]; exact q
theorem ok_is_between {f : Addr} {fd : FuncData} (F : Fun K "is_between" "is_between" s_is_between f fd) (cI : Ca P w K mg base 1 "is_integer" (spInteger C)) : FnOk P w K mg base CX0 2 f fd ["value", "least", "greatest"] (spBetween C) := by
  refine F.ok scs_is_between (fun vs H Q E h => ?_) (fun cdv A outer s H vs Q E hr h => ?_)
  · obtain ⟨v, g, lo, hi, rfl, _⟩ := h
    rfl
  · obtain ⟨v, g, lo, hi, rfl, hg, q⟩ := h
    refine ⟨_, pss_one (ps_ret (pe_and (C8.pe_c cI hr (by decide) (by rfl) (pa_cons (pv 0) pa_nil))
      (pe_one (pe_chain op_le op_le (pv 1) (pv 0) (pv 2))))), ?_⟩
    refine ⟨v, rfl, v, g, rfl, hg, _, rfl, ?_⟩
    by_cases e : g = .int
    · obtain ⟨i, rfl⟩ := tag_int (e ▸ hg)
      rw [decide_eq_true e]
      refine iteT ⟨_, rfl, _, rfl, _, _, rfl, rfl, _, rfl, ?_⟩
      unfold betw at q
      dsimp only at q
      cases e1 : decide (lo ≤ i) with
      | true => rw [e1] at q; exact iteT ⟨_, rfl, _, _, rfl, rfl, q⟩
      | false => rw [e1] at q; exact iteF q
    · rw [decide_eq_false e]
      refine iteF ?_
      have : betw v lo hi = false := by
        cases v with
        | int i => exact absurd (Option.some.inj hg).symm e
        | _ => rfl
      rw [this] at q
      exact q
theorem ok_is_sequence {f : Addr} {fd : FuncData} (F : Fun K "is_sequence" "is_sequence" s_is_sequence f fd) (G : GrT K C) (B : B0 mg) : FnOk P w K mg base CX0 1 f fd ["value"] (spSequence C) := by
  refine F.ok scs_is_sequence (fun vs H Q E h => ?_) (fun cdv A outer s H vs Q E hr h => ?_)
  · obtain ⟨v, g, rfl, _⟩ := h
    rfl
  · obtain ⟨v, g, rfl, hg, q⟩ := h
    refine ⟨_, pss_one (ps_ret (pe_callB call_isiT (by rfl) B.isi (by decide +kernel) (pa_cons (pv 0) (pa_cons (pe_tup (pa_cons (pe_bltn (v := .ty "list") (by rfl) B.list (by decide +kernel) rfl)
      (pa_cons (pe_bltn (v := .ty "tuple") (by rfl) B.tuple (by decide +kernel) rfl) pa_nil))) pa_nil)))), ?_⟩
    refine ⟨v, rfl, (by show 2 ≤ sizeLine; decide), fun p hp => ?_⟩
    have s1 := same_new (o := .tup [.ty "list", .ty "tuple"]) hp
    have hk : PySem.W.kitAny K (g.v C) [.type "list", .type "tuple"] = some (decide (g = .lst) || decide (g = .tup)) :=
      kitAny_cons (kit_tag G g .lst (by decide) (by decide)) (fun e1 => kitAny_cons (kit_tag G g .tup (by decide) (by decide)) (fun e2 => by
        have : (decide (g = .lst) || decide (g = .tup)) = false := by cases g <;> first | rfl | exact absurd e1 (by decide) | exact absurd e2 (by decide)
        rw [this]; exact kitAny_nil) (fun e2 => by cases g <;> first | rfl | exact absurd e2 (by decide))) (fun e1 => by cases g <;> first | rfl | exact absurd e1 (by decide))
    exact ⟨v, p, _, _, _, _, rfl, upd_same, .cons (.ty _) (.cons (.ty _) .nil), tag_ty G (tag_same s1 hg), hk, q _ s1⟩
theorem ok_is_pair {f : Addr} {fd : FuncData} (F : Fun K "is_pair" "is_pair" s_is_pair f fd) (G : GrT K C) (B : B0 mg) : FnOk P w K mg base CX0 1 f fd ["value"] (spPair C) := by
  refine F.ok scs_is_pair (fun vs H Q E h => ?_) (fun cdv A outer s H vs Q E hr h => ?_)
  · obtain ⟨v, g, rfl, _⟩ := h
    rfl
  · obtain ⟨v, g, rfl, hg, q⟩ := h
    refine ⟨_, pss_one (ps_ret (pe_and (pe_callB call_isi (by rfl) B.isi (by decide +kernel) (pa_cons (pv 0) (pa_cons (pe_bltn (v := .ty "tuple") (by rfl) B.tuple (by decide +kernel) rfl) pa_nil)))
      (pe_one (pe_cmpR op_eq (pe_callB call_len_seq (by rfl) B.len (by decide +kernel) (pa_cons (pv 0) pa_nil)) pe_int (nomark _))))), ?_⟩
    refine ⟨v, rfl, v, .ty "tuple", _, _, _, rfl, .ty _, tag_ty G hg, kit_tag G g .tup (by decide) (by decide), _, rfl, ?_⟩
    rcases tag_tupOf hg with ⟨rfl, a, xs, rfl, ha, ht⟩ | ⟨hn, ht⟩
    · rw [ht] at q
      refine iteT ⟨_, rfl, a, xs, rfl, .inr (.inl (.inl ha)), rfl, ?_⟩
      have : decide (V.int (xs.length : Int) = V.int 2) = decide (xs.length = 2) := by
        by_cases e : xs.length = 2
        · rw [decide_eq_true e, decide_eq_true]; rw [e]; rfl
        · rw [decide_eq_false e, decide_eq_false]; intro z; injection z with z; omega
      rw [this]
      exact q
    · rw [ht] at q
      have : g.is .tup = false := by cases g <;> first | rfl | exact absurd rfl hn
      rw [this]
      exact iteF q
end
end Ev
namespace PySem
open AutoSeq1 (wpAny_loadPart')
theorem ev_meets_enum {v : Value} {o : Obj} {H : Heap → Prop} (B : Begins v o H) :
    Meets (Builtin.«enumerate.__new__» ⟨[.type "enumerate", v], []⟩) (fun _ R s => H s.heap ∧
      R (.ok (.ret (.ref (s.heap.push o).objs.size))) { s with heap := (s.heap.push o).push { cls := .type "enumerate", data := .fields #[.none, .bool false, .ref s.heap.objs.size, rawInt 0, .none, .none] } }) :=
  .of_wp fun prog w A R s h => by
    obtain ⟨hp, g, d, tk, os⟩ := s; obtain ⟨h1, h⟩ := h
    have hsub := sub_enumerate
    have q1 : ∀ {A' : Around} {E : Value → Shared → Prop} {Q : Value → Shared → Prop}, Q (.ref hp.objs.size) ⟨hp.push o, g, d, tk, os⟩ → wpAny (model prog w) A' (pyIter v) Q E ⟨hp, g, d, tk, os⟩ :=
      fun q => B.iter prog w _ _ ⟨hp, g, d, tk, os⟩ _ h1 q
    wp_walk using q1
    refine wpAny_stack_any fun st => wpAny_pure ?_
    split
    · rename_i c _ _ _ _ _
      cases (c == Value.type "enumerate")
      · wp_walk using q1
        exact ⟨_, rfl, h⟩
      · wp_walk using q1
        exact ⟨_, rfl, h⟩
    · wp_walk using q1
      exact ⟨_, rfl, h⟩
theorem ev_call_enum {prog : Program} {w : World} {A : Around} {E : Value → Shared → Prop} {s : Shared} {v : Value} {o : Obj} {H : Heap → Prop} {Q : Value → Shared → Prop} (B : Begins v o H) (h1 : H s.heap)
    (h : ∀ h', IsEnum h' (s.heap.objs.size + 1) s.heap.objs.size 0 .none → h'.get? s.heap.objs.size = some o → h'.objs.size = s.heap.objs.size + 2 →
      (∀ b o, s.heap.get? b = some o → h'.get? b = some o) → Q (.ref (s.heap.objs.size + 1)) { s with heap := h' }) :
    wpAny (model prog w) A (call (.type "enumerate") [v]) Q E s := by
  refine callType_new F.called_enumerate (by decide) (F.typeCall_enumerate_1 _) (F.newCall_enumerate_1 _) (fun obj => F.args_object_init_2 obj _) F.entry_enumerate_new
    (ev_meets_enum B) ⟨h1, ?_⟩
  have hz : (s.heap.push o).objs.size = s.heap.objs.size + 1 := Heap.size_push ..
  show _ ∧ _
  rw [hz]
  have he : IsEnum ((s.heap.push o).push { cls := .type "enumerate", data := .fields #[.none, .bool false, .ref s.heap.objs.size, rawInt 0, .none, .none] }) (s.heap.objs.size + 1) s.heap.objs.size 0 .none := by
    have := Heap.get?_push_size (s.heap.push o) (o := { cls := .type "enumerate", data := .fields #[.none, .bool false, .ref s.heap.objs.size, rawInt 0, .none, .none] }) rfl
    rw [hz] at this; exact this
  exact ⟨⟨_, he, rfl⟩, h _ he (Heap.get?_push_of_some _ (Heap.get?_push_size _ B.free)) (by rw [Heap.size_push, hz]) fun b o x => Heap.get?_push_of_some _ (Heap.get?_push_of_some _ x)⟩
theorem ev_enum_end {prog : Program} {w : World} {A : Around} {E : Value → Shared → Prop} {s : Shared} {e it l : Addr} {i : Nat} {items : Array Value} {old : Value} {Q : Option Value → Shared → Prop} (hh : A.handled = none)
    (he : IsEnum s.heap e it i old) (hit : s.heap.IsTupleIter it l i) (hl : s.heap.IsTuple l items) (hx : items[i]? = none)
    (hQ : ∀ h', Heap.ExtBut it s.heap h' → Q none { s with heap := h' }) : wpAny (model prog w) A (pyNext (.ref e)) Q E s := by
  have hT : s.TypeIs (.ref e) "enumerate" := ⟨_, he, rfl⟩
  unfold pyNext
  refine wpAny_bind (wpAny_attempt (wpAny_callSpecial?_slot (name := Str.ofString "__next__") hT F.slot_enumerate_next
    (wpAny_call_entry F.slot_enumerate_next hT F.entry_enumerate_next ?_ (F.args_enumerate_next_1 _))))
  show wpAny _ _ (field (.ref e) 2 >>= _) _ _ _
  refine wpAny_bind (wpAny_field he rfl (x := .ref it) rfl ?_)
  refine wpAny_bind (wpAny_nextOf_tuple_end hh hit hl hx fun h' x he' hx' => ?_)
  obtain ⟨o, ho, hc⟩ := hx'
  refine wpAny_bind (wpAny_isInstance (T := "StopIteration") (b := true) ⟨o, ho, hc⟩ isSubtype_stop ?_)
  exact wpAny_pure (hQ _ he')
end PySem
namespace Ev
open PySem PySem.Spec PyProof.Rows L2
/-- enumerate of the tuple at a -/
def IteT (K : PySem.W.Frag) (a : Addr) : It :=
  ⟨fun i H => ∃ (xs : List V) (x : V), SqT K H a xs ∧ xs[i]? = some x, fun i H v H' => ∃ T x, v = .ref T ∧ H T = none ∧ H' = upd H T (.tup [.int (i : Nat), x]) ∧ ∀ xs, SqT K H a xs → xs[i]? = some x, fun i H => ∃ xs : List V, SqT K H a xs ∧ xs.length ≤ i⟩
theorem turn_enumT {P : Program} {w : World} {K : PySem.W.Frag} {elts : List Expr} {kk : Nat} {tpos : Pos} (a e it : Addr) :
    Turn P w K (.Tuple elts kk tpos) (IteT K a) [e, it] e (fun i h => (∃ old, IsEnum h e it ((i : Nat) : Int) old) ∧ h.IsTupleIter it a i ∧ e ≠ it ∧ a ≠ it ∧ a ≠ e) where
  mem := by simp
  obj := fun i h st b hb => by
    obtain ⟨⟨old, he⟩, ⟨o, ho, hc, hd⟩, _⟩ := st
    have e' : b = e ∨ b = it := by simpa using hb
    rcases e' with z | z
    · rw [z]; exact ⟨_, he, fun v q => nomatch q⟩
    · rw [z]; exact ⟨o, ho, fun v q => by rw [hd] at q; cases q⟩
  keep := fun i h h' st k => let ⟨⟨old, he⟩, hi, hne⟩ := st; ⟨⟨old, k e (by simp) _ he⟩, (let ⟨o, ho, r⟩ := hi; ⟨o, k it (by simp) o ho, r⟩), hne⟩
  item := by
    intro X hP hw hK hc i pins s σ H E I hf st hg
    subst hP hw hK
    obtain ⟨⟨old, he⟩, hit, hne, hai, hae⟩ := st
    obtain ⟨xs, x, hq, hx⟩ := hg
    obtain ⟨its, rv, p, hz⟩ := I.tuple hq
    obtain ⟨u, hu, ru⟩ := rv.get hx
    have hel : e < s.heap.objs.size := Heap.lt_size he
    have hil : it < s.heap.objs.size := by obtain ⟨_, q, _⟩ := hit; exact Heap.lt_size q
    have hD : Draws X.prog X.w X.A.in1 it [it, a] its.toArray.size (fun i v => its.toArray[i]? = some v) (fun i h => h.IsTupleIter it a i ∧ h.IsTuple a its.toArray) := Draws.tuple (A := X.A.in1) (show X.A.in1.handled = none from I.ok.hd hc) it a hai its.toArray
    have hlt : i < its.toArray.size := by
      have := (List.getElem?_eq_some_iff.mp hu).1
      rw [List.size_toArray]; exact this
    refine wpAny_pyNext_enum_itemD hD he ⟨hit, p⟩ hlt hne (by simp [hne, Ne.symm hae]) fun y h' tk hP ho hst hT hsz hk => ?_
    have hy : y = u := by
      have hP' : its[i]? = some y := by simpa using hP
      exact (Option.some.inj (hu.symm.trans hP')).symm
    subst hy
    refine ⟨_, rfl, wpAny_letOwnedTupleGo_enum (s := { s with heap := h', toks := tk + 1 }) ho fun h'' he' sb => ?_⟩
    have hT2 : h''.get? s.heap.objs.size = some { cls := .type "tuple", data := .seq #[.int i tk, y] } := (sb.2 _ (Nat.ne_of_gt hel)).trans hT
    have new : ObjOk X.prog X.w (upd H s.heap.objs.size (.tup [.int (i : Nat), x])) h'' s.heap.objs.size (.tup [.int (i : Nat), x]) :=
      ⟨by show 2 ≤ sizeLine; decide, [.int i tk, y], .cons ⟨_, rfl⟩ (.cons ru .nil), ⟨_, hT2, rfl, _, rfl⟩⟩
    have I1 : Inv X pins σ (upd H s.heap.objs.size (.tup [.int (i : Nat), x])) { s with heap := h'', toks := tk + 1 } :=
      I.turnedNew (ch := [e, it]) (fun b ob hb q => (sb.2 b (fun z => hb (by simp [z]))).trans (hk b ob (fun z => hb (by simp [z])) (fun z => hb (by simp [z])) q)) hf (Nat.le_refl _) new
    refine ⟨.ref s.heap.objs.size, _, I1, rfl, ⟨_, x, rfl, I.hok.fresh (Nat.le_refl _), rfl, fun ys hy => by
      have := I.tuple_inj hy hq
      rw [this]; exact hx⟩, ⟨⟨y, ?_⟩, (let ⟨o, ho, r⟩ := hst.1; ⟨o, (sb.2 it (Ne.symm hne)).trans ho, r⟩), hne, hai, hae⟩, fun b hb => ?_⟩
    · have e1 : ((i + 1 : Nat) : Int) = (i : Int) + 1 := by omega
      rw [e1]; exact he'
    · have hb' : b < s.heap.objs.size := by
        have e' : b = e ∨ b = it := by simpa using hb
        rcases e' with z | z
        · rw [z]; exact hel
        · rw [z]; exact hil
      rw [upd_ne (Nat.ne_of_lt hb')]
      exact (hf b hb).1
  done := by
    intro X hP hw hK hc i pins s σ H E I hf st hg
    subst hP hw hK
    obtain ⟨⟨old, he⟩, hit, hne, hai, hae⟩ := st
    obtain ⟨xs, hq, hx⟩ := hg
    obtain ⟨its, rv, p, hz⟩ := I.tuple hq
    obtain ⟨f0, f1, f2, f3, f4, f5⟩ := hf it (by simp)
    have hl := rv.length
    have hn : its.toArray[i]? = none := by
      rw [List.getElem?_toArray, List.getElem?_eq_none_iff]; omega
    exact ev_enum_end (I.ok.hd hc) he hit p hn fun h' eb => ⟨rfl, I.turned (t' := s.toks) (fun b o hb q => eb b o hb q) f0 f1 f3 f4 f5⟩
  self := fun A i s Q E st h => let ⟨⟨_, he⟩, _⟩ := st; wpAny_pyIter_enum he h
def iEnumA (K : PySem.W.Frag) (ta : TA) : TI := fun σ H R => ta σ H fun vs H1 => ∃ a xs, vs = [.ref a] ∧ ((SqL K H1 a xs ∧ R (Ite K a) H1) ∨ (SqT K H1 a xs ∧ R (IteT K a) H1))
theorem pi_enumA {X : Cx} {e : Expr} {ta : TA} {p pos tpos : Pos} {elts : List Expr} {kk : Nat} (hg : Gl X "enumerate") (hm : X.mg "enumerate" = none) (ha : PA X [e] ta) (hs : starEach [e] X.env = [(false, eval e X.env)] := by rfl) :
    PI X (.Tuple elts kk tpos) (.Call (.Name "enumerate" p) [e] [] pos) (iEnumA X.K ta) := by
  refine ⟨fun pins s σ H R I h => ?_⟩
  refine Call_ (ld_blt I hg hm boot_enumerate (PyProof.Rows.callWith_type1 (thn (ha.run pos pins s σ H _ I h) fun us s1 ⟨vs, H1, I1, r1, q1⟩ => ?_) hs rfl))
  obtain ⟨a, xs, ex, q1⟩ := q1
  subst ex
  cases r1 with
  | cons r rr =>
    cases rr
    cases r
    have fps : ∀ b ∈ [s1.heap.objs.size + 1, s1.heap.objs.size], FpOk X pins H1 b := fun b hb => by
      have e' : b = s1.heap.objs.size + 1 ∨ b = s1.heap.objs.size := by simpa using hb
      have hle : s1.heap.objs.size ≤ b := by
        rcases e' with z | z
        · rw [z]; exact Nat.le_add_right _ _
        · rw [z]; exact Nat.le_refl _
      exact I1.fpOk hle (I1.hok.fresh hle)
    rcases q1 with ⟨hq, q⟩ | ⟨hq, q⟩
    · obtain ⟨its, rv, p', hz⟩ := I1.list hq
      refine call_enumerate_list p'.isList fun h' he hit hsz hk => wpAny_pyIter_enum he ?_
      have I2 : Inv X pins σ H1 { s1 with heap := h' } := I1.kept (t' := s1.toks) hk
      exact ⟨s1.heap.objs.size + 1, [s1.heap.objs.size + 1, s1.heap.objs.size], _, _, H1, rfl, I2, turn_enum a (s1.heap.objs.size + 1) s1.heap.objs.size, ⟨⟨.none, he⟩, hit, Nat.succ_ne_self _⟩, fps, q⟩
    · obtain ⟨its, rv, p', hz⟩ := I1.tuple hq
      have hal : a < s1.heap.objs.size := by obtain ⟨o, ho, _⟩ := p'; exact Heap.lt_size ho
      refine ev_call_enum (begins_tuple a its.toArray) p' fun h' he hit hsz hk => wpAny_pyIter_enum he ?_
      have I2 : Inv X pins σ H1 { s1 with heap := h' } := I1.kept (t' := s1.toks) hk
      exact ⟨s1.heap.objs.size + 1, [s1.heap.objs.size + 1, s1.heap.objs.size], _, _, H1, rfl, I2, turn_enumT a (s1.heap.objs.size + 1) s1.heap.objs.size, ⟨⟨.none, he⟩, ⟨_, hit, rfl, rfl⟩, Nat.succ_ne_self _, Nat.ne_of_lt hal, Nat.ne_of_lt (Nat.lt_succ_of_lt hal)⟩, fps, q⟩
theorem walk_enumT {K : PySem.W.Frag} {a : Addr} {xs : List V} : Walk (IteT K a) xs.length (fun H => SqT K H a xs) (YPair (fun i => some (.int (i : Nat))) (fun i => xs[i]?)) where
  goes := fun i H hi h => ⟨xs, xs[i], h, List.getElem?_eq_getElem hi⟩
  stops := fun H h => ⟨xs, h, Nat.le_refl _⟩
  yields := fun i H x H' hi h hy => by
    obtain ⟨T, y, rfl, hT, rfl, hx⟩ := hy
    exact ⟨T, _, y, rfl, hT, rfl, rfl, hx xs h⟩
theorem walk_zipT {K : PySem.W.Frag} {a b : Addr} {xs ys : List V} {n : Nat} (hn : n = min xs.length ys.length) : Walk (RZ.ItzT K a b) n (fun H => SqT K H a xs ∧ SqT K H b ys) (YPair (fun i => xs[i]?) (fun i => ys[i]?)) where
  goes := fun i H hi h => ⟨xs, ys, xs[i]'(by omega), ys[i]'(by omega), h.1, h.2, List.getElem?_eq_getElem _, List.getElem?_eq_getElem _⟩
  stops := fun H h => ⟨xs, ys, h.1, h.2, by omega⟩
  yields := fun i H x H' hi h hy => by
    obtain ⟨T, y, z, rfl, hT, rfl, hx, hy⟩ := hy
    exact ⟨T, y, z, rfl, hT, rfl, hx xs h.1, hy ys h.2⟩
end Ev
namespace Ev
open PySem PySem.Spec PyProof.Rows L2
theorem tYes_i {σ : L2.St} {H : Hp} {A B : Hp → Prop} (h : A H) : tYes σ H (fun b H3 => if b = true then A H3 else B H3) := by
  unfold tYes
  dsimp only
  rw [if_pos rfl]
  exact h
def cmpL (ns : List Int) : List Bool := (ns.zip (ns.drop 1)).map fun q => decide (q.1 < q.2)
def asc (ns : List Int) : Bool := (cmpL ns).all id
theorem cmpL_len (ns : List Int) : (cmpL ns).length = ns.length - 1 := by
  unfold cmpL
  rw [List.length_map, List.length_zip, List.length_drop]; omega
theorem cmpL_get {ns : List Int} {i : Nat} {x y : Int} (hx : ns[i]? = some x) (hy : (ns.drop 1)[i]? = some y) : (cmpL ns)[i]? = some (decide (x < y)) := by
  unfold cmpL
  rw [List.getElem?_map]
  have : (ns.zip (ns.drop 1))[i]? = some (x, y) := List.getElem?_zip_eq_some.mpr ⟨hx, hy⟩
  rw [this]; rfl
theorem ints_get {ns : List Int} {i : Nat} {x : V} (h : (ns.map V.int)[i]? = some x) : ∃ n, ns[i]? = some n ∧ x = .int n := by
  rw [List.getElem?_map] at h
  cases e : ns[i]? with
  | none => rw [e] at h; cases h
  | some n => rw [e] at h; exact ⟨n, rfl, (Option.some.inj h).symm⟩
theorem cut1 (xs : List V) : cutV xs (some 1) none = xs.drop 1 := by
  unfold cutV
  rw [show HT.sIx xs.length 0 (some 1) = min 1 xs.length from HT.sIx_nat xs.length 0 1, HT.sIx_none]
  cases xs with
  | nil => rfl
  | cons x r =>
    rw [show min 1 (x :: r).length = 1 by rw [List.length_cons]; omega]
    show (List.take ((x :: r).length - 1) r) = r
    rw [List.length_cons, Nat.add_sub_cancel]
    exact List.take_length
def spAscending : Sp := fun vs H Q _ => ∃ (a : Addr) (ns : List Int), vs = [.ref a] ∧ H a = some (.tup (ns.map V.int)) ∧ ns.length ≤ 1000 ∧ ∀ H', Same H H' → Q (.bl (asc ns)) H'
section
variable {P : Program} {w : World} {K : PySem.W.Frag} {mg : Str → Option Value} {base : Heap} {C : Addr}
theorem ok_is_ascending {f : Addr} {fd : FuncData} (F : Fun K "is_ascending" "is_ascending" s_is_ascending f fd) (B : B0 mg) : FnOk P w K mg base CX0 1 f fd ["values"] spAscending := by
  refine F.ok scs_is_ascending (fun vs H Q E h => ?_) (fun cdv A outer s H vs Q E hr h => ?_)
  · obtain ⟨a, ns, rfl, _⟩ := h
    rfl
  · obtain ⟨a, ns, rfl, ha, hlen, q⟩ := h
    refine ⟨_, pss_one (ps_ret (pe_callB (cr_all rfl) (by rfl) B.all (by decide +kernel) (pa_cons (pe_lc (own := [("before", 1), ("behind", 2)]) (g := gTup K 2 (gCons (gName 1) (gCons (gName 2) gNil))) (tt := tYes) rfl scs_is_ascending.nd
      (RZ.pi_zipA (by rfl) B.zip (pa_cons (pv 0) (pa_cons (pe_slice sl_tupA (pv 0) (po_some pe_int) po_none) pa_nil)))
      (blkOk_by (N := Ns_is_ascending) (sc := defScope s_is_ascending) (by decide +kernel))
      (fun _ _ _ _ _ => pg_tup rfl (pgs_cons (pg_name (i := 1) scs_is_ascending.nd rfl (Or.inl rfl)) (pgs_cons (pg_name (i := 2) scs_is_ascending.nd rfl (Or.inl rfl)) pgs_nil)))
      (fun _ _ _ _ _ => pts_nil) (fun _ _ _ _ _ => pe_cmpR op_lt (pv 1) (pv 2) (nomark _))) pa_nil))), ?_⟩
    refine ⟨.ref a, rfl, .ref a, rfl, 1, rfl, a, ns.map V.int, rfl, .inl (.inl ha), fun hw => ?_, fun hw b hb => ?_⟩
    · have h0 : ns = [] := by
        obtain ⟨h1, _⟩ := hw
        rw [show HT.sIx (ns.map V.int).length 0 (some 1) = min 1 (ns.map V.int).length from HT.sIx_nat _ 0 1, List.length_map] at h1
        cases ns with
        | nil => rfl
        | cons x r => rw [List.length_cons] at h1; omega
      subst h0
      refine ⟨a, a, [], [], rfl, .inr ⟨.inl (.inl ha), .inl (.inl ha), fun D hD => lc_it (walk_zipT (n := 0) rfl) (fun i H' => Same H H' ∧ H' D = some (.lst [])) ⟨same_new hD, upd_same⟩ (fun i H' _ h => ⟨.inl (.inl (h.1 _ _ ha)), .inl (.inl (h.1 _ _ ha))⟩)
        (fun i x H1 H2 hi => absurd hi (Nat.not_lt_zero _)) (fun H' h => ⟨D, [], rfl, .inl (.inl h.2), q _ h.1⟩)⟩⟩
    · have s1 : Same H (upd H b (.tup (cutV (ns.map V.int) (some 1) none))) := same_new hb
      have hb1 : (upd H b (.tup (cutV (ns.map V.int) (some 1) none))) b = some (.tup ((ns.drop 1).map V.int)) := by rw [upd_same, cut1, List.map_drop]
      generalize upd H b (.tup (cutV (ns.map V.int) (some 1) none)) = H1 at s1 hb1 ⊢
      refine ⟨a, b, ns.map V.int, (ns.drop 1).map V.int, rfl, .inr ⟨.inl (.inl (s1 _ _ ha)), .inl (.inl hb1), fun D hD => lc_it (walk_zipT (n := ns.length - 1) (by rw [List.length_map, List.length_map, List.length_drop]; omega))
        (fun i H' => Same H1 H' ∧ H' D = some (.lst (((cmpL ns).take i).map V.bl))) ⟨same_new hD, upd_same⟩ (fun i H' _ h => ⟨.inl (.inl (h.1 _ _ (s1 _ _ ha))), .inl (.inl (h.1 _ _ hb1))⟩) ?_ ?_⟩⟩
      · rintro i x H2 H3 hi ⟨s2, hD2⟩ ⟨T, x1, x2, rfl, hT, rfl, e1, e2⟩
        obtain ⟨n1, g1, rfl⟩ := ints_get e1
        obtain ⟨n2, g2, rfl⟩ := ints_get e2
        refine ⟨T, _, rfl, .inl (.inl upd_same), rfl, _, _, rfl, _, _, rfl, rfl, rfl, ?_⟩
        refine tYes_i ?_
        refine ⟨_, rfl, _, rfl, _, _, rfl, rfl, _, Eq.trans (upd_ne (ne_of_none hD2 hT)) hD2, ?_, ?_⟩
        · rw [List.length_map, List.length_take, cmpL_len]
          exact small1000 (by omega)
        · have nTD : D ≠ T := ne_of_none hD2 hT
          refine ⟨fun c o e => ?_, ?_⟩
          · have hc : c ≠ D := ne_of_none e hD
            rw [upd_ne hc]
            exact same_new hT _ _ (s2 _ _ e)
          · rw [upd_same, List.take_add_one, cmpL_get g1 g2, List.map_append]
            rfl
      · rintro H' ⟨s2, hD2⟩
        have et : (cmpL ns).take (ns.length - 1) = cmpL ns := List.take_of_length_le (by rw [cmpL_len]; exact Nat.le_refl _)
        rw [et] at hD2
        exact ⟨D, cmpL ns, rfl, .inl (.inl hD2), q _ (s1.trans s2)⟩
end
end Ev
namespace Ev
open PySem PySem.Spec PyProof.Rows L2
/-! ### is_subset -/
def intOf : V → Option Int
  | .int i => some i
  | _ => none
def subL (xs : List V) (n : Int) : Bool := xs.all (fun x => betw x 0 (n - 1)) && asc (xs.filterMap intOf)
def subV (H : Hp) (v : V) (n : Int) : Bool := match tupOf H v with
  | some xs => subL xs n
  | none => false
theorem all_ints {xs : List V} {n : Int} (h : xs.all (fun x => betw x 0 (n - 1)) = true) : xs = (xs.filterMap intOf).map V.int := by
  induction xs with
  | nil => rfl
  | cons x r ih =>
    rw [List.all_cons, Bool.and_eq_true] at h
    obtain ⟨h1, h2⟩ := h
    cases x with
    | int i =>
      exact congrArg (V.int i :: ·) (ih h2)
    | _ => cases h1
def spSubset (C : Addr) : Sp := fun vs H Q _ => ∃ v g n, vs = [v, .int n] ∧ tag C H v = some g ∧ (∀ xs, tupOf H v = some xs → xs.length ≤ 1000 ∧ ∀ x ∈ xs, ∃ g, tag C H x = some g) ∧ ∀ H', Same H H' → Q (.bl (subV H v n)) H'
def spEdge (C : Addr) : Sp := fun vs H Q _ => ∃ v n a b, vs = [v, .int n] ∧ PrAt H v (a, b) ∧ 0 ≤ a ∧ a < b ∧ b < n ∧ ∀ H', Same H H' → Q (.bl true) H'
def spRing : Sp := fun vs H Q _ => ∃ a b n : Int, vs = [.int a, .int b, .int n] ∧ Q (.int (if n - b + a < b - a then n - b + a else b - a)) H
section
variable {P : Program} {w : World} {K : PySem.W.Frag} {mg : Str → Option Value} {base : Heap} {C : Addr}
theorem ok_is_subset {f : Addr} {fd : FuncData} (F : Fun K "is_subset" "is_subset" s_is_subset f fd) (G : GrT K C) (B : B0 mg) (cB : Ca P w K mg base 2 "is_between" (spBetween C)) (cA : Ca P w K mg base 1 "is_ascending" spAscending) :
    FnOk P w K mg base CX0 3 f fd ["value", "size"] (spSubset C) := by
  refine F.ok scs_is_subset (fun vs H Q E h => ?_) (fun cdv A outer s H vs Q E hr h => ?_)
  · obtain ⟨v, g, n, rfl, _⟩ := h
    rfl
  · obtain ⟨v, g, n, rfl, hg, hx, q⟩ := h
    refine ⟨_, pss_cons (ps_if (pt_not (pt_val (pe_callB call_isi (by rfl) B.isi (by decide +kernel) (pa_cons (pv 0) (pa_cons (pe_bltn (v := .ty "tuple") (by rfl) B.tuple (by decide +kernel) rfl) pa_nil))))) (pss_one (ps_ret pe_bl)) pss_nil)
      (pss_one (ps_ret (pe_and (pe_callB (cr_all rfl) (by rfl) B.all (by decide +kernel) (pa_cons (pe_lc (own := [("vertex", 2)]) (g := gName 2) (tt := tYes) rfl scs_is_subset.nd (pi_tup (pv 0))
        (blkOk_by (N := Ns_is_subset) (sc := defScope s_is_subset) (by decide +kernel)) (fun _ _ _ _ _ => pg_name (i := 2) scs_is_subset.nd rfl (Or.inl rfl)) (fun _ _ _ _ _ => pts_nil)
        (fun _ _ _ _ _ => C8.pe_c cB (by exact hr) (by decide) (by rfl) (pa_cons (pv 2) (pa_cons pe_int (pa_cons (pe_op op_sub (pv 1) pe_int) pa_nil))))) pa_nil))
        (pe_one (C8.pe_c cA hr (by decide) (by rfl) (pa_cons (pv 0) pa_nil)))))), ?_⟩
    refine ⟨v, rfl, v, .ty "tuple", _, _, _, rfl, .ty _, tag_ty G hg, kit_tag G g .tup (by decide) (by decide), _, rfl, ?_⟩
    rcases tag_tupOf hg with ⟨rfl, a, xs, rfl, ha, ht⟩ | ⟨hn, ht⟩
    · have hq : subV H (.ref a) n = subL xs n := by unfold subV; rw [ht]
      rw [hq] at q
      obtain ⟨hl, hxs⟩ := hx xs ht
      refine iteF ?_
      refine ⟨.ref a, rfl, a, rfl, ⟨_, .inl (.inl ha)⟩, fun D hD => lc_tup (K := K) (a := a) (xs := xs) (fun i H' => Same H H' ∧ H' D = some (.lst (((xs.map fun x => betw x 0 (n - 1)).take i).map V.bl))) ⟨same_new hD, upd_same⟩ (fun i H' _ h => .inl (.inl (h.1 _ _ ha))) ?_ ?_⟩
      · rintro i x H2 hi ⟨s2, hD2⟩
        obtain ⟨g, hgx⟩ := hxs x (List.mem_of_getElem? hi)
        refine ⟨rfl, tYes_i ?_⟩
        refine ⟨_, rfl, _, rfl, _, _, rfl, rfl, x, g, 0, n - 1, rfl, tag_same s2 hgx, _, hD2, ?_, ?_⟩
        · rw [List.length_map, List.length_take, List.length_map]
          exact small1000 (by omega)
        · refine ⟨fun c o e => by rw [upd_ne (ne_of_none e hD)]; exact s2 _ _ e, ?_⟩
          rw [upd_same, List.take_add_one, List.getElem?_map, hi, List.map_append]
          rfl
      · rintro H' ⟨s2, hD2⟩
        have et : (xs.map fun x => betw x 0 (n - 1)).take xs.length = xs.map fun x => betw x 0 (n - 1) := List.take_of_length_le (by rw [List.length_map]; exact Nat.le_refl _)
        rw [et] at hD2
        refine ⟨D, _, rfl, .inl (.inl hD2), _, rfl, ?_⟩
        have eall : (xs.map fun x => betw x 0 (n - 1)).all id = xs.all fun x => betw x 0 (n - 1) := by rw [List.all_map]; rfl
        unfold subL at q
        rw [eall]
        cases e : xs.all fun x => betw x 0 (n - 1) with
        | true =>
          rw [e] at q
          have ex := all_ints e
          refine iteT ⟨_, rfl, a, xs.filterMap intOf, rfl, by rw [← ex]; exact s2 _ _ ha, ?_, fun H3 s3 => q _ (s2.trans s3)⟩
          have := congrArg List.length ex
          rw [List.length_map] at this
          omega
        | false =>
          rw [e] at q
          exact iteF (q _ s2)
    · have hq : subV H v n = false := by unfold subV; rw [ht]
      rw [hq] at q
      have : g.is .tup = false := by cases g <;> first | rfl | exact absurd rfl hn
      rw [this]
      exact iteT (q _ (Same.refl _))
theorem ok_is_edge {f : Addr} {fd : FuncData} (F : Fun K "is_edge" "is_edge" s_is_edge f fd) (cP : Ca P w K mg base 1 "is_pair" (spPair C)) (cS : Ca P w K mg base 3 "is_subset" (spSubset C)) : FnOk P w K mg base CX0 4 f fd ["value", "size"] (spEdge C) := by
  refine F.ok scs_is_edge (fun vs H Q E h => ?_) (fun cdv A outer s H vs Q E hr h => ?_)
  · obtain ⟨v, n, a, b, rfl, _⟩ := h
    rfl
  · obtain ⟨v, n, a, b, rfl, ⟨t, rfl, ht⟩, h0, h1, h2, q⟩ := h
    refine ⟨_, pss_one (ps_ret (pe_and (C8.pe_c cP hr (by decide) (by rfl) (pa_cons (pv 0) pa_nil)) (pe_one (C8.pe_c cS hr (by decide) (by rfl) (pa_cons (pv 0) (pa_cons (pv 1) pa_nil)))))), ?_⟩
    have htt : tupOf H (.ref t) = some [.int a, .int b] := by unfold tupOf; dsimp only; rw [ht]
    refine ⟨_, rfl, .ref t, .tup, rfl, tag_tup ht, _, rfl, ?_⟩
    rw [htt]
    refine iteT ⟨_, rfl, _, rfl, .ref t, .tup, n, rfl, tag_tup ht, fun xs e => ?_, fun H' s' => ?_⟩
    · rw [htt] at e
      cases e
      refine ⟨(by show 2 ≤ 1000; decide), fun x hx => ?_⟩
      rcases List.mem_cons.mp hx with e | hx
      · rw [e]; exact ⟨.int, rfl⟩
      · rcases List.mem_cons.mp hx with e | hx
        · rw [e]; exact ⟨.int, rfl⟩
        · cases hx
    · have : subV H (.ref t) n = true := by
        unfold subV
        rw [htt]
        show ((betw (.int a) 0 (n - 1) && (betw (.int b) 0 (n - 1) && true)) && ((decide (a < b)) && true)) = true
        unfold betw
        simp only [Bool.and_eq_true, decide_eq_true_eq, Bool.and_true]
        omega
      rw [this]
      exact q _ s'
end
end Ev
namespace Ev
open PySem PySem.Spec PyProof.Rows L2
def lexlt (p q : Int × Int) : Prop := p.1 < q.1 ∨ (p.1 = q.1 ∧ p.2 < q.2)
structure Good (n : Int) (ps : List (Int × Int)) : Prop where
  bd : ∀ q ∈ ps, 0 ≤ q.1 ∧ q.1 < q.2 ∧ q.2 < n
  pw : ps.Pairwise lexlt
theorem Good.next {n : Int} {ps : List (Int × Int)} (g : Good n ps) {i : Nat} {p q : Int × Int} (h1 : ps[i]? = some p) (h2 : ps[i + 1]? = some q) : lexlt p q := by
  obtain ⟨a1, b1⟩ := List.getElem?_eq_some_iff.mp h1
  obtain ⟨a2, b2⟩ := List.getElem?_eq_some_iff.mp h2
  have := List.pairwise_iff_getElem.mp g.pw i (i + 1) a1 a2 (Nat.lt_succ_self _)
  rw [b1, b2] at this
  exact this
theorem lex_le {p q : Int × Int} (h : lexlt p q) : Ob.lexAt (fun j => decide ([q.1, q.2].getD j 0 = [p.1, p.2].getD j 0)) (fun j => decide ([q.1, q.2].getD j 0 ≤ [p.1, p.2].getD j 0)) (decide (([q.1, q.2] : List Int).length ≤ ([p.1, p.2] : List Int).length)) 0 (min ([q.1, q.2] : List Int).length ([p.1, p.2] : List Int).length) = false := by
  show (if decide (q.1 = p.1) = true then (if decide (q.2 = p.2) = true then true else decide (q.2 ≤ p.2)) else decide (q.1 ≤ p.1)) = false
  rcases h with h | ⟨h1, h2⟩
  · rw [if_neg (by rw [decide_eq_true_eq]; omega)]
    exact decide_eq_false (by omega)
  · rw [if_pos (by rw [decide_eq_true_eq]; omega), if_neg (by rw [decide_eq_true_eq]; omega)]
    exact decide_eq_false (by omega)
def SeqOf (H : Hp) (e : Addr) (xs : List V) : Prop := H e = some (.lst xs) ∨ H e = some (.tup xs)
theorem SeqOf.same {H H' : Hp} {e : Addr} {xs : List V} (s : Same H H') (h : SeqOf H e xs) : SeqOf H' e xs := h.elim (fun h => .inl (s _ _ h)) fun h => .inr (s _ _ h)
instance (p q : Int × Int) : Decidable (lexlt p q) := inferInstanceAs (Decidable (_ ∨ _))
theorem lex_ge {p q : Int × Int} (h : ¬ lexlt p q) : Ob.lexAt (fun j => decide ([q.1, q.2].getD j 0 = [p.1, p.2].getD j 0)) (fun j => decide ([q.1, q.2].getD j 0 ≤ [p.1, p.2].getD j 0)) (decide (([q.1, q.2] : List Int).length ≤ ([p.1, p.2] : List Int).length)) 0 (min ([q.1, q.2] : List Int).length ([p.1, p.2] : List Int).length) = true := by
  show (if decide (q.1 = p.1) = true then (if decide (q.2 = p.2) = true then true else decide (q.2 ≤ p.2)) else decide (q.1 ≤ p.1)) = true
  unfold lexlt at h
  by_cases h1 : q.1 = p.1
  · rw [if_pos (decide_eq_true h1)]
    by_cases h2 : q.2 = p.2
    · rw [if_pos (decide_eq_true h2)]
    · rw [if_neg (by rw [decide_eq_true_eq]; exact h2)]
      exact decide_eq_true (by omega)
  · rw [if_neg (by rw [decide_eq_true_eq]; exact h1)]
    exact decide_eq_true (by omega)
/-! ### the first fault of a row of which some are right (pairs of ints) -/
def fweL : List (Option (Int × Int)) → (Int × Int) → Option Nat
  | [], _ => none
  | none :: _, _ => some 0
  | some q :: r, b => if b.1 < q.1 ∨ (b.1 = q.1 ∧ b.2 < q.2) then (fweL r q).map (· + 1) else some 0
def atV : Option Nat → V
  | none => .non
  | some k => .int (k : Int)
def OptAt (H : Hp) (xs : List V) (qs : List (Option (Int × Int))) : Prop := xs.length = qs.length ∧ ∀ (i : Nat) (x : V) (q : Int × Int), xs[i]? = some x → qs[i]? = some (some q) → PrAt H x q
theorem OptAt.same {H H' : Hp} {xs : List V} {qs : List (Option (Int × Int))} (s : Same H H') (h : OptAt H xs qs) : OptAt H' xs qs := ⟨h.1, fun i x q h1 h2 => (h.2 i x q h1 h2).kp (p := 0) (.of s)⟩
theorem PrsAt.opt {H : Hp} {xs : List V} {ps : List (Int × Int)} (h : PrsAt H xs ps) : OptAt H xs (ps.map some) := ⟨by rw [List.length_map]; exact paired_len h, fun i x q h1 h2 => by
  obtain ⟨u, e1, e2⟩ := paired_get h h1
  rw [List.getElem?_map, e1] at h2
  cases h2
  exact e2⟩
theorem fweL_some : ∀ {ps : List (Int × Int)} {b : Int × Int}, ps.Pairwise lexlt → (∀ q ∈ ps, lexlt b q) → fweL (ps.map some) b = none
  | [], _, _, _ => rfl
  | q :: r, b, hp, hl => by
    have hq := hl q List.mem_cons_self
    have e : fweL ((q :: r).map some) b = (fweL (r.map some) q).map (· + 1) := if_pos hq
    rw [e, fweL_some (List.pairwise_cons.mp hp).2 (List.pairwise_cons.mp hp).1]
    rfl
def spFF : Sp := fun vs H Q _ => ∃ (e r : Addr) (xs : List V) (qs : List (Option (Int × Int))), vs = [.ref e, .ref r] ∧ SeqOf H e xs ∧ OptAt H xs qs ∧ (∀ q, some q ∈ qs → lexlt (0, 0) q) ∧ H r = some (.lst (qs.map fun o => V.bl o.isSome)) ∧ ∀ H', Same H H' → Q (atV (fweL qs (0, 0))) H'
def FFInv (H : Hp) (e r : Addr) (qs : List (Option (Int × Int))) : Nat → L2.St → Hp → Prop := fun i σ H' => Same H H' ∧ ∃ (y2 y3 : Option V) (q0 : Int × Int), σ = [some (.ref e), some (.ref r), y2, y3] ∧ ((i = 0 ∧ q0 = (0, 0)) ∨ (0 < i ∧ qs[i - 1]? = some (some q0))) ∧ fweL qs (0, 0) = (fweL (qs.drop i) q0).map (· + i)
def spFwe : Sp := fun vs H Q _ => ∃ (n : Int) (e : Addr) (xs : List V) (ps : List (Int × Int)), vs = [.int n, .ref e] ∧ SeqOf H e xs ∧ PrsAt H xs ps ∧ Good n ps ∧ ps.length ≤ 1000 ∧ ∀ H', Same H H' → Q .non H'
/-! ### a walk over a list or a tuple -/
def iSeq (K : PySem.W.Frag) (tl : TE) : TI := fun σ H R => tl σ H fun x H1 => ∃ a xs, x = .ref a ∧ ((SqL K H1 a xs ∧ R (Itl K a) H1) ∨ (SqT K H1 a xs ∧ R (Itt K a) H1))
theorem pi_seq {X : Cx} {tg l : Expr} {tl : TE} (hl : PE X l tl) : PI X tg l (iSeq X.K tl) := by
  refine ⟨fun pins s σ H R I h => ?_⟩
  refine thn (hl.run pins s σ H _ I h) fun v s1 ⟨x, H1, I1, r1, q1⟩ => ?_
  obtain ⟨a, xs, e, q1⟩ := q1
  subst e
  cases r1
  rcases q1 with ⟨hq, q⟩ | ⟨hq, q⟩
  · obtain ⟨its, rv, p, hz⟩ := I1.list hq
    refine wpAny_pyIter_list p.isList ?_
    refine ⟨s1.heap.objs.size, [s1.heap.objs.size], _, _, H1, rfl, I1.kept (t' := s1.toks) fun b o e => Heap.get?_push_of_some _ e, turn_list a _, ⟨_, Heap.get?_push_size _ rfl, rfl, rfl⟩, fun b hb => ?_, q⟩
    have e : b = s1.heap.objs.size := by simpa using hb
    subst e
    exact I1.fpOk (Nat.le_refl _) (I1.hok.fresh (Nat.le_refl _))
  · obtain ⟨its, rv, p, hz⟩ := I1.tuple hq
    refine wpAny_pyIter_tuple (show s1.heap.IsTuple a its.toArray from p) ?_
    refine ⟨s1.heap.objs.size, [s1.heap.objs.size], _, _, H1, rfl, I1.kept (t' := s1.toks) fun b o e => Heap.get?_push_of_some _ e, turn_tuple a _, ⟨_, Heap.get?_push_size _ rfl, rfl, rfl⟩, fun b hb => ?_, q⟩
    have e : b = s1.heap.objs.size := by simpa using hb
    subst e
    exact I1.fpOk (Nat.le_refl _) (I1.hok.fresh (Nat.le_refl _))
section
variable {P : Program} {w : World} {K : PySem.W.Frag} {mg : Str → Option Value} {base : Heap} {C : Addr}
theorem ok_first_fault {f : Addr} {fd : FuncData} (F : Fun K "first_fault" "first_fault" s_first_fault f fd) (B : B0 mg) : FnOk P w K mg base CX0 1 f fd ["values", "are_right"] spFF := by
  refine F.ok scs_first_fault (fun vs H Q E h => ?_) (fun cdv A' outer s H vs Q E hr h => ?_)
  · obtain ⟨e, r, xs, qs, rfl, _⟩ := h
    rfl
  · obtain ⟨e, r, xs, qs, rfl, hS, hO, h00, hR, q⟩ := h
    refine ⟨_, (pss_cons (ps_for PassesOwn.never rfl (pi_enumA (by rfl) B.enumerate (pa_cons (pv 0) pa_nil)) (pg_tup rfl (pgs_cons (pg_name (i := 2) scs_first_fault.nd rfl (Or.inl rfl)) (pgs_cons (pg_name (i := 3) scs_first_fault.nd rfl (Or.inl rfl)) pgs_nil)))
        (pss_one (ps_if (PW.pt (pw_or (pt_not (pt_val (pe_ix ix_list (pv 1) (pv 2) (fun _ _ => rfl)))) (pw_or1 (PW.pt (pw_and (pt_cmpR op_gt (pv 2) pe_int (nomark _)) (pw_and1 (pt_cmpR (op_leT (Nat.lt_of_le_of_lt (Nat.le_add_right _ 64) hr.units)) (pv 3) (pe_ix ix_seq (pv 0) (pe_op op_sub (pv 2) pe_int) (fun _ _ => rfl)) (nomark _))))))))
          (pss_one (ps_ret (pv 2))) pss_nil)))
      (pss_one (ps_ret pe_non))), ?_⟩
    have st0 : FFInv H e r qs 0 [some (.ref e), some (.ref r), none, none] H := ⟨Same.refl _, none, none, (0, 0), rfl, .inl ⟨rfl, rfl⟩, by rw [List.drop_zero]; cases fweL qs (0, 0) <;> rfl⟩
    have hln := hO.1
    have fin : ∀ σ H', FFInv H e r qs xs.length σ H' → Q .non H' := fun σ H' ⟨s1, y2, y3, q0, _, _, hT⟩ => by
      rw [hln, List.drop_of_length_le (Nat.le_refl _)] at hT
      have := q H' s1
      rw [hT] at this
      exact this
    have step : ∀ (i : Nat) (x2 : V) (q0 : Int × Int) (H4 : Hp), Same H H4 → ((i = 0 ∧ q0 = (0, 0)) ∨ (0 < i ∧ qs[i - 1]? = some (some q0))) → fweL qs (0, 0) = (fweL (qs.drop i) q0).map (· + i) → xs[i]? = some x2 →
        (qs[i]? = some none → ∀ H', Same H H' → Q (.int (i : Int)) H') ∧
        (∀ q1, qs[i]? = some (some q1) → PrAt H4 x2 q1 ∧ (lexlt q0 q1 → fweL qs (0, 0) = (fweL (qs.drop (i + 1)) q1).map (· + (i + 1))) ∧ (¬ lexlt q0 q1 → ∀ H', Same H H' → Q (.int (i : Int)) H')) := fun i x2 q0 H4 s4 hp hT hx => by
      have back : (fweL (qs.drop i) q0) = some 0 → ∀ H', Same H H' → Q (.int (i : Int)) H' := fun h H' s' => by
        have := q H' s'
        rw [hT, h] at this
        rw [show (atV ((some 0 : Option Nat).map (· + i))) = V.int (i : Int) from congrArg V.int (by show ((0 + i : Nat) : Int) = _; rw [Nat.zero_add])] at this
        exact this
      refine ⟨fun h => back ?_, fun q1 h => ⟨(hO.2 i x2 q1 hx h).kp (p := 0) (.of s4), fun hl => ?_, fun hl => back ?_⟩⟩
      · obtain ⟨h1, h2⟩ := List.getElem?_eq_some_iff.mp h
        rw [List.drop_eq_getElem_cons h1, h2]
        rfl
      · obtain ⟨h1, h2⟩ := List.getElem?_eq_some_iff.mp h
        rw [hT, List.drop_eq_getElem_cons h1, h2]
        show ((if lexlt q0 q1 then _ else _ : Option Nat)).map _ = _
        rw [if_pos hl, Option.map_map]
        congr 1
        funext k
        show k + 1 + i = k + (i + 1)
        omega
      · obtain ⟨h1, h2⟩ := List.getElem?_eq_some_iff.mp h
        rw [List.drop_eq_getElem_cons h1, h2]
        exact if_neg hl
    rcases hS with h | h
    all_goals
      first
        | refine ⟨.ref e, rfl, e, xs, rfl, .inl ⟨.inl (.inl h), for_it walk_enum (FFInv H e r qs) st0 (fun i σ H' _ k => .inl (.inl (k.1 _ _ h))) ?_ fin⟩⟩
        | refine ⟨.ref e, rfl, e, xs, rfl, .inr ⟨.inl (.inl h), for_it walk_enumT (FFInv H e r qs) st0 (fun i σ H' _ k => .inl (.inl (k.1 _ _ h))) ?_ fin⟩⟩
      rintro i x σ H3 H4 hi ⟨s3, y2, y3, q0, rfl, hq0, hT⟩ ⟨T, x1, x2, rfl, hTn, rfl, e1, e2⟩
      cases e1
      have s4 := s3.trans (same_new (o := .tup [.int (i : Nat), x2]) hTn)
      have hT4 : (upd H3 T (.tup [.int (i : Nat), x2])) T = some (.tup [.int (i : Nat), x2]) := upd_same
      generalize upd H3 T (.tup [.int (i : Nat), x2]) = H5 at s4 hT4 ⊢
      obtain ⟨k1, k2⟩ := step i x2 q0 H5 s4 hq0 hT e2
      have hiq : i < qs.length := by omega
      refine ⟨T, _, rfl, .inl (.inl hT4), rfl, _, _, rfl, _, _, rfl, rfl, ?_⟩
      have hRi : (qs.map fun o => V.bl o.isSome)[i]? = some (.bl (qs[i]'hiq).isSome) := by rw [List.getElem?_map, List.getElem?_eq_getElem hiq]; rfl
      refine ⟨_, rfl, _, rfl, r, _, (i : Int), _, rfl, rfl, SqL.of (s4 _ _ hR), atI_nat hRi, _, rfl, ?_⟩
      cases hqi : qs[i]'hiq with
      | none =>
        have hqi2 : qs[i]? = some none := by rw [List.getElem?_eq_getElem hiq, hqi]
        exact iteT ⟨_, rfl, k1 hqi2 H5 s4⟩
      | some q1 =>
        have hqi2 : qs[i]? = some (some q1) := by rw [List.getElem?_eq_getElem hiq, hqi]
        obtain ⟨⟨t1, rfl, ht1⟩, m1, m2⟩ := k2 q1 hqi2
        refine iteF ?_
        refine ⟨_, rfl, _, _, rfl, rfl, _, rfl, ?_⟩
        rcases hq0 with ⟨h1, rfl⟩ | ⟨h1, h2⟩
        · subst h1
          refine iteF (iteF ?_)
          exact ⟨s4, _, _, q1, rfl, .inr ⟨by omega, hqi2⟩, m1 (h00 q1 (List.mem_of_getElem? hqi2))⟩
        · refine (ite2 (fun c => ?_) (fun c => absurd (decide_eq_true (by omega)) c))
          have hx0 : xs[i - 1]? = some (xs[i - 1]'(by omega)) := List.getElem?_eq_getElem _
          obtain ⟨t0, et0, ht0⟩ := (hO.2 (i - 1) _ q0 hx0 h2).kp (p := 0) (.of s4)
          rw [et0] at hx0
          have hi0 : (i : Int) - 1 = ((i - 1 : Nat) : Int) := by omega
          have hA : atI xs ((i : Int) - 1) = some (.ref t0) := by rw [hi0]; exact atI_nat hx0
          have sq : SqL K H5 e xs ∨ SqT K H5 e xs := by first | exact .inl (.inl (.inl (s4 _ _ h))) | exact .inr (.inl (.inl (s4 _ _ h)))
          refine ⟨_, rfl, _, rfl, _, rfl, _, _, rfl, rfl, ?_⟩
          have go : (rIx K (.ref e) (.int ((i : Int) - 1)) H5 = rIx K (.ref e) (.int ((i : Int) - 1)) H5) := rfl
          by_cases hlt : lexlt q0 q1
          · first
              | refine .inl ⟨e, xs, _, _, rfl, rfl, .inl (.inl (s4 _ _ h)), hA, t1, t0, [q1.1, q1.2], [q0.1, q0.2], rfl, rfl, .inl (.inl ht1), .inl (.inl ht0), _, rfl, ?_⟩
              | refine .inr (.inl ⟨e, xs, _, _, rfl, rfl, .inl (.inl (s4 _ _ h)), hA, t1, t0, [q1.1, q1.2], [q0.1, q0.2], rfl, rfl, .inl (.inl ht1), .inl (.inl ht0), _, rfl, ?_⟩)
            rw [lex_le hlt]
            exact iteF ⟨s4, _, _, q1, rfl, .inr ⟨by omega, hqi2⟩, m1 hlt⟩
          · first
              | refine .inl ⟨e, xs, _, _, rfl, rfl, .inl (.inl (s4 _ _ h)), hA, t1, t0, [q1.1, q1.2], [q0.1, q0.2], rfl, rfl, .inl (.inl ht1), .inl (.inl ht0), _, rfl, ?_⟩
              | refine .inr (.inl ⟨e, xs, _, _, rfl, rfl, .inl (.inl (s4 _ _ h)), hA, t1, t0, [q1.1, q1.2], [q0.1, q0.2], rfl, rfl, .inl (.inl ht1), .inl (.inl ht0), _, rfl, ?_⟩)
            rw [lex_ge hlt]
            exact iteT ⟨_, rfl, m2 hlt H5 s4⟩
theorem ok_first_wrong_edge {f : Addr} {fd : FuncData} (F : Fun K "first_wrong_edge" "first_wrong_edge" s_first_wrong_edge f fd) (B : B0 mg) (c_is_sequence : Ca P w K mg base 1 "is_sequence" (spSequence C)) (c_is_edge : Ca P w K mg base 4 "is_edge" (spEdge C)) (c_first_fault : Ca P w K mg base 1 "first_fault" spFF) : FnOk P w K mg base CX0 5 f fd ["size", "edges"] spFwe := by
  refine F.ok scs_first_wrong_edge (fun vs H Q E h => ?_) (fun cdv A' outer s H vs Q E hr h => ?_)
  · obtain ⟨n, e, xs, ps, rfl, _⟩ := h
    rfl
  · obtain ⟨n, e, xs, ps, rfl, hS, hP, g, hl, q⟩ := h
    refine ⟨_, (pss_cons (ps_if (pt_not (pt_val (C8.pe_c c_is_sequence hr (by decide) (by rfl) (pa_cons (pv 1) pa_nil))))
        (pss_one (ps_ret pe_int)) pss_nil)
      (pss_one (ps_ret (C8.pe_c c_first_fault hr (by decide) (by rfl) (pa_cons (pv 1) (pa_cons (pe_lc (own := [("edge", 2)]) (g := (gName 2)) (tt := tYes) rfl scs_first_wrong_edge.nd (pi_seq (pv 1)) (blkOk_by (N := Ns_first_wrong_edge) (sc := defScope s_first_wrong_edge) (by decide +kernel)) (fun _ _ _ _ _ => (pg_name (i := 2) scs_first_wrong_edge.nd rfl (Or.inl rfl))) (fun _ _ _ _ _ => pts_nil) (fun _ _ _ _ _ => (C8.pe_c c_is_edge (by exact hr) (by decide) (by rfl) (pa_cons (pv 2) (pa_cons (pv 0) pa_nil))))) pa_nil)))))), ?_⟩
    have ht : ∃ t, tag C H (.ref e) = some t ∧ (decide (t = .lst) || decide (t = .tup)) = true := by
      rcases hS with h | h
      · exact ⟨.lst, tag_lst h, rfl⟩
      · exact ⟨.tup, tag_tup h, rfl⟩
    obtain ⟨t, ht, htt⟩ := ht
    refine ⟨_, rfl, .ref e, t, rfl, ht, fun H1 s1 => ⟨_, rfl, ?_⟩⟩
    rw [htt]
    refine iteF ?_
    have hlx : xs.length = ps.length := paired_len hP
    have lex0 : ∀ q ∈ ps, lexlt (0, 0) q := fun q hq => by
      have := g.bd q hq
      unfold lexlt
      show 0 < q.1 ∨ (0 = q.1 ∧ 0 < q.2)
      omega
    have fin : ∀ D H', Same H H' → H' D = some (.lst (xs.map fun _ => V.bl true)) → spFF [.ref e, .ref D] H' Q E := fun D H' s' hD => by
      have s'2 := s'
      refine ⟨e, D, xs, ps.map some, rfl, hS.same s', (hP.kp (p := 0) (.of s')).opt, fun q hq => ?_, ?_, fun H2 s2 => ?_⟩
      · obtain ⟨r, hr, e⟩ := List.mem_map.mp hq
        cases e
        exact lex0 _ hr
      · rw [hD, List.map_map]
        refine congrArg (fun l => some (HO.lst l)) ?_
        refine List.ext_getElem? fun i => ?_
        rw [List.getElem?_map, List.getElem?_map]
        by_cases hi : i < xs.length
        · rw [List.getElem?_eq_getElem hi, List.getElem?_eq_getElem (hlx ▸ hi)]; rfl
        · rw [List.getElem?_eq_none (by omega), List.getElem?_eq_none (by omega)]; rfl
      · rw [fweL_some g.pw lex0]
        exact q _ (s'.trans s2)
    have step : ∀ (D : Addr), H1 D = none → ∀ (i : Nat) (x : V) (H2 : Hp), (Same H1 H2 ∧ H2 D = some (.lst ((xs.map fun _ => V.bl true).take i))) → xs[i]? = some x →
        spEdge C [x, .int n] H2 (fun y H7 => ∃ acc, H7 D = some (.lst acc) ∧ acc.length < sizeLine ∧ (Same H1 (upd H7 D (.lst (acc ++ [y]))) ∧ (upd H7 D (.lst (acc ++ [y]))) D = some (.lst ((xs.map fun _ => V.bl true).take (i + 1))))) E := fun D hD i x H2 ⟨s2, hD2⟩ hx => by
      obtain ⟨q1, hq1, hx2⟩ := paired_get (hP.kp (p := 0) (.of (s1.trans s2))) hx
      have hbd := g.bd q1 (List.mem_of_getElem? hq1)
      refine ⟨x, n, q1.1, q1.2, rfl, hx2, hbd.1, hbd.2.1, hbd.2.2, fun H7 s7 => ⟨_, s7 _ _ hD2, ?_, ?_, ?_⟩⟩
      · rw [List.length_take, List.length_map]
        exact small1000 (by omega)
      · exact fun c o e => by rw [upd_ne (ne_of_none e hD)]; exact s7 _ _ (s2 _ _ e)
      · rw [upd_same, List.take_add_one, List.getElem?_map, hx]
        rfl
    rcases hS with h | h
    · refine ⟨_, rfl, .ref e, rfl, e, xs, rfl, .inl ⟨.inl (.inl (s1 _ _ h)), fun D hD => lc_it (walk_list (xs := xs)) (fun i H' => Same H1 H' ∧ H' D = some (.lst ((xs.map fun _ => V.bl true).take i))) ⟨same_new hD, upd_same⟩ (fun i H' _ h' => .inl (.inl (h'.1 _ _ (s1 _ _ h)))) ?_ ?_⟩⟩
      · rintro i x H2 H3 hi hp ⟨rfl, hx⟩
        refine ⟨rfl, tYes_i ?_⟩
        exact ⟨_, rfl, _, rfl, step D hD i x _ hp hx⟩
      · rintro H' ⟨s2, hD2⟩
        rw [List.take_of_length_le (by rw [List.length_map]; exact Nat.le_refl _)] at hD2
        exact fin D H' (s1.trans s2) hD2
    · refine ⟨_, rfl, .ref e, rfl, e, xs, rfl, .inr ⟨.inl (.inl (s1 _ _ h)), fun D hD => lc_it (walk_tup (xs := xs)) (fun i H' => Same H1 H' ∧ H' D = some (.lst ((xs.map fun _ => V.bl true).take i))) ⟨same_new hD, upd_same⟩ (fun i H' _ h' => .inl (.inl (h'.1 _ _ (s1 _ _ h)))) ?_ ?_⟩⟩
      · rintro i x H2 H3 hi hp ⟨rfl, hx⟩
        refine ⟨rfl, tYes_i ?_⟩
        exact ⟨_, rfl, _, rfl, step D hD i x _ hp hx⟩
      · rintro H' ⟨s2, hD2⟩
        rw [List.take_of_length_le (by rw [List.length_map]; exact Nat.le_refl _)] at hD2
        exact fin D H' (s1.trans s2) hD2
end
end Ev
namespace Ev
open PySem PySem.Spec PyProof.Rows L2
abbrev rTupOf (K : PySem.W.Frag) : List V → Hp → VK → Prop := fun xs H Q => ∃ p ys, xs = [.ref p] ∧ ((SqL K H p ys ∧ ∀ l, H l = none → Q (.ref l) (upd H l (.tup ys))) ∨ (SqT K H p ys ∧ Q (.ref p) H))
/-! ### rows that grow -/
/-- at D a list of new lists, the i-th holds f i -/
structure RowsF (H0 H : Hp) (D : Addr) (ls : List Addr) (f : Nat → List Int) : Prop where
  top : H D = some (.lst (ls.map V.ref))
  nd : ls.Nodup
  nD : D ∉ ls
  new : ∀ l ∈ ls, H0 l = none
  row : ∀ i l, ls[i]? = some l → H l = some (.lst ((f i).map V.int))
theorem RowsF.same {H0 H H' : Hp} {D : Addr} {ls : List Addr} {f : Nat → List Int} (s : Same H H') (r : RowsF H0 H D ls f) : RowsF H0 H' D ls f := ⟨s _ _ r.top, r.nd, r.nD, r.new, fun i l h => s _ _ (r.row i l h)⟩
theorem RowsF.put {H0 H : Hp} {D : Addr} {ls : List Addr} {f : Nat → List Int} (r : RowsF H0 H D ls f) {i0 : Nat} {l0 : Addr} (h0 : ls[i0]? = some l0) (ns : List Int) :
    RowsF H0 (upd H l0 (.lst (ns.map V.int))) D ls (fun i => if i = i0 then ns else f i) where
  top := by
    rw [upd_ne (a := l0) (b := D) (fun z => r.nD (by rw [z]; exact List.mem_of_getElem? h0))]
    exact r.top
  nd := r.nd
  nD := r.nD
  new := r.new
  row := fun i l h => by
    by_cases e : i = i0
    · subst e
      rw [h0] at h
      cases h
      rw [upd_same, if_pos rfl]
    · rw [if_neg e]
      have hne : l ≠ l0 := fun z => e (by
        subst z
        obtain ⟨a1, b1⟩ := List.getElem?_eq_some_iff.mp h
        obtain ⟨a2, b2⟩ := List.getElem?_eq_some_iff.mp h0
        rcases Nat.lt_trichotomy i i0 with q | q | q
        · exact absurd (b1.trans b2.symm) (List.pairwise_iff_getElem.mp r.nd i i0 a1 a2 q)
        · exact q
        · exact absurd (b2.trans b1.symm) (List.pairwise_iff_getElem.mp r.nd i0 i a2 a1 q))
      rw [upd_ne hne]
      exact r.row i l h
theorem RowsF.keep0 {H0 H : Hp} {D : Addr} {ls : List Addr} {f : Nat → List Int} (r : RowsF H0 H D ls f) (s : Same H0 H) {i0 : Nat} {l0 : Addr} (h0 : ls[i0]? = some l0) (o : HO) : Same H0 (upd H l0 o) := fun b u e => by
  rw [upd_ne (ne_of_none e (r.new l0 (List.mem_of_getElem? h0)))]
  exact s _ _ e
theorem nbr_snoc (ps : List (Int × Int)) (q : Int × Int) (i : Int) : nbr (ps ++ [q]) i = nbr ps i ++ ((if q.1 = i then [q.2] else []) ++ (if q.2 = i then [q.1] else [])) := by
  unfold nbr
  rw [List.flatMap_append, List.flatMap_singleton]
theorem nbr_len (i : Int) : ∀ ps : List (Int × Int), (nbr ps i).length ≤ 2 * ps.length
  | [] => Nat.le_refl _
  | q :: r => by
    have ih := nbr_len i r
    unfold nbr at ih ⊢
    rw [List.flatMap_cons, List.length_append, List.length_append, List.length_cons]
    have h1 : (if q.1 = i then [q.2] else []).length ≤ 1 := by split <;> simp
    have h2 : (if q.2 = i then [q.1] else []).length ≤ 1 := by split <;> simp
    omega
def spRows : Sp := fun vs H Q _ => ∃ (n : Nat) (e : Addr) (xs : List V) (ps : List (Int × Int)), vs = [.int (n : Int), .ref e] ∧ n ≤ 24 ∧ H e = some (.tup xs) ∧ PrsAt H xs ps ∧ ps.length ≤ 300 ∧ (∀ q ∈ ps, 0 ≤ q.1 ∧ q.1 < q.2 ∧ q.2 < n) ∧
  ∀ H' r rs, Same H H' → H' r = some (.tup rs) → RowsAt H' rs n ps → Q (.ref r) H'
section
variable {P : Program} {w : World} {K : PySem.W.Frag} {mg : Str → Option Value} {base : Heap} {C : Addr}
theorem ok_neighbor_rows {f : Addr} {fd : FuncData} (F : Fun K "neighbor_rows" "neighbor_rows" s_neighbor_rows f fd) (B : B0 mg) : FnOk P w K mg base CX0 1 f fd ["size", "edges"] spRows := by
  refine F.ok scs_neighbor_rows (fun vs H Q E h => ?_) (fun cdv A outer s H vs Q E hr h => ?_)
  · obtain ⟨n, e, xs, ps, rfl, _⟩ := h
    rfl
  · obtain ⟨n, e, xs, ps, rfl, hn, he, hP, hpl, hbd, q⟩ := h
    refine ⟨_, pss_cons (ps_setLc (i := 2) (own := [("_", 5)]) (g := gName 5) (tt := tYes) rfl scs_neighbor_rows.nd rfl rfl (sw_true rfl rfl rfl (by decide +kernel)) (pi_range1 rfl B.range (pa_cons (pv 0) pa_nil))
        (blkOk_by (N := Ns_neighbor_rows) (sc := defScope s_neighbor_rows) (by decide +kernel)) (fun _ _ _ _ _ => pg_name (i := 5) scs_neighbor_rows.nd rfl (Or.inl rfl)) (fun _ _ _ _ _ => pts_nil) (fun _ _ _ _ _ => pe_lst pa_nil))
      (pss_cons (ps_for PassesOwn.never rfl (pi_tup (pv 1)) (pg_tup rfl (pgs_cons (pg_name (i := 3) scs_neighbor_rows.nd rfl (Or.inl rfl)) (pgs_cons (pg_name (i := 4) scs_neighbor_rows.nd rfl (Or.inl rfl)) pgs_nil)))
        (pss_cons (ps_expr (pe_bm PySem.F.plainAttrs_list PySem.F.slot_list_append PySem.F.type_list_append mt_append (pe_ix ix_list (pv 2) (pv 3) (fun _ _ => rfl)) (pa_cons (pv 4) pa_nil)))
        (pss_one (ps_expr (pe_bm PySem.F.plainAttrs_list PySem.F.slot_list_append PySem.F.type_list_append mt_append (pe_ix ix_list (pv 2) (pv 4) (fun _ _ => rfl)) (pa_cons (pv 3) pa_nil))))))
      (pss_one (ps_ret (pe_callTy call_tuple_of (by rfl) B.tuple (by decide +kernel) (pa_cons (pe_lc (own := [("row", 6)]) (g := gName 6) (tt := tYes) (te := tCB (rTupOf K) (tCons (tVar 6) tNil)) rfl scs_neighbor_rows.nd (pi_list (pv 2))
        (blkOk_by (N := Ns_neighbor_rows) (sc := defScope s_neighbor_rows) (by decide +kernel)) (fun _ _ _ _ _ => pg_name (i := 6) scs_neighbor_rows.nd rfl (Or.inl rfl)) (fun _ _ _ _ _ => pts_nil)
        (fun _ _ _ _ _ => by exact pe_callTy call_tuple_of (by rfl) B.tuple (by decide +kernel) (pa_cons (pv 6) pa_nil))) pa_nil))))), ?_⟩
    refine ⟨_, rfl, (n : Int), rfl, by omega, by omega, fun D hD => lc_range (lo := 0) (n := ((n : Nat) : Int).toNat) (fun i H' => Same H H' ∧ ∃ ls, ls.length = i ∧ RowsF H H' D ls (fun _ => [])) ⟨same_new hD, [], rfl, upd_same, .nil, by simp, by simp, by simp⟩ ?_ ?_⟩
    · rintro i H2 hi ⟨s2, ls, hl, r⟩
      refine ⟨rfl, tYes_i ?_⟩
      refine ⟨Nat.zero_le _, fun l hl0 => ?_⟩
      have sl := same_new (o := .lst []) hl0
      refine ⟨ls.map V.ref, sl _ _ r.top, ?_, ?_, ls ++ [l], ?_, ?_⟩
      · rw [List.length_map, hl]; exact small1000 (by omega)
      · exact fun c o e => by rw [upd_ne (ne_of_none e hD)]; exact sl _ _ (s2 _ _ e)
      · rw [List.length_append, hl]; rfl
      · have hDl : D ≠ l := ne_of_none r.top hl0
        have hln : l ∉ ls := fun hm => by
          obtain ⟨j, hj⟩ := List.getElem?_of_mem hm
          have := r.row j l hj
          rw [hl0] at this
          cases this
        refine ⟨by rw [upd_same, List.map_append]; rfl, ?_, ?_, ?_, ?_⟩
        · rw [List.nodup_append]
          exact ⟨r.nd, by simp, fun a ha b hb => by
            rw [List.mem_singleton.mp hb]
            exact fun z => hln (z ▸ ha)⟩
        · intro hm
          rcases List.mem_append.mp hm with hm | hm
          · exact r.nD hm
          · exact hDl (List.mem_singleton.mp hm)
        · intro m hm
          rcases List.mem_append.mp hm with hm | hm
          · exact r.new m hm
          · rw [List.mem_singleton.mp hm]; exact s2.free hl0
        · intro j m hj
          have hm : m ∈ ls ++ [l] := List.mem_of_getElem? hj
          have hmD : m ≠ D := fun z => by
            rcases List.mem_append.mp hm with hm | hm
            · exact r.nD (z ▸ hm)
            · exact hDl (z.symm.trans (List.mem_singleton.mp hm))
          rw [upd_ne hmD]
          rcases List.mem_append.mp hm with hm | hm
          · obtain ⟨j2, hj2⟩ := List.getElem?_of_mem hm
            exact sl _ _ (r.row j2 m hj2)
          · rw [List.mem_singleton.mp hm]; exact upd_same
    · rintro H1 ⟨s1, ls, hl, r⟩
      rw [Int.toNat_natCast] at hl
      have he1 := s1 _ _ he
      refine ⟨.ref e, rfl, e, rfl, ⟨_, .inl (.inl he1)⟩, for_tup (K := K) (a := e) (xs := xs) (fun i σ H' => Same H H' ∧ RowsF H H' D ls (fun j => nbr (ps.take i) (j : Int)) ∧ ∃ y3 y4, σ = [some (.int (n : Int)), some (.ref e), some (.ref D), y3, y4, none, none]) ⟨s1, r, none, none, rfl⟩
        (fun i σ H' _ h => .inl (.inl (h.1 _ _ he))) ?_ ?_⟩
      · rintro i x σ H2 hx ⟨s2, r2, y3, y4, rfl⟩
        obtain ⟨p, hp, t, rfl, ht⟩ := paired_get (hP.kp (p := 0) (.of s2)) hx
        have hb := hbd p (List.mem_of_getElem? hp)
        obtain ⟨a, ea⟩ : ∃ a : Nat, p.1 = a := ⟨p.1.toNat, by omega⟩
        obtain ⟨b, eb⟩ : ∃ b : Nat, p.2 = b := ⟨p.2.toNat, by omega⟩
        have ha : a < ls.length := by omega
        have hb2 : b < ls.length := by omega
        have ga : (ls.map V.ref)[a]? = some (.ref ls[a]) := by rw [List.getElem?_map, List.getElem?_eq_getElem ha]; rfl
        have gb : (ls.map V.ref)[b]? = some (.ref ls[b]) := by rw [List.getElem?_map, List.getElem?_eq_getElem hb2]; rfl
        refine ⟨t, _, rfl, .inl (.inl ht), rfl, _, _, rfl, _, _, rfl, rfl, ?_⟩
        have h1 := r2.row a _ (List.getElem?_eq_getElem ha)
        have hsz : ∀ j : Nat, ((nbr (ps.take i) (j : Int)).map V.int).length < sizeLine := fun j => by
          rw [List.length_map]
          have := nbr_len (j : Int) (ps.take i)
          rw [List.length_take] at this
          exact small1000 (by omega)
        refine ⟨_, rfl, _, rfl, D, _, p.1, .ref ls[a], rfl, rfl, .inl (.inl r2.top), (by rw [ea]; exact atI_nat ga), .inl ⟨rfl, _, .inl (.inl h1)⟩, _, rfl, _, _, _, rfl, rfl, h1, hsz a, ?_⟩
        have r3 := r2.put (List.getElem?_eq_getElem ha) (nbr (ps.take i) (a : Int) ++ [p.2])
        have s3 := r2.keep0 s2 (List.getElem?_eq_getElem ha) (.lst ((nbr (ps.take i) (a : Int) ++ [p.2]).map V.int))
        have e3 : (nbr (ps.take i) (a : Int)).map V.int ++ [V.int p.2] = (nbr (ps.take i) (a : Int) ++ [p.2]).map V.int := by rw [List.map_append]; rfl
        rw [e3]
        generalize upd H2 ls[a] (.lst ((nbr (ps.take i) (a : Int) ++ [p.2]).map V.int)) = H3 at r3 s3 ⊢
        have hab : b ≠ a := by omega
        have h2 := r3.row b _ (List.getElem?_eq_getElem hb2)
        rw [if_neg hab] at h2
        refine ⟨_, rfl, _, rfl, D, _, p.2, .ref ls[b], rfl, rfl, .inl (.inl r3.top), (by rw [eb]; exact atI_nat gb), .inl ⟨rfl, _, .inl (.inl h2)⟩, _, rfl, _, _, _, rfl, rfl, h2, hsz b, ?_⟩
        have r4 := r3.put (List.getElem?_eq_getElem hb2) (nbr (ps.take i) (b : Int) ++ [p.1])
        have s4 := r3.keep0 s3 (List.getElem?_eq_getElem hb2) (.lst ((nbr (ps.take i) (b : Int) ++ [p.1]).map V.int))
        have e4 : (nbr (ps.take i) (b : Int)).map V.int ++ [V.int p.1] = (nbr (ps.take i) (b : Int) ++ [p.1]).map V.int := by rw [List.map_append]; rfl
        rw [e4]
        refine ⟨s4, ?_, _, _, rfl⟩
        have ef : (fun j : Nat => if j = b then nbr (ps.take i) (b : Int) ++ [p.1] else if j = a then nbr (ps.take i) (a : Int) ++ [p.2] else nbr (ps.take i) (j : Int)) = fun j : Nat => nbr (ps.take (i + 1)) (j : Int) := by
          funext j
          rw [List.take_add_one, hp]
          show _ = nbr (ps.take i ++ [p]) (j : Int)
          rw [nbr_snoc]
          by_cases h1 : j = b
          · subst h1
            rw [if_pos rfl, if_neg (by omega), if_pos (by omega)]
            rfl
          · rw [if_neg h1]
            by_cases h2 : j = a
            · subst h2
              rw [if_pos rfl, if_pos (by omega), if_neg (by omega)]
              rfl
            · rw [if_neg h2, if_neg (by omega), if_neg (by omega)]
              simp
        rw [← ef]
        exact r4
      · rintro σ H2 ⟨s2, r2, y3, y4, rfl⟩
        have ett : ps.take xs.length = ps := List.take_of_length_le (by rw [paired_len hP]; exact Nat.le_refl _)
        rw [ett] at r2
        refine ⟨_, rfl, D, rfl, ⟨_, .inl (.inl r2.top)⟩, fun D2 hD2 => lc_list (K := K) (a := D) (xs := ls.map V.ref) (fun i H' => Same H2 H' ∧ ∃ rs, H' D2 = some (.lst rs) ∧ rs.length = i ∧ ∀ (j : Nat) (x : V), rs[j]? = some x → ∃ t, x = .ref t ∧ H' t = some (.tup ((nbr ps (j : Int)).map V.int)))
          ⟨same_new hD2, [], upd_same, rfl, by simp⟩ (fun i H' _ h => .inl (.inl (h.1 _ _ r2.top))) ?_ ?_⟩
        · rintro i x H3 hx ⟨s3, rs, hD3, hl3, hr3⟩
          rw [List.getElem?_map] at hx
          cases el : ls[i]? with
          | none => rw [el] at hx; cases hx
          | some l =>
            rw [el] at hx
            cases hx
            refine ⟨rfl, tYes_i ?_⟩
            refine ⟨_, rfl, l, _, rfl, .inl ⟨.inl (.inl (s3 _ _ (r2.row i l el))), fun t ht => ?_⟩⟩
            have st := same_new (o := .tup ((nbr ps (i : Int)).map V.int)) ht
            have hi3 : i < ls.length := (List.getElem?_eq_some_iff.mp el).1
            refine ⟨rs, st _ _ hD3, small1000 (by omega), fun c o e => by rw [upd_ne (ne_of_none e hD2)]; exact st _ _ (s3 _ _ e), rs ++ [.ref t], upd_same, by rw [List.length_append, hl3]; rfl, fun j y hy => ?_⟩
            have kp : KP D2 H3 (upd (upd H3 t (.tup ((nbr ps (i : Int)).map V.int))) D2 (.lst (rs ++ [.ref t]))) := (KP.of st).trans (KP.put (st _ _ hD3))
            by_cases hj : j < rs.length
            · rw [List.getElem?_append_left hj] at hy
              obtain ⟨t2, e2, h2⟩ := hr3 j y hy
              exact ⟨t2, e2, kp.tup h2⟩
            · rw [List.getElem?_append_right (by omega)] at hy
              have ej : j - rs.length = 0 := by
                have := (List.getElem?_eq_some_iff.mp hy).1
                simp at this
                omega
              rw [ej] at hy
              cases hy
              have ej2 : j = i := by omega
              subst ej2
              exact ⟨t, rfl, (KP.put (p := D2) (st _ _ hD3)).tup upd_same⟩
        · rintro H3 ⟨s3, rs, hD3, hl3, hr3⟩
          rw [List.length_map] at hl3
          refine ⟨D2, rs, rfl, .inl ⟨.inl (.inl hD3), fun r hr => ?_⟩⟩
          have sr := same_new (o := .tup rs) hr
          exact q _ r rs (s2.trans (s3.trans sr)) upd_same ⟨hl3.trans hl, fun j x hx => let ⟨t, e1, e2⟩ := hr3 j x hx; ⟨t, e1, sr _ _ e2⟩⟩
end
end Ev
namespace Ev
open PySem PySem.Spec PyProof.Rows L2
structure GrA (K : PySem.W.Frag) (C : Addr) : Prop where
  s : NoAttr K C "size"
  e : NoAttr K C "edges"
  v : NoAttr K C "_vertices"
  r : NoAttr K C "_rows"
theorem prs_tup {H H' : Hp} (k : ∀ b zs, H b = some (.tup zs) → H' b = some (.tup zs)) : ∀ {xs : List V} {ps : List (Int × Int)}, PrsAt H xs ps → PrsAt H' xs ps
  | _, _, .nil => .nil
  | _, _, .cons ⟨t, e, h⟩ r => .cons ⟨t, e, k _ _ h⟩ (prs_tup k r)
theorem rg_upto (n : Nat) : rgV 0 (n : Int) = (upto n).map V.int := by
  unfold rgV upto
  rw [List.map_map, show ((n : Int) - 0).toNat = n by omega]
  refine List.map_congr_left fun i _ => ?_
  show V.int (0 + (i : Int)) = V.int (i : Int)
  rw [Int.zero_add]
def spInit (C : Addr) : Sp := fun vs H Q _ => ∃ (g dx e : Addr) (n : Nat) (xs : List V) (ps : List (Int × Int)), vs = [.ref g, .int (n : Int), .ref e] ∧ 1 ≤ n ∧ n ≤ 24 ∧ H g = some (.ins C dx []) ∧ SeqOf H e xs ∧ PrsAt H xs ps ∧ ps.length ≤ 300 ∧ Good n ps ∧
  ∀ H', (∀ b o, b ≠ g → H b = some o → H' b = some o) → GrAt C H' g n ps → Q .non H'
section
variable {P : Program} {w : World} {K : PySem.W.Frag} {mg : Str → Option Value} {base : Heap} {C : Addr}
theorem ok_init {f : Addr} {fd : FuncData} (F : Fun K "__init__" "Graph.__init__" s_Graph___init__ f fd) (G : GrT K C) (A : GrA K C) (B : B0 mg) (hM : ∃ u, mg "MOST_VERTICES" = some u ∧ RelV (.int 24) u)
    (cB : Ca P w K mg base 2 "is_between" (spBetween C)) (cF : Ca P w K mg base 5 "first_wrong_edge" spFwe) (cR : Ca P w K mg base 1 "neighbor_rows" spRows) : FnOk P w K mg base CX0 6 f fd ["self", "size", "edges"] (spInit C) := by
  refine F.ok scs_Graph___init__ (fun vs H Q E h => ?_) (fun cdv A' outer s H vs Q E hr h => ?_)
  · obtain ⟨g, dx, e, n, xs, ps, rfl, _⟩ := h
    rfl
  · obtain ⟨g, dx, e, n, xs, ps, rfl, h1, h24, hg, hS, hP, hpl, hG, q⟩ := h
    refine ⟨_, pss_cons (ps_if (pt_not (pt_val (C8.pe_c cB hr (by decide) (by rfl) (pa_cons (pv 1) (pa_cons pe_int (pa_cons (C8.pe_gc (by rfl) hM) pa_nil)))))) (pss_one ps_never) pss_nil)
      (pss_cons (ps_set (i := 3) scs_Graph___init__.nd rfl (Or.inl rfl) (C8.pe_c cF hr (by decide) (by rfl) (pa_cons (pv 1) (pa_cons (pv 2) pa_nil))))
      (pss_cons (ps_if (pt_cmpR op_notN (pv 3) pe_non (nomark _)) (pss_one ps_never) pss_nil)
      (pss_cons (ps_fld (pv 0) (pv 1) rfl)
      (C8.pss_cut (ps_fld (pv 0) (pe_callTy call_tuple_of (by rfl) B.tuple (by decide +kernel) (pa_cons (pv 2) pa_nil)) rfl)
      (pss_cons (ps_fld (pv 0) (pe_tupRg rfl (by rfl) B.tuple (prg_1 (by rfl) B.range (pv 1))) rfl)
      (pss_one (ps_fld (pv 0) (C8.pe_c cR hr (by decide) (by rfl) (pa_cons (pv 1) (pa_cons (pe_fld (pv 0) rfl) pa_nil))) rfl))))))), ?_⟩
    refine ⟨_, rfl, .int (n : Int), .int, 1, 24, rfl, rfl, _, rfl, ?_⟩
    have eb : betw (.int (n : Int)) 1 24 = true := by
      unfold betw
      simp only [Bool.and_eq_true, decide_eq_true_eq]
      omega
    rw [eb]
    refine iteF ?_
    refine ⟨_, rfl, _, rfl, (n : Int), e, xs, ps, rfl, hS, hP, hG, by omega, fun H1 s1 => ?_⟩
    refine ⟨_, rfl, rfl, _, rfl, iteF ?_⟩
    have hg1 := s1 _ _ hg
    have hS1 := hS.same s1
    have hP1 : PrsAt H1 xs ps := hP.kp (p := 0) (.of s1)
    refine ⟨_, rfl, _, rfl, g, C, dx, [], rfl, hg1, G.cl, A.s, (by show 0 < 1000; decide), ?_⟩
    have k1 : ∀ b o, b ≠ g → H b = some o → (upd H1 g (.ins C dx (putF "size" (.int (n : Int)) []))) b = some o := fun b o hb e => by rw [upd_ne hb]; exact s1 _ _ e
    have hg2 : (upd H1 g (.ins C dx (putF "size" (.int (n : Int)) []))) g = some (.ins C dx (putF "size" (.int (n : Int)) [])) := upd_same
    have hS2 : SeqOf (upd H1 g (.ins C dx (putF "size" (.int (n : Int)) []))) e xs := by
      rcases hS1 with h | h
      · exact .inl (by rw [upd_ne (ne_of h hg1 (fun z => nomatch z))]; exact h)
      · exact .inr (by rw [upd_ne (ne_of h hg1 (fun z => nomatch z))]; exact h)
    have hP2 : PrsAt (upd H1 g (.ins C dx (putF "size" (.int (n : Int)) []))) xs ps := prs_tup (fun b zs h => by rw [upd_ne (ne_of h hg1 (fun z => nomatch z))]; exact h) hP1
    generalize upd H1 g (.ins C dx (putF "size" (.int (n : Int)) [])) = H2 at k1 hg2 hS2 hP2 ⊢
    -- self.edges = tuple(edges)
    refine ⟨fun σ' H' => σ' = [some (.ref g), some (.int (n : Int)), some (.ref e), some .non] ∧ ∃ t, (∀ b o, b ≠ g → H b = some o → H' b = some o) ∧ H' g = some (.ins C dx (putF "edges" (.ref t) (putF "size" (.int (n : Int)) []))) ∧ H' t = some (.tup xs) ∧ PrsAt H' xs ps, ?_, ?_⟩
    · rcases hS2 with h | h
      · refine ⟨_, rfl, e, xs, rfl, .inl ⟨.inl (.inl h), fun t ht => ?_⟩⟩
        have st := same_new (o := .tup xs) ht
        refine ⟨_, rfl, g, C, dx, _, rfl, st _ _ hg2, G.cl, A.e, (by show 1 < 1000; decide), rfl, t, fun b o hb z => by rw [upd_ne hb]; exact st _ _ (k1 b o hb z), upd_same, ?_, ?_⟩
        · rw [upd_ne (fun z => ne_of_none hg2 ht z.symm)]; exact upd_same
        · exact prs_tup (fun b zs h => by rw [upd_ne (ne_of h hg2 (fun z => nomatch z))]; exact st _ _ h) hP2
      · refine ⟨_, rfl, e, xs, rfl, .inr ⟨.inl (.inl h), ?_⟩⟩
        refine ⟨_, rfl, g, C, dx, _, rfl, hg2, G.cl, A.e, (by show 1 < 1000; decide), rfl, e, fun b o hb z => by rw [upd_ne hb]; exact k1 b o hb z, upd_same, ?_, ?_⟩
        · rw [upd_ne (ne_of h hg2 (fun z => nomatch z))]; exact h
        · exact prs_tup (fun b zs h => by rw [upd_ne (ne_of h hg2 (fun z => nomatch z))]; exact h) hP2
    · rintro σ' H3 ⟨rfl, t, k3, hg3, ht3, hP3⟩
      refine ⟨_, rfl, (n : Int), rfl, RgOk.of_le (by omega) (by omega) (by omega) (by omega), fun vt hvt => ?_⟩
      rw [rg_upto]
      have sv := same_new (o := .tup ((upto n).map V.int)) hvt
      refine ⟨_, rfl, g, C, dx, _, rfl, sv _ _ hg3, G.cl, A.v, (by show 2 < 1000; decide), ?_⟩
      have hvg : vt ≠ g := fun z => ne_of_none hg3 hvt z.symm
      have htg : t ≠ g := ne_of ht3 hg3 (fun z => nomatch z)
      have hvt4 : (upd (upd H3 vt (.tup ((upto n).map V.int))) g (.ins C dx (putF "_vertices" (.ref vt) (putF "edges" (.ref t) (putF "size" (.int (n : Int)) []))))) vt = some (.tup ((upto n).map V.int)) := by rw [upd_ne hvg]; exact upd_same
      have ht4 : (upd (upd H3 vt (.tup ((upto n).map V.int))) g (.ins C dx (putF "_vertices" (.ref vt) (putF "edges" (.ref t) (putF "size" (.int (n : Int)) []))))) t = some (.tup xs) := by rw [upd_ne htg]; exact sv _ _ ht3
      have hg4 : (upd (upd H3 vt (.tup ((upto n).map V.int))) g (.ins C dx (putF "_vertices" (.ref vt) (putF "edges" (.ref t) (putF "size" (.int (n : Int)) []))))) g = some (.ins C dx (putF "_vertices" (.ref vt) (putF "edges" (.ref t) (putF "size" (.int (n : Int)) [])))) := upd_same
      have hP4 : PrsAt (upd (upd H3 vt (.tup ((upto n).map V.int))) g (.ins C dx (putF "_vertices" (.ref vt) (putF "edges" (.ref t) (putF "size" (.int (n : Int)) []))))) xs ps := prs_tup (fun b zs h => by rw [upd_ne (ne_of h hg3 (fun z => nomatch z))]; exact sv _ _ h) hP3
      have k4 : ∀ b o, b ≠ g → H b = some o → (upd (upd H3 vt (.tup ((upto n).map V.int))) g (.ins C dx (putF "_vertices" (.ref vt) (putF "edges" (.ref t) (putF "size" (.int (n : Int)) []))))) b = some o := fun b o hb z => by rw [upd_ne hb]; exact sv _ _ (k3 b o hb z)
      generalize upd (upd H3 vt (.tup ((upto n).map V.int))) g (.ins C dx (putF "_vertices" (.ref vt) (putF "edges" (.ref t) (putF "size" (.int (n : Int)) [])))) = H4 at hvt4 ht4 hg4 hP4 k4 ⊢
      refine ⟨_, rfl, _, rfl, g, C, dx, _, .ref t, rfl, hg4, G.cl, A.e, rfl, ?_⟩
      refine ⟨n, t, xs, ps, rfl, h24, ht4, hP4, hpl, hG.bd, fun H5 r rs s5 hr5 hR => ?_⟩
      have hg5 := s5 _ _ hg4
      refine ⟨_, rfl, g, C, dx, _, rfl, hg5, G.cl, A.r, (by show 3 < 1000; decide), ?_⟩
      refine q _ (fun b o hb z => by rw [upd_ne hb]; exact s5 _ _ (k4 b o hb z)) ⟨dx, t, vt, r, xs, rs, upd_same, ?_, ?_, ?_, ?_, hR.1, fun i x hx => ?_⟩
      · rw [upd_ne htg]; exact s5 _ _ ht4
      · exact prs_tup (fun b zs h => by rw [upd_ne (ne_of h hg5 (fun z => nomatch z))]; exact h) (hP4.kp (p := 0) (.of s5))
      · rw [upd_ne hvg]; exact s5 _ _ hvt4
      · rw [upd_ne (ne_of hr5 hg5 (fun z => nomatch z))]; exact hr5
      · obtain ⟨t2, e2, h2⟩ := hR.2 i x hx
        exact ⟨t2, e2, by rw [upd_ne (ne_of h2 hg5 (fun z => nomatch z))]; exact h2⟩
end
end Ev
namespace Ev
open PySem PySem.Spec PyProof.Rows L2
/-! ### subsets, as the law looks at them -/
def SubTo (xs : List V) (n : Int) (k : Nat) : Prop := ∀ i, i < k → ∃ m, xs[i]? = some (.int m) ∧ 0 ≤ m ∧ m ≤ n - 1 ∧ ∀ m', 0 < i → xs[i - 1]? = some (.int m') → m' < m
theorem betw_iff {v : V} {lo hi : Int} : betw v lo hi = true ↔ ∃ m, v = .int m ∧ lo ≤ m ∧ m ≤ hi := by
  constructor
  · intro h
    cases v with
    | int i =>
      have h' : (decide (lo ≤ i) && decide (i ≤ hi)) = true := h
      obtain ⟨a, b⟩ := Bool.and_eq_true_iff.mp h'
      exact ⟨i, rfl, of_decide_eq_true a, of_decide_eq_true b⟩
    | _ => cases h
  · rintro ⟨m, rfl, h1, h2⟩
    show (decide (lo ≤ m) && decide (m ≤ hi)) = true
    rw [decide_eq_true h1, decide_eq_true h2]
    rfl
theorem subL_to {xs : List V} {n : Int} (h : subL xs n = true) : SubTo xs n xs.length := by
  unfold subL at h
  obtain ⟨h1, h2⟩ := Bool.and_eq_true_iff.mp h
  have ex := all_ints h1
  generalize xs.filterMap intOf = ns at ex h2
  subst ex
  intro i hi
  rw [List.length_map] at hi
  have e : (ns.map V.int)[i]? = some (.int ns[i]) := by rw [List.getElem?_map, List.getElem?_eq_getElem hi]; rfl
  obtain ⟨m, em, b1, b2⟩ := betw_iff.mp (List.all_eq_true.mp h1 _ (List.mem_of_getElem? e))
  cases em
  refine ⟨_, e, b1, b2, fun m' h0 hm' => ?_⟩
  obtain ⟨m2, e2, e3⟩ := ints_get hm'
  cases e3
  have e4 : (ns.drop 1)[i - 1]? = some ns[i] := by
    rw [List.getElem?_drop, show 1 + (i - 1) = i by omega, List.getElem?_eq_getElem hi]
  have := List.all_eq_true.mp h2 _ (List.mem_of_getElem? (cmpL_get e2 e4))
  exact of_decide_eq_true this
theorem subL_of {xs : List V} {n : Int} (h : SubTo xs n xs.length) : subL xs n = true := by
  have h1 : xs.all (fun x => betw x 0 (n - 1)) = true := List.all_eq_true.mpr fun x hx => by
    obtain ⟨i, hi⟩ := List.getElem?_of_mem hx
    obtain ⟨m, e, b1, b2, _⟩ := h i (List.getElem?_eq_some_iff.mp hi).1
    rw [hi] at e
    exact betw_iff.mpr ⟨m, Option.some.inj e, b1, b2⟩
  unfold subL
  rw [h1, Bool.true_and]
  have ex := all_ints h1
  generalize xs.filterMap intOf = ns at ex
  subst ex
  refine List.all_eq_true.mpr fun c hc => ?_
  obtain ⟨j, hj⟩ := List.getElem?_of_mem hc
  have hl := (List.getElem?_eq_some_iff.mp hj).1
  rw [cmpL_len] at hl
  have g1 : ns[j]? = some ns[j] := List.getElem?_eq_getElem (by omega)
  have g2 : (ns.drop 1)[j]? = some (ns[j + 1]'(by omega)) := by
    rw [List.getElem?_drop, show 1 + j = j + 1 by omega, List.getElem?_eq_getElem (by omega)]
  rw [cmpL_get g1 g2] at hj
  obtain ⟨m, e, _, _, h4⟩ := h (j + 1) (by rw [List.length_map]; omega)
  have e2 : (ns.map V.int)[j + 1]? = some (.int (ns[j + 1]'(by omega))) := by rw [List.getElem?_map, List.getElem?_eq_getElem (by omega)]; rfl
  rw [e2] at e
  have em := V.int.inj (Option.some.inj e)
  have := h4 ns[j] (by omega) (by rw [Nat.add_sub_cancel, List.getElem?_map, g1]; rfl)
  rw [← em] at this
  cases hj
  exact decide_eq_true this
theorem sub_no {xs : List V} {n : Int} {k : Nat} {x : V} (hk : k < xs.length) (hx : xs[k]? = some x) (h : betw x 0 (n - 1) = false) : subL xs n = false := by
  cases e : subL xs n with
  | false => rfl
  | true =>
    obtain ⟨m, e2, b1, b2, _⟩ := subL_to e k hk
    rw [hx] at e2
    rw [betw_iff.mpr ⟨m, Option.some.inj e2, b1, b2⟩] at h
    cases h
theorem sub_no2 {xs : List V} {n : Int} {k : Nat} {m m' : Int} (hk : k < xs.length) (h0 : 0 < k) (hx : xs[k]? = some (.int m)) (hx' : xs[k - 1]? = some (.int m')) (h : ¬ m' < m) : subL xs n = false := by
  cases e : subL xs n with
  | false => rfl
  | true =>
    obtain ⟨m2, e2, b1, b2, h4⟩ := subL_to e k hk
    rw [hx] at e2
    cases e2
    exact absurd (h4 m' h0 hx') h
end Ev
namespace Ev
open PySem PySem.Spec PyProof.Rows L2
/-- every part of a value has its kind -/
def Kd (C : Addr) (H : Hp) (v : V) : Prop := (∃ g, tag C H v = some g) ∧ ∀ xs, tupOf H v = some xs → xs.length ≤ 1000 ∧ ∀ x ∈ xs, ∃ g, tag C H x = some g
theorem tupOf_same {H H' : Hp} {v : V} {xs : List V} (s : Same H H') (h : tupOf H v = some xs) : tupOf H' v = some xs := by
  cases v with
  | ref a =>
    unfold tupOf at h ⊢
    dsimp only at h ⊢
    cases e : H a with
    | none => rw [e] at h; cases h
    | some o => rw [e] at h; rw [s _ _ e]; exact h
  | _ => cases h
theorem tupOf_at {H : Hp} {v : V} {xs : List V} (h : tupOf H v = some xs) : ∃ a, v = .ref a ∧ H a = some (.tup xs) := by
  cases v with
  | ref a =>
    unfold tupOf at h
    dsimp only at h
    cases e : H a with
    | none => rw [e] at h; cases h
    | some o =>
      rw [e] at h
      cases o <;> first | (cases h; exact ⟨a, rfl, e⟩) | cases h
  | _ => cases h
end Ev
namespace Ev
open PySem PySem.Spec PyProof.Rows L2
def spMixed : Sp := fun vs H Q _ => ∃ c t : Int, vs = [.int c, .int t] ∧ ∀ r : Int, Q (.int r) H
def spDraw : Sp := fun vs H Q _ => ∃ (p l : Addr) (m : Int), vs = [.ref p, .int m] ∧ Pool p l H ∧ 0 < m ∧ m < 1073741824 ∧ ∀ H' r, Pool p l H' → KP p H H' → 0 ≤ r → r < m → Q (.int r) H'
section
variable {P : Program} {w : World} {K : PySem.W.Frag} {mg : Str → Option Value} {base : Heap} {C : Addr}
theorem ok_law_mixed {f : Addr} {fd : FuncData} (F : Fun K "_law_mixed" "_law_mixed" s__law_mixed f fd) (B : B0 mg) : FnOk P w K mg base CX0 1 f fd ["cell", "turn"] spMixed := by
  refine F.ok scs__law_mixed (fun vs H Q E h => ?_) (fun cdv A outer s H vs Q E hr h => ?_)
  · obtain ⟨c, t, rfl, _⟩ := h
    rfl
  · obtain ⟨c, t, rfl, q⟩ := h
    refine ⟨_, pss_cons (ps_set (i := 2) scs__law_mixed.nd rfl (Or.inl rfl) (pe_op op_mod (pe_callTy call_int1 (by rfl) B.int (by decide +kernel) (pa_cons (pe_op op_add (pe_op op_add (pe_op op_mul (pv 0) pe_int) (pe_op op_mul (pv 1) pe_int)) pe_int) pa_nil)) pe_int))
      (pss_one (ps_ret (pe_op op_mod (pe_callTy call_int1 (by rfl) B.int (by decide +kernel) (pa_cons (pe_op op_add (pe_op op_add (pe_op op_mul (pv 2) pe_int) (pe_op op_fdiv (pv 2) pe_int)) (pe_op op_mul (pv 1) pe_int)) pa_nil)) pe_int))), ?_⟩
    refine ⟨_, rfl, _, _, rfl, rfl, .inr (by decide), _, rfl, _, _, rfl, rfl, .inr (by decide), _, _, rfl, rfl, _, _, rfl, rfl, .inl ⟨_, rfl, _, _, rfl, rfl, (by show (0 : Int) < 2147483647; decide), ?_⟩⟩
    refine ⟨_, rfl, _, _, rfl, rfl, .inr (by decide), _, rfl, _, _, rfl, rfl, (by show CDiv _ 65536; exact ⟨by decide, by decide⟩), _, _, rfl, rfl, _, rfl, _, _, rfl, rfl, .inr (by decide), _, _, rfl, rfl, .inl ⟨_, rfl, _, _, rfl, rfl, (by show (0 : Int) < 998244353; decide), q _⟩⟩
theorem ok_law_draw {f : Addr} {fd : FuncData} (F : Fun K "_law_draw" "_law_draw" s__law_draw f fd) (B : B0 mg) (cM : Ca P w K mg base 1 "_law_mixed" spMixed) : FnOk P w K mg base CX0 2 f fd ["pool", "limit"] spDraw := by
  refine F.ok scs__law_draw (fun vs H Q E h => ?_) (fun cdv A outer s H vs Q E hr h => ?_)
  · obtain ⟨p, l, m, rfl, _⟩ := h
    rfl
  · obtain ⟨p, l, m, rfl, ⟨i, j, t, ns, hp, hlp, hl, h63⟩, m0, m1, q⟩ := h
    refine ⟨_, pss_cons (ps_asg (pe_op op_add (pe_ix ix_list (pv 0) pe_int (fun _ _ => rfl)) pe_int) (pg_sub (pv 0) pe_int set_list))
      (C8.pss_cut (ps_if (PW.pt (pw_and (pt_cmpR op_eq (pe_ix ix_list (pv 0) pe_int (fun _ _ => rfl)) pe_int (nomark _)) (pw_and1 (pt_cmpR op_lt (pe_ix ix_list (pv 0) pe_int (fun _ _ => rfl)) (pe_callB call_len_seq (by rfl) B.len (by decide +kernel) (pa_cons (pe_ix ix_list (pv 0) pe_int (fun _ _ => rfl)) pa_nil)) (nomark _)))))
        (pss_cons (ps_set (i := 2) scs__law_draw.nd rfl (Or.inl rfl) (pe_callB call_abs (by rfl) B.abs (by decide +kernel) (pa_cons (pe_ix ix_list (pe_ix ix_list (pv 0) pe_int (fun _ _ => rfl)) (pe_ix ix_list (pv 0) pe_int (fun _ _ => rfl)) (fun _ _ => rfl)) pa_nil)))
        (pss_cons (ps_asg (pe_op op_add (pe_ix ix_list (pv 0) pe_int (fun _ _ => rfl)) pe_int) (pg_sub (pv 0) pe_int set_list))
        (pss_cons (ps_if (pt_cmpR op_lt (pv 2) (pe_op op_pow pe_int pe_int) (nomark _)) (pss_one (ps_ret (pe_op op_mod (pe_callTy call_int1 (by rfl) B.int (by decide +kernel) (pa_cons (C8.pe_c cM hr (by decide) (by rfl) (pa_cons (pv 2) (pa_cons (pe_ix ix_list (pv 0) pe_int (fun _ _ => rfl)) pa_nil))) pa_nil)) (pv 1)))) pss_nil)
        (pss_one (ps_asg (pv 2) (pg_sub (pv 0) pe_int set_list)))))) pss_nil)
      (pss_cons (ps_if (pt_cmpR op_gt (pe_ix ix_list (pv 0) pe_int (fun _ _ => rfl)) pe_int (nomark _))
        (pss_cons (ps_set (i := 3) scs__law_draw.nd rfl (Or.inl rfl) (pe_op op_mod (pe_callTy call_int1 (by rfl) B.int (by decide +kernel) (pa_cons (pe_ix ix_list (pv 0) pe_int (fun _ _ => rfl)) pa_nil)) (pv 1)))
        (pss_cons (ps_asg (pe_op op_fdiv (pe_ix ix_list (pv 0) pe_int (fun _ _ => rfl)) (pv 1)) (pg_sub (pv 0) pe_int set_list))
        (pss_one (ps_ret (pv 3))))) pss_nil)
      (pss_cons (ps_set (i := 2) scs__law_draw.nd rfl (Or.inl rfl) pe_int)
      (C8.pss_cut (ps_if (pt_cmpR op_gt (pe_callB call_len_seq (by rfl) B.len (by decide +kernel) (pa_cons (pe_ix ix_list (pv 0) pe_int (fun _ _ => rfl)) pa_nil)) pe_int (nomark _))
        (pss_one (ps_set (i := 2) scs__law_draw.nd rfl (Or.inl rfl) (pe_callB call_abs (by rfl) B.abs (by decide +kernel) (pa_cons (pe_ix ix_list (pe_ix ix_list (pv 0) pe_int (fun _ _ => rfl)) (pe_op op_mod (pe_callTy call_int1 (by rfl) B.int (by decide +kernel) (pa_cons (pe_ix ix_list (pv 0) pe_int (fun _ _ => rfl)) pa_nil)) (pe_callB call_len_seq (by rfl) B.len (by decide +kernel) (pa_cons (pe_ix ix_list (pv 0) pe_int (fun _ _ => rfl)) pa_nil))) (fun _ _ => rfl)) pa_nil)))) pss_nil)
      (pss_one (ps_ret (pe_op op_mod (pe_callTy call_int1 (by rfl) B.int (by decide +kernel) (pa_cons (C8.pe_c cM hr (by decide) (by rfl) (pa_cons (pv 2) (pa_cons (pe_ix ix_list (pv 0) pe_int (fun _ _ => rfl)) pa_nil))) pa_nil)) (pv 1)))))))), ?_⟩
    -- pool[3] = pool[3] + 1
    refine ⟨_, rfl, p, _, 3, _, rfl, rfl, SqL.of hp, atI_nat (j := 3) rfl, _, _, rfl, rfl, _, rfl, p, _, 3, 3, rfl, rfl, hp, rfl, ?_⟩
    have k1 := KP.put (ws := [.ref l, .int i, .int j, .int (t + 1)]) hp
    have hl1 : (upd H p (.lst [.ref l, .int i, .int j, .int (t + 1)])) l = some (.lst (ns.map V.int)) := by rw [upd_ne hlp]; exact hl
    have hp1 : (upd H p (.lst [.ref l, .int i, .int j, .int (t + 1)])) p = some (.lst [.ref l, .int i, .int j, .int (t + 1)]) := upd_same
    refine ⟨fun σ' H' => ∃ (y2 : Option V) (i' : Nat) (j' t' : Int), σ' = [some (.ref p), some (.int m), y2, none] ∧ H' p = some (.lst [.ref l, .int i', .int j', .int t']) ∧ H' l = some (.lst (ns.map V.int)) ∧ KP p H H', ?_, ?_⟩
    · -- if pool[2] == 0 and pool[1] < len(pool[0])
      refine ⟨_, rfl, p, _, 2, _, rfl, rfl, SqL.of hp1, atI_nat (j := 2) rfl, rfl, _, rfl, ?_⟩
      refine ite2 (fun _ => ?_) (fun _ => ?_)
      · refine ⟨_, rfl, p, _, 1, _, rfl, rfl, SqL.of hp1, atI_nat (j := 1) rfl, _, rfl, p, _, 0, _, rfl, rfl, SqL.of hp1, atI_nat (j := 0) rfl, l, _, rfl, .inl (SqL.of hl1), _, _, rfl, rfl, _, rfl, ?_⟩
        refine ite2 (fun hi => ?_) (fun _ => ?_)
        · have hi2 : i < ns.length := by
            have := of_decide_eq_true hi
            rw [List.length_map] at this
            omega
          have gi : (ns.map V.int)[i]? = some (.int ns[i]) := by rw [List.getElem?_map, List.getElem?_eq_getElem hi2]; rfl
          refine ⟨_, rfl, p, _, 0, _, rfl, rfl, SqL.of hp1, atI_nat (j := 0) rfl, _, rfl, p, _, 1, _, rfl, rfl, SqL.of hp1, atI_nat (j := 1) rfl, l, _, _, _, rfl, rfl, SqL.of hl1, atI_nat gi, _, rfl, ?_⟩
          refine ⟨_, rfl, p, _, 1, _, rfl, rfl, SqL.of hp1, atI_nat (j := 1) rfl, _, _, rfl, rfl, _, rfl, p, _, 1, 1, rfl, rfl, hp1, rfl, ?_⟩
          have k2 := k1.trans (KP.put (ws := [.ref l, .int ((i + 1 : Nat) : Int), .int j, .int (t + 1)]) hp1)
          have hl2 : (upd (upd H p (.lst [.ref l, .int i, .int j, .int (t + 1)])) p (.lst [.ref l, .int ((i + 1 : Nat) : Int), .int j, .int (t + 1)])) l = some (.lst (ns.map V.int)) := by rw [upd_ne hlp]; exact hl1
          have hp2 : (upd (upd H p (.lst [.ref l, .int i, .int j, .int (t + 1)])) p (.lst [.ref l, .int ((i + 1 : Nat) : Int), .int j, .int (t + 1)])) p = some (.lst [.ref l, .int ((i + 1 : Nat) : Int), .int j, .int (t + 1)]) := upd_same
          refine ⟨_, rfl, _, _, rfl, rfl, ⟨by decide, by decide, by decide⟩, _, _, rfl, rfl, _, rfl, ?_⟩
          refine ite2 (fun _ => ?_) (fun _ => ?_)
          · refine ⟨_, rfl, _, rfl, p, _, 3, _, rfl, rfl, SqL.of hp2, atI_nat (j := 3) rfl, _, _, rfl, fun r => .inl ⟨_, rfl, _, rfl, _, _, rfl, rfl, m0, q _ _ ⟨i + 1, j, t + 1, ns, hp2, hlp, hl2, h63⟩ k2 (Int.emod_nonneg _ (by omega)) (Int.emod_lt_of_pos _ m0)⟩⟩
          · refine ⟨_, rfl, _, rfl, p, _, 2, 2, rfl, rfl, hp2, rfl, ?_⟩
            exact ⟨_, i + 1, _, t + 1, rfl, upd_same, by rw [upd_ne hlp]; exact hl2, k2.trans (KP.put hp2)⟩
        · exact ⟨none, i, j, t + 1, rfl, hp1, hl1, k1⟩
      · refine iteF ⟨none, i, j, t + 1, rfl, hp1, hl1, k1⟩
    · rintro σ' H' ⟨y2, i', j', t', rfl, hp2, hl2, k2⟩
      -- if pool[2] > 0
      refine ⟨_, rfl, p, _, 2, _, rfl, rfl, SqL.of hp2, atI_nat (j := 2) rfl, _, _, rfl, rfl, _, rfl, ?_⟩
      refine ite2 (fun _ => ?_) (fun _ => ?_)
      · refine ⟨_, rfl, p, _, 2, _, rfl, rfl, SqL.of hp2, atI_nat (j := 2) rfl, .inl ⟨_, rfl, _, rfl, _, _, rfl, rfl, m0, ?_⟩⟩
        refine ⟨_, rfl, p, _, 2, _, rfl, rfl, SqL.of hp2, atI_nat (j := 2) rfl, _, rfl, _, _, rfl, rfl, ⟨m0, m1⟩, _, rfl, p, _, 2, 2, rfl, rfl, hp2, rfl, ?_⟩
        exact ⟨_, rfl, q _ _ ⟨i', _, t', ns, upd_same, hlp, by rw [upd_ne hlp]; exact hl2, h63⟩ (k2.trans (KP.put hp2)) (Int.emod_nonneg _ (by omega)) (Int.emod_lt_of_pos _ m0)⟩
      · refine ⟨fun σ' H'' => ∃ c : Int, σ' = [some (.ref p), some (.int m), some (.int c), none] ∧ H'' = H', ?_, ?_⟩
        · refine ⟨_, rfl, p, _, 0, _, rfl, rfl, SqL.of hp2, atI_nat (j := 0) rfl, l, _, rfl, .inl (SqL.of hl2), _, _, rfl, rfl, _, rfl, ?_⟩
          refine ite2 (fun hn => ?_) (fun _ => ⟨0, rfl, rfl⟩)
          have hn2 : 0 < ns.length := by
            have := of_decide_eq_true hn
            rw [List.length_map] at this
            omega
          have hm : t' % ((ns.map V.int).length : Int) = (((t' % (ns.length : Int)).toNat : Nat) : Int) := by
            rw [List.length_map, Int.toNat_of_nonneg (Int.emod_nonneg _ (by omega))]
          have hlt : (t' % (ns.length : Int)).toNat < ns.length := by
            have := Int.emod_lt_of_pos t' (show (0 : Int) < ns.length by omega)
            have := Int.emod_nonneg t' (show (ns.length : Int) ≠ 0 by omega)
            omega
          have gi : (ns.map V.int)[(t' % (ns.length : Int)).toNat]? = some (.int ns[(t' % (ns.length : Int)).toNat]) := by rw [List.getElem?_map, List.getElem?_eq_getElem hlt]; rfl
          refine ⟨_, rfl, p, _, 0, _, rfl, rfl, SqL.of hp2, atI_nat (j := 0) rfl, _, rfl, p, _, 3, _, rfl, rfl, SqL.of hp2, atI_nat (j := 3) rfl, .inl ⟨_, rfl, _, rfl, p, _, 0, _, rfl, rfl, SqL.of hp2, atI_nat (j := 0) rfl, l, _, rfl, .inl (SqL.of hl2), _, _, rfl, rfl,
            (by show (0 : Int) < ((ns.map V.int).length : Nat); rw [List.length_map]; omega), l, _, _, _, rfl, rfl, SqL.of hl2, (by rw [hm]; exact atI_nat gi), _, rfl, ⟨_, rfl, rfl⟩⟩⟩
        · rintro σ' H'' ⟨c, rfl, rfl⟩
          refine ⟨_, rfl, _, rfl, p, _, 3, _, rfl, rfl, SqL.of hp2, atI_nat (j := 3) rfl, _, _, rfl, fun r => .inl ⟨_, rfl, _, rfl, _, _, rfl, rfl, m0, q _ _ ⟨i', j', t', ns, hp2, hlp, hl2, h63⟩ k2 (Int.emod_nonneg _ (by omega)) (Int.emod_lt_of_pos _ m0)⟩⟩
end
end Ev
namespace Ev
open PySem PySem.Spec PyProof.Rows L2
/-- every address in S is tracked -/
def Trk (S : Addr → Prop) (H : Hp) : Prop := ∀ s, S s → ∃ o, H s = some o
def spThing (C : Addr) (n : Nat) : Sp := fun vs H Q _ => ∃ (p l : Addr) (S : Addr → Prop), vs = [.ref p, .int (n : Int)] ∧ Pool p l H ∧ S p ∧ Trk S H ∧ ∀ H' v, Pool p l H' → KP p H H' → Alk C S n H' v v → Q v H'
theorem good01 {n : Int} (h : 2 ≤ n) : Good n [(0, 1)] := ⟨fun q hq => by
  rw [List.mem_singleton.mp hq]
  show (0 : Int) ≤ 0 ∧ (0 : Int) < 1 ∧ 1 < n
  omega, List.pairwise_singleton _ _⟩
theorem Trk.kp {p : Addr} {S : Addr → Prop} {H H' : Hp} (t : Trk S H) (k : KP p H H') (hp : ∃ o, H' p = some o) : Trk S H' := fun s hs => by
  by_cases e : s = p
  · rw [e]; exact hp
  · obtain ⟨o, ho⟩ := t s hs
    by_cases hl : ∃ zs, o = .lst zs
    · obtain ⟨zs, rfl⟩ := hl
      exact ⟨_, k.ls _ _ e ho⟩
    · exact ⟨o, k.nl _ _ ho fun zs z => hl ⟨zs, z⟩⟩
theorem Trk.ne {S : Addr → Prop} {H : Hp} {a : Addr} (t : Trk S H) (h : H a = none) : ¬ S a := fun z => by
  obtain ⟨o, ho⟩ := t a z
  rw [h] at ho
  cases ho
theorem alk_scal {C : Addr} {S : Addr → Prop} {n : Nat} {H : Hp} {v : V} (h : sc v = true) (hb : bnd v) : Alk C S n H v v := Leaf.alk (.inl ⟨rfl, h, hb⟩)
theorem alk_int {C : Addr} {S : Addr → Prop} {n : Nat} {H : Hp} {i : Int} (h1 : -1298074214633706907132624082305024 < i) (h2 : i < 1298074214633706907132624082305024) : Alk C S n H (.int i) (.int i) := alk_scal rfl ⟨h1, h2⟩
theorem ten30 : (10 : Int) ^ (30 : Int).toNat = 1000000000000000000000000000000 := by decide +kernel
section
variable {P : Program} {w : World} {K : PySem.W.Frag} {mg : Str → Option Value} {base : Heap} {C : Addr}
theorem ok_law_thing0 {f : Addr} {fd : FuncData} (F : Fun K "_law_thing" "_law_thing" s__law_thing f fd) (B : B0 mg) (cD : Ca P w K mg base 2 "_law_draw" spDraw) (cG : C8.Mak P w K mg base 6 "Graph" C (spInit C) []) (n : Nat)
    (rec_ : n = 0 ∨ ∃ m, n = m + 1 ∧ Ca P w K mg base (8 + m) "_law_thing" (spThing C m)) : FnOk P w K mg base CX0 (8 + n) f fd ["pool", "deep"] (spThing C n) := by
  have e8 : 8 + n = (7 + n) + 1 := by omega
  rw [e8]
  refine F.ok scs__law_thing (fun vs H Q E h => ?_) (fun cdv A outer s H vs Q E hr h => ?_)
  · obtain ⟨p, l, S, rfl, _⟩ := h
    rfl
  · obtain ⟨p, l, S, rfl, hp, hSp, hT, q⟩ := h
    rcases rec_ with rfl | ⟨m, rfl, cR⟩
    · refine ⟨_, pss_cons (ps_set (i := 2) scs__law_thing.nd rfl (Or.inl rfl) (C8.pe_c cD hr (by omega) (by rfl) (pa_cons (pv 0) (pa_cons pe_int pa_nil))))
        (pss_cons (ps_if (pt_cmpR op_lt (pv 2) pe_int (nomark _)) (pss_one (ps_ret (pe_ix ix_list (pe_lst (pa_cons pe_non (pa_cons pe_bl (pa_cons pe_bl pa_nil)))) (pv 2) (fun _ _ => rfl)))) pss_nil)
        (pss_cons (ps_if (pt_cmpR op_eq (pv 2) pe_int (nomark _)) (pss_one (ps_ret (pe_ix ix_list (pe_lst (pa_cons pe_str (pa_cons pe_str (pa_cons pe_str (pa_cons pe_str pa_nil))))) (C8.pe_c cD hr (by omega) (by rfl) (pa_cons (pv 0) (pa_cons pe_int pa_nil))) (fun _ _ => rfl)))) pss_nil)
        (pss_cons (ps_if (pt_cmpR op_eq (pv 2) pe_int (nomark _)) (pss_one (ps_ret (pe_op op_sub (pe_un un_neg pe_int) (C8.pe_c cD hr (by omega) (by rfl) (pa_cons (pv 0) (pa_cons pe_int pa_nil)))))) pss_nil)
        (pss_cons (ps_if (pt_cmpR op_eq (pv 2) pe_int (nomark _)) (pss_one (ps_ret (pe_op op_add (pe_op op_pow pe_int pe_int) (C8.pe_c cD hr (by omega) (by rfl) (pa_cons (pv 0) (pa_cons pe_int pa_nil)))))) pss_nil)
        (pss_cons (ps_if (pt_cmpR op_eq (pv 2) pe_int (nomark _)) (pss_one (ps_ret (C8.pe_mk cG hr (by omega) (by rfl) (pa_cons (pe_op op_add pe_int (C8.pe_c cD hr (by omega) (by rfl) (pa_cons (pv 0) (pa_cons pe_int pa_nil)))) (pa_cons (pe_tup (pa_cons (pe_tup (pa_cons pe_int (pa_cons pe_int pa_nil))) pa_nil)) pa_nil))))) pss_nil)
        (pss_cons (ps_if (PW.pt (pw_and (pt_cmpR op_gt (pv 2) pe_int (nomark _)) (pw_and1 (pt_cmpR op_gt (pv 1) pe_int (nomark _)))))
          (pss_cons ps_never (pss_cons ps_never (pss_one ps_never))) pss_nil)
        (pss_one (ps_ret (C8.pe_c cD hr (by omega) (by rfl) (pa_cons (pv 0) (pa_cons pe_int pa_nil))))))))))), ?_⟩
      refine ⟨_, rfl, p, l, 11, rfl, hp, by decide, by decide, fun H1 kind hp1 k1 h0 h1 => ?_⟩
      have T1 : Trk S H1 := hT.kp k1 hp1.at_
      -- kind < 3
      refine ⟨_, rfl, _, _, rfl, rfl, _, rfl, ite2 (fun c => ?_) (fun c3 => ?_)⟩
      · have c := of_decide_eq_true c
        refine ⟨(by show 3 ≤ sizeLine; decide), fun ll hl => ⟨_, rfl, ?_⟩⟩
        have sl := same_new (o := .lst [.non, .bl true, .bl false]) hl
        obtain rfl | rfl | rfl : kind = 0 ∨ kind = 1 ∨ kind = 2 := by omega
        · exact ⟨ll, _, 0, .non, rfl, rfl, SqL.of upd_same, atI_nat (j := 0) rfl, q _ _ (hp1.same sl) (k1.trans (.of sl)) (alk_scal rfl True.intro)⟩
        · exact ⟨ll, _, 1, .bl true, rfl, rfl, SqL.of upd_same, atI_nat (j := 1) rfl, q _ _ (hp1.same sl) (k1.trans (.of sl)) (alk_scal rfl True.intro)⟩
        · exact ⟨ll, _, 2, .bl false, rfl, rfl, SqL.of upd_same, atI_nat (j := 2) rfl, q _ _ (hp1.same sl) (k1.trans (.of sl)) (alk_scal rfl True.intro)⟩
      -- kind == 3
      refine ⟨_, rfl, rfl, _, rfl, ite2 (fun c => ?_) (fun _ => ?_)⟩
      · refine ⟨(by show 4 ≤ sizeLine; decide), fun ll hl => ⟨_, rfl, ?_⟩⟩
        have sl := same_new (o := .lst [.str "", .str "0", .str "(0, 1)", .str "edges"]) hl
        have hpl : p ≠ ll := by obtain ⟨o, ho⟩ := hp1.at_; exact ne_of_none ho hl
        refine ⟨p, l, 4, rfl, hp1.same sl, by decide, by decide, fun H2 r hp2 k2 r0 r1 => ?_⟩
        have kk := k1.trans ((KP.of sl).trans k2)
        have hl2 : H2 ll = some (.lst [.str "", .str "0", .str "(0, 1)", .str "edges"]) := k2.ls _ _ (Ne.symm hpl) upd_same
        obtain rfl | rfl | rfl | rfl : r = 0 ∨ r = 1 ∨ r = 2 ∨ r = 3 := by omega
        · exact ⟨ll, _, 0, _, rfl, rfl, SqL.of hl2, atI_nat (j := 0) rfl, q _ _ hp2 kk (alk_scal rfl True.intro)⟩
        · exact ⟨ll, _, 1, _, rfl, rfl, SqL.of hl2, atI_nat (j := 1) rfl, q _ _ hp2 kk (alk_scal rfl True.intro)⟩
        · exact ⟨ll, _, 2, _, rfl, rfl, SqL.of hl2, atI_nat (j := 2) rfl, q _ _ hp2 kk (alk_scal rfl True.intro)⟩
        · exact ⟨ll, _, 3, _, rfl, rfl, SqL.of hl2, atI_nat (j := 3) rfl, q _ _ hp2 kk (alk_scal rfl True.intro)⟩
      -- kind == 4
      refine ⟨_, rfl, rfl, _, rfl, ite2 (fun c => ?_) (fun _ => ?_)⟩
      · exact ⟨_, rfl, _, rfl, p, l, 5, rfl, hp1, by decide, by decide, fun H2 r hp2 k2 r0 r1 => ⟨_, _, rfl, rfl, q _ _ hp2 (k1.trans k2) (alk_int (i := -1 - r) (by omega) (by omega))⟩⟩
      -- kind == 5
      refine ⟨_, rfl, rfl, _, rfl, ite2 (fun c => ?_) (fun _ => ?_)⟩
      · exact ⟨_, _, rfl, rfl, ⟨by decide, by decide, by decide⟩, _, rfl, p, l, 26, rfl, hp1, by decide, by decide, fun H2 r hp2 k2 r0 r1 => ⟨_, _, rfl, rfl, q _ _ hp2 (k1.trans k2) (alk_int (i := (10 : Int) ^ (30 : Int).toNat + r) (by rw [ten30]; omega) (by rw [ten30]; omega))⟩⟩
      -- kind == 6
      refine ⟨_, rfl, rfl, _, rfl, ite2 (fun c => ?_) (fun _ => ?_)⟩
      · refine ⟨_, rfl, p, l, 3, rfl, hp1, by decide, by decide, fun H2 r hp2 k2 r0 r1 => ⟨_, _, rfl, rfl, (by show 2 ≤ sizeLine; decide), fun t ht => ⟨(by show 1 ≤ sizeLine; decide), fun e he => fun g dx hg hdx hdg => ?_⟩⟩⟩
        have s1 := same_new (o := .tup [.int 0, .int 1]) ht
        have s2 := same_new (o := .tup [.ref t]) he
        have s3 := same_new (o := .own g) hdx
        have hg2 : (upd (upd (upd H2 t (.tup [.int 0, .int 1])) e (.tup [.ref t])) dx (.own g)) g = none := by rw [upd_ne hdg.symm]; exact hg
        have s4 := same_new (o := .ins C dx []) hg2
        obtain ⟨m, hm⟩ : ∃ m : Nat, 2 + r = m := ⟨(2 + r).toNat, by omega⟩
        have he4 := s4 _ _ (s3 _ _ (upd_same (H := upd H2 t (.tup [.int 0, .int 1])) (a := e) (o := .tup [.ref t])))
        have ht4 := s4 _ _ (s3 _ _ (s2 _ _ (upd_same (H := H2) (a := t) (o := .tup [.int 0, .int 1]))))
        refine ⟨g, dx, e, m, [.ref t], [(0, 1)], (by show [V.ref g, V.int (2 + r), V.ref e] = _; rw [hm]), by omega, by omega, upd_same, .inr he4, .cons ⟨t, rfl, ht4⟩ .nil, by decide, good01 (by omega), fun H5 k5 g5 => ⟨rfl, ?_⟩⟩
        have sAll : Same H2 H5 := fun b o z => k5 b o (fun zz => by
          have := s3 _ _ (s2 _ _ (s1 _ _ z))
          rw [zz, hg2] at this
          cases this) (s4 _ _ (s3 _ _ (s2 _ _ (s1 _ _ z))))
        exact q _ _ (hp2.same sAll) (k1.trans (k2.trans (.of sAll))) (Leaf.alk (.inr ⟨g, m, _, rfl, rfl, g5⟩))
      -- kind > 7 and deep > 0
      refine ⟨_, rfl, _, _, rfl, rfl, _, rfl, ite2 (fun c => ?_) (fun c => ?_)⟩
      · refine ⟨_, rfl, _, _, rfl, rfl, _, rfl, ite2 (fun c => absurd (of_decide_eq_true c) (by decide)) (fun _ => ?_)⟩
        exact ⟨_, rfl, p, l, 26, rfl, hp1, by decide, by decide, fun H2 r hp2 k2 r0 r1 => q _ _ hp2 (k1.trans k2) (alk_int (by omega) (by omega))⟩
      · refine iteF ?_
        exact ⟨_, rfl, p, l, 26, rfl, hp1, by decide, by decide, fun H2 r hp2 k2 r0 r1 => q _ _ hp2 (k1.trans k2) (alk_int (by omega) (by omega))⟩
    · refine ⟨_, pss_cons (ps_set (i := 2) scs__law_thing.nd rfl (Or.inl rfl) (C8.pe_c cD hr (by omega) (by rfl) (pa_cons (pv 0) (pa_cons pe_int pa_nil))))
        (pss_cons (ps_if (pt_cmpR op_lt (pv 2) pe_int (nomark _)) (pss_one (ps_ret (pe_ix ix_list (pe_lst (pa_cons pe_non (pa_cons pe_bl (pa_cons pe_bl pa_nil)))) (pv 2) (fun _ _ => rfl)))) pss_nil)
        (pss_cons (ps_if (pt_cmpR op_eq (pv 2) pe_int (nomark _)) (pss_one (ps_ret (pe_ix ix_list (pe_lst (pa_cons pe_str (pa_cons pe_str (pa_cons pe_str (pa_cons pe_str pa_nil))))) (C8.pe_c cD hr (by omega) (by rfl) (pa_cons (pv 0) (pa_cons pe_int pa_nil))) (fun _ _ => rfl)))) pss_nil)
        (pss_cons (ps_if (pt_cmpR op_eq (pv 2) pe_int (nomark _)) (pss_one (ps_ret (pe_op op_sub (pe_un un_neg pe_int) (C8.pe_c cD hr (by omega) (by rfl) (pa_cons (pv 0) (pa_cons pe_int pa_nil)))))) pss_nil)
        (pss_cons (ps_if (pt_cmpR op_eq (pv 2) pe_int (nomark _)) (pss_one (ps_ret (pe_op op_add (pe_op op_pow pe_int pe_int) (C8.pe_c cD hr (by omega) (by rfl) (pa_cons (pv 0) (pa_cons pe_int pa_nil)))))) pss_nil)
        (pss_cons (ps_if (pt_cmpR op_eq (pv 2) pe_int (nomark _)) (pss_one (ps_ret (C8.pe_mk cG hr (by omega) (by rfl) (pa_cons (pe_op op_add pe_int (C8.pe_c cD hr (by omega) (by rfl) (pa_cons (pv 0) (pa_cons pe_int pa_nil)))) (pa_cons (pe_tup (pa_cons (pe_tup (pa_cons pe_int (pa_cons pe_int pa_nil))) pa_nil)) pa_nil))))) pss_nil)
        (pss_cons (ps_if (PW.pt (pw_and (pt_cmpR op_gt (pv 2) pe_int (nomark _)) (pw_and1 (pt_cmpR op_gt (pv 1) pe_int (nomark _)))))
          (pss_cons (ps_setLc (i := 3) (own := [("k", 4)]) (g := gName 4) (tt := tYes) rfl scs__law_thing.nd rfl rfl (sw_true rfl rfl rfl (by decide +kernel)) (pi_range1 rfl B.range (pa_cons (C8.pe_c cD hr (by omega) (by rfl) (pa_cons (pv 0) (pa_cons pe_int pa_nil))) pa_nil))
            (blkOk_by (N := Ns__law_thing) (sc := defScope s__law_thing) (by decide +kernel)) (fun _ _ _ _ _ => pg_name (i := 4) scs__law_thing.nd rfl (Or.inl rfl)) (fun _ _ _ _ _ => pts_nil)
            (fun _ _ _ _ _ => C8.pe_c cR (by exact hr) (by omega) (by rfl) (pa_cons (pv 0) (pa_cons (pe_op op_sub (pv 1) pe_int) pa_nil))))
          (pss_cons (ps_if (pt_cmpR op_eq (pv 2) pe_int (nomark _)) (pss_one (ps_ret (pe_callTy call_tuple_of (by rfl) B.tuple (by decide +kernel) (pa_cons (pv 3) pa_nil)))) pss_nil) (pss_one (ps_ret (pv 3))))) pss_nil)
        (pss_one (ps_ret (C8.pe_c cD hr (by omega) (by rfl) (pa_cons (pv 0) (pa_cons pe_int pa_nil))))))))))), ?_⟩
      refine ⟨_, rfl, p, l, 11, rfl, hp, by decide, by decide, fun H1 kind hp1 k1 h0 h1 => ?_⟩
      have T1 : Trk S H1 := hT.kp k1 hp1.at_
      -- kind < 3
      refine ⟨_, rfl, _, _, rfl, rfl, _, rfl, ite2 (fun c => ?_) (fun c3 => ?_)⟩
      · have c := of_decide_eq_true c
        refine ⟨(by show 3 ≤ sizeLine; decide), fun ll hl => ⟨_, rfl, ?_⟩⟩
        have sl := same_new (o := .lst [.non, .bl true, .bl false]) hl
        obtain rfl | rfl | rfl : kind = 0 ∨ kind = 1 ∨ kind = 2 := by omega
        · exact ⟨ll, _, 0, .non, rfl, rfl, SqL.of upd_same, atI_nat (j := 0) rfl, q _ _ (hp1.same sl) (k1.trans (.of sl)) (alk_scal rfl True.intro)⟩
        · exact ⟨ll, _, 1, .bl true, rfl, rfl, SqL.of upd_same, atI_nat (j := 1) rfl, q _ _ (hp1.same sl) (k1.trans (.of sl)) (alk_scal rfl True.intro)⟩
        · exact ⟨ll, _, 2, .bl false, rfl, rfl, SqL.of upd_same, atI_nat (j := 2) rfl, q _ _ (hp1.same sl) (k1.trans (.of sl)) (alk_scal rfl True.intro)⟩
      -- kind == 3
      refine ⟨_, rfl, rfl, _, rfl, ite2 (fun c => ?_) (fun _ => ?_)⟩
      · refine ⟨(by show 4 ≤ sizeLine; decide), fun ll hl => ⟨_, rfl, ?_⟩⟩
        have sl := same_new (o := .lst [.str "", .str "0", .str "(0, 1)", .str "edges"]) hl
        have hpl : p ≠ ll := by obtain ⟨o, ho⟩ := hp1.at_; exact ne_of_none ho hl
        refine ⟨p, l, 4, rfl, hp1.same sl, by decide, by decide, fun H2 r hp2 k2 r0 r1 => ?_⟩
        have kk := k1.trans ((KP.of sl).trans k2)
        have hl2 : H2 ll = some (.lst [.str "", .str "0", .str "(0, 1)", .str "edges"]) := k2.ls _ _ (Ne.symm hpl) upd_same
        obtain rfl | rfl | rfl | rfl : r = 0 ∨ r = 1 ∨ r = 2 ∨ r = 3 := by omega
        · exact ⟨ll, _, 0, _, rfl, rfl, SqL.of hl2, atI_nat (j := 0) rfl, q _ _ hp2 kk (alk_scal rfl True.intro)⟩
        · exact ⟨ll, _, 1, _, rfl, rfl, SqL.of hl2, atI_nat (j := 1) rfl, q _ _ hp2 kk (alk_scal rfl True.intro)⟩
        · exact ⟨ll, _, 2, _, rfl, rfl, SqL.of hl2, atI_nat (j := 2) rfl, q _ _ hp2 kk (alk_scal rfl True.intro)⟩
        · exact ⟨ll, _, 3, _, rfl, rfl, SqL.of hl2, atI_nat (j := 3) rfl, q _ _ hp2 kk (alk_scal rfl True.intro)⟩
      -- kind == 4
      refine ⟨_, rfl, rfl, _, rfl, ite2 (fun c => ?_) (fun _ => ?_)⟩
      · exact ⟨_, rfl, _, rfl, p, l, 5, rfl, hp1, by decide, by decide, fun H2 r hp2 k2 r0 r1 => ⟨_, _, rfl, rfl, q _ _ hp2 (k1.trans k2) (alk_int (i := -1 - r) (by omega) (by omega))⟩⟩
      -- kind == 5
      refine ⟨_, rfl, rfl, _, rfl, ite2 (fun c => ?_) (fun _ => ?_)⟩
      · exact ⟨_, _, rfl, rfl, ⟨by decide, by decide, by decide⟩, _, rfl, p, l, 26, rfl, hp1, by decide, by decide, fun H2 r hp2 k2 r0 r1 => ⟨_, _, rfl, rfl, q _ _ hp2 (k1.trans k2) (alk_int (i := (10 : Int) ^ (30 : Int).toNat + r) (by rw [ten30]; omega) (by rw [ten30]; omega))⟩⟩
      -- kind == 6
      refine ⟨_, rfl, rfl, _, rfl, ite2 (fun c => ?_) (fun _ => ?_)⟩
      · refine ⟨_, rfl, p, l, 3, rfl, hp1, by decide, by decide, fun H2 r hp2 k2 r0 r1 => ⟨_, _, rfl, rfl, (by show 2 ≤ sizeLine; decide), fun t ht => ⟨(by show 1 ≤ sizeLine; decide), fun e he => fun g dx hg hdx hdg => ?_⟩⟩⟩
        have s1 := same_new (o := .tup [.int 0, .int 1]) ht
        have s2 := same_new (o := .tup [.ref t]) he
        have s3 := same_new (o := .own g) hdx
        have hg2 : (upd (upd (upd H2 t (.tup [.int 0, .int 1])) e (.tup [.ref t])) dx (.own g)) g = none := by rw [upd_ne hdg.symm]; exact hg
        have s4 := same_new (o := .ins C dx []) hg2
        obtain ⟨m, hm⟩ : ∃ m : Nat, 2 + r = m := ⟨(2 + r).toNat, by omega⟩
        have he4 := s4 _ _ (s3 _ _ (upd_same (H := upd H2 t (.tup [.int 0, .int 1])) (a := e) (o := .tup [.ref t])))
        have ht4 := s4 _ _ (s3 _ _ (s2 _ _ (upd_same (H := H2) (a := t) (o := .tup [.int 0, .int 1]))))
        refine ⟨g, dx, e, m, [.ref t], [(0, 1)], (by show [V.ref g, V.int (2 + r), V.ref e] = _; rw [hm]), by omega, by omega, upd_same, .inr he4, .cons ⟨t, rfl, ht4⟩ .nil, by decide, good01 (by omega), fun H5 k5 g5 => ⟨rfl, ?_⟩⟩
        have sAll : Same H2 H5 := fun b o z => k5 b o (fun zz => by
          have := s3 _ _ (s2 _ _ (s1 _ _ z))
          rw [zz, hg2] at this
          cases this) (s4 _ _ (s3 _ _ (s2 _ _ (s1 _ _ z))))
        exact q _ _ (hp2.same sAll) (k1.trans (k2.trans (.of sAll))) (Leaf.alk (.inr ⟨g, m, _, rfl, rfl, g5⟩))
      -- kind > 7 and deep > 0
      refine ⟨_, rfl, _, _, rfl, rfl, _, rfl, ite2 (fun c => ?_) (fun c => ?_)⟩
      · refine ⟨_, rfl, _, _, rfl, rfl, _, rfl, ite2 (fun _ => ?_) (fun c => absurd (decide_eq_true (show (0 : Int) < ((m + 1 : Nat) : Int) by omega)) c)⟩
        refine ⟨_, rfl, p, l, 4, rfl, hp1, by decide, by decide, fun H2 r hp2 k2 r0 r1 => ⟨r, rfl, by omega, by omega, fun D hD => ?_⟩⟩
        have T2 : Trk S H2 := T1.kp k2 hp2.at_
        have hpD : p ≠ D := by obtain ⟨o, ho⟩ := hp2.at_; exact ne_of_none ho hD
        have hlD : l ≠ D := by obtain ⟨o, ho⟩ := hp2.atl; exact ne_of_none ho hD
        refine lc_range (lo := 0) (n := r.toNat) (fun i H' => Pool p l H' ∧ KP p H2 H' ∧ Trk (fun a => S a ∨ a = D) H' ∧ ∃ vs, H' D = some (.lst vs) ∧ vs.length = i ∧ ∀ x ∈ vs, Alk C (fun a => S a ∨ a = D) m H' x x)
          ⟨hp2.same (same_new hD), .of (same_new hD), ?_, [], upd_same, rfl, by simp⟩ ?_ ?_
        · intro s hs
          rcases hs with hs | rfl
          · obtain ⟨o, ho⟩ := T2 s hs
            exact ⟨o, same_new hD _ _ ho⟩
          · exact ⟨_, upd_same⟩
        · rintro i H3 hi ⟨hp3, k3, T3, vs, hD3, hl3, ha3⟩
          refine ⟨rfl, tYes_i ?_⟩
          refine ⟨_, rfl, _, rfl, _, _, rfl, rfl, p, l, (fun a => S a ∨ a = D), ?_, hp3, .inl hSp, T3, fun H4 v hp4 k4 a4 => ?_⟩
          · show [V.ref p, V.int (((m + 1 : Nat) : Int) - 1)] = [V.ref p, V.int (m : Int)]
            rw [show ((m + 1 : Nat) : Int) - 1 = (m : Int) by omega]
          · have hD4 := k4.ls _ _ (Ne.symm hpD) hD3
            refine ⟨vs, hD4, small1000 (by omega), ?_, ?_, ?_, vs ++ [v], upd_same, by rw [List.length_append, hl3]; rfl, ?_⟩
            · exact hp4.put hpD hlD
            · refine ⟨fun b o e n => ?_, fun b zs n e => ?_⟩
              · rw [upd_ne (ne_of_none e hD)]; exact k4.nl _ _ (k3.nl _ _ e n) n
              · rw [upd_ne (ne_of_none e hD)]; exact k4.ls _ _ n (k3.ls _ _ n e)
            · intro s hs
              rcases hs with hs | rfl
              · obtain ⟨o, ho⟩ := T3.kp k4 hp4.at_ s (.inl hs)
                by_cases z : s = D
                · exact ⟨_, by rw [z]; exact upd_same⟩
                · exact ⟨o, by rw [upd_ne z]; exact ho⟩
              · exact ⟨_, upd_same⟩
            · intro x hx
              have kD := KP.put (p := D) (ws := vs ++ [v]) hD4
              rcases List.mem_append.mp hx with hx | hx
              · exact ((ha3 x hx).kp (.inl hSp) k4).kp (.inr rfl) kD
              · rw [List.mem_singleton.mp hx]
                exact a4.kp (.inr rfl) kD
        · rintro H3 ⟨hp3, k3, T3, vs, hD3, hl3, ha3⟩
          have hnD : ¬ S D := T2.ne hD
          have child : ∀ (H' : Hp), Same H3 H' → ∀ x ∈ vs, Alk C S m H' x x := fun H' s' x hx => ((ha3 x hx).same s').more fun s hs => .inl (.inl hs)
          refine ⟨_, rfl, rfl, _, rfl, ite2 (fun _ => ?_) (fun _ => ?_)⟩
          · refine ⟨_, rfl, D, vs, rfl, .inl ⟨.inl (.inl hD3), fun t ht => ?_⟩⟩
            have st := same_new (o := .tup vs) ht
            have htS : ¬ S t := fun z => by
              obtain ⟨o, ho⟩ := T3 t (.inl z)
              rw [ht] at ho; cases ho
            exact q _ _ (hp3.same st) (k1.trans (k2.trans (k3.trans (.of st)))) (.inr ⟨t, t, vs, vs, rfl, rfl, htS, htS, .inr ⟨upd_same, upd_same⟩, rfl, by omega, fun i x y hx hy => by
              rw [hx] at hy; cases hy; exact child _ st x (List.mem_of_getElem? hx)⟩)
          · exact ⟨_, rfl, q _ _ hp3 (k1.trans (k2.trans k3)) (.inr ⟨D, D, vs, vs, rfl, rfl, hnD, hnD, .inl ⟨hD3, hD3⟩, rfl, by omega, fun i x y hx hy => by
              rw [hx] at hy; cases hy; exact child _ (Same.refl _) x (List.mem_of_getElem? hx)⟩)⟩
      · refine iteF ?_
        exact ⟨_, rfl, p, l, 26, rfl, hp1, by decide, by decide, fun H2 r hp2 k2 r0 r1 => q _ _ hp2 (k1.trans k2) (alk_int (by omega) (by omega))⟩
end
end Ev
namespace Ev
open PySem PySem.Spec PyProof.Rows L2
/-! ### two fors in a comprehension, over Walk -/
section
variable {J J1 : It} {n n1 : Nat} {G G1 : Hp → Prop} {Y Y1 : Nat → Hp → V → Hp → Prop}
theorem lc_in (w : Walk J1 n1 G1 Y1) {g1 : TG} {tt1 : TT} {te : TE} {vs1 : List Nat} {σ : L2.St} {H4 : Hp} {D : Addr} {Nx : Hp → Prop} (Pv : Nat → Hp → Prop) (h0 : Pv 0 H4) (hG : ∀ i H, i ≤ n1 → Pv i H → G1 H)
    (hs : ∀ i x H H', i < n1 → Pv i H → Y1 i H x H' → g1 x (wipe σ vs1) H' fun σ3 H5 => wipe σ3 vs1 = wipe σ vs1 ∧ tt1 σ3 H5 fun b H6 =>
      if b = true then te σ3 H6 fun y H7 => ∃ acc, H7 D = some (.lst acc) ∧ acc.length < sizeLine ∧ Pv (i + 1) (upd H7 D (.lst (acc ++ [y]))) else Pv (i + 1) H6) (hd : ∀ H, Pv n1 H → Nx H) :
    ∃ W1 : Nat → Nat → Hp → Prop, (∃ m, W1 0 m H4) ∧ ∀ j k H, W1 j k H →
      (J1.stop j H ∧ Nx H) ∨ (J1.go j H ∧ ∃ Nx1 : Hp → Prop, (∀ H', Nx1 H' → ∃ k', k' < k ∧ W1 (j + 1) k' H') ∧ ∀ x H', J1.yld j H x H' → g1 x (wipe σ vs1) H' fun σ3 H5 => wipe σ3 vs1 = wipe σ vs1 ∧ tt1 σ3 H5 fun b H6 =>
        if b = true then te σ3 H6 fun y H7 => ∃ acc, H7 D = some (.lst acc) ∧ acc.length < sizeLine ∧ Nx1 (upd H7 D (.lst (acc ++ [y]))) else Nx1 H6) := by
  refine ⟨fun i m H => m = n1 - i ∧ i ≤ n1 ∧ Pv i H, ⟨n1, rfl, Nat.zero_le _, h0⟩, fun i m H h => ?_⟩
  obtain ⟨rfl, hi, p⟩ := h
  have q := hG i H hi p
  by_cases hlt : i < n1
  · exact .inr ⟨w.goes i H hlt q, Pv (i + 1), fun H' p' => ⟨n1 - (i + 1), by omega, rfl, hlt, p'⟩, fun x H' y => hs i x H H' hlt p (w.yields i H x H' hlt q y)⟩
  · have e : i = n1 := by omega
    subst e
    exact .inl ⟨w.stops H q, hd H p⟩
theorem lc_out (w : Walk J n G Y) {wi1 : TI} {g g1 : TG} {tt tt1 : TT} {te : TE} {vs vs1 : List Nat} {σ : L2.St} {H1 : Hp} {D : Addr} {Qd : Hp → Prop} (Pv : Nat → Hp → Prop) (h0 : Pv 0 (upd H1 D (.lst []))) (hG : ∀ i H, i ≤ n → Pv i H → G H)
    (hs : ∀ i x H H', i < n → Pv i H → Y i H x H' → g x (wipe σ vs) H' fun σ2 H2 => wipe σ2 vs = wipe σ vs ∧ tt σ2 H2 fun b H3 =>
      if b = true then wi1 σ2 H3 fun J1 H4 => ∃ W1 : Nat → Nat → Hp → Prop, (∃ m, W1 0 m H4) ∧ ∀ j k H, W1 j k H →
        (J1.stop j H ∧ Pv (i + 1) H) ∨ (J1.go j H ∧ ∃ Nx1 : Hp → Prop, (∀ H', Nx1 H' → ∃ k', k' < k ∧ W1 (j + 1) k' H') ∧ ∀ x H', J1.yld j H x H' → g1 x (wipe σ2 vs1) H' fun σ3 H5 => wipe σ3 vs1 = wipe σ2 vs1 ∧ tt1 σ3 H5 fun b H6 =>
          if b = true then te σ3 H6 fun y H7 => ∃ acc, H7 D = some (.lst acc) ∧ acc.length < sizeLine ∧ Nx1 (upd H7 D (.lst (acc ++ [y]))) else Nx1 H6)
      else Pv (i + 1) H3) (hd : ∀ H, Pv n H → Qd H) :
    ∃ W : Nat → Nat → Hp → Prop, (∃ m, W 0 m (upd H1 D (.lst []))) ∧ ∀ i m H, W i m H →
      (J.stop i H ∧ Qd H) ∨ (J.go i H ∧ ∃ Nx : Hp → Prop, (∀ H', Nx H' → ∃ m', m' < m ∧ W (i + 1) m' H') ∧ ∀ x H', J.yld i H x H' → g x (wipe σ vs) H' fun σ2 H2 => wipe σ2 vs = wipe σ vs ∧ tt σ2 H2 fun b H3 =>
        if b = true then wi1 σ2 H3 fun J1 H4 => ∃ W1 : Nat → Nat → Hp → Prop, (∃ m, W1 0 m H4) ∧ ∀ j k H, W1 j k H →
          (J1.stop j H ∧ Nx H) ∨ (J1.go j H ∧ ∃ Nx1 : Hp → Prop, (∀ H', Nx1 H' → ∃ k', k' < k ∧ W1 (j + 1) k' H') ∧ ∀ x H', J1.yld j H x H' → g1 x (wipe σ2 vs1) H' fun σ3 H5 => wipe σ3 vs1 = wipe σ2 vs1 ∧ tt1 σ3 H5 fun b H6 =>
            if b = true then te σ3 H6 fun y H7 => ∃ acc, H7 D = some (.lst acc) ∧ acc.length < sizeLine ∧ Nx1 (upd H7 D (.lst (acc ++ [y]))) else Nx1 H6)
        else Nx H3) := by
  refine ⟨fun i m H => m = n - i ∧ i ≤ n ∧ Pv i H, ⟨n, rfl, Nat.zero_le _, h0⟩, fun i m H h => ?_⟩
  obtain ⟨rfl, hi, p⟩ := h
  have q := hG i H hi p
  by_cases hlt : i < n
  · exact .inr ⟨w.goes i H hlt q, Pv (i + 1), fun H' p' => ⟨n - (i + 1), by omega, rfl, hlt, p'⟩, fun x H' y => hs i x H H' hlt p (w.yields i H x H' hlt q y)⟩
  · have e : i = n := by omega
    subst e
    exact .inl ⟨w.stops H q, hd H p⟩
end
/-! ### all pairs -/
/-- the pairs that begin at place i, as far as place j -/
def rowP (ns : List Int) (i : Nat) : List (Int × Int) := match ns[i]? with
  | some x => (ns.drop (i + 1)).map fun y => (x, y)
  | none => []
def prs (ns : List Int) : List (Int × Int) := (List.range ns.length).flatMap (rowP ns)
def prsTo (ns : List Int) (i : Nat) : List (Int × Int) := (List.range i).flatMap (rowP ns)
theorem prsTo_succ (ns : List Int) (i : Nat) : prsTo ns (i + 1) = prsTo ns i ++ rowP ns i := by
  unfold prsTo
  rw [List.range_succ, List.flatMap_append, List.flatMap_singleton]
theorem rowP_len (ns : List Int) (i : Nat) : (rowP ns i).length ≤ ns.length := by
  unfold rowP
  cases ns[i]? with
  | none => exact Nat.zero_le _
  | some x => dsimp only; rw [List.length_map, List.length_drop]; omega
theorem prsTo_len (ns : List Int) : ∀ i, (prsTo ns i).length ≤ i * ns.length
  | 0 => by show 0 ≤ _; omega
  | i + 1 => by
    rw [prsTo_succ, List.length_append, Nat.succ_mul]
    exact Nat.add_le_add (prsTo_len ns i) (rowP_len ns i)
def spPairs : Sp := fun vs H Q _ => ∃ (a : Addr) (ns : List Int), vs = [.ref a] ∧ H a = some (.tup (ns.map V.int)) ∧ ns.length ≤ 24 ∧ ∀ H' p xs, Same H H' → H p = none → H' p = some (.lst xs) → PrsAt H' xs (prs ns) → Q (.ref p) H'
theorem cutN (xs : List V) (k : Nat) (h : k ≤ xs.length) : cutV xs (some (k : Int)) none = xs.drop k := by
  unfold cutV
  rw [HT.sIx_nat, HT.sIx_none, Nat.min_eq_left h]
  exact List.take_of_length_le (by rw [List.length_drop]; exact Nat.le_refl _)
section
variable {P : Program} {w : World} {K : PySem.W.Frag} {mg : Str → Option Value} {base : Heap} {C : Addr}
theorem ok_vertex_pairs {f : Addr} {fd : FuncData} (F : Fun K "vertex_pairs" "vertex_pairs" s_vertex_pairs f fd) (B : B0 mg) : FnOk P w K mg base CX0 1 f fd ["subset"] spPairs := by
  refine F.ok scs_vertex_pairs (fun vs H Q E h => ?_) (fun cdv A outer s H vs Q E hr h => ?_)
  · obtain ⟨a, ns, rfl, _⟩ := h
    rfl
  · obtain ⟨a, ns, rfl, ha, hlen, q⟩ := h
    refine ⟨_, pss_one (ps_ret (pe_lc2 (own := [("place", 1), ("one", 2), ("other", 3)]) (vs1 := [3]) (g := gTup K 2 (gCons (gName 1) (gCons (gName 2) gNil))) (tt := tYes) (g1 := gName 3) (tt1 := tYes) (wi1 := iTup K (tSl (rSlA K) (tVar 0) (tPart (tOp (rI0 fun i j => .int (i + j)) (tVar 1) (tC (.int 1)))) tNoPart)) rfl scs_vertex_pairs.nd
      (pi_enumA (by rfl) B.enumerate (pa_cons (pv 0) pa_nil)) (blkOk_by (N := Ns_vertex_pairs) (sc := defScope s_vertex_pairs) (by decide +kernel)) (by decide)
      (fun _ _ _ _ _ => pg_tup rfl (pgs_cons (pg_name (i := 1) scs_vertex_pairs.nd rfl (Or.inl rfl)) (pgs_cons (pg_name (i := 2) scs_vertex_pairs.nd rfl (Or.inl rfl)) pgs_nil))) (fun _ _ _ _ _ => pts_nil)
      (fun _ _ _ _ _ => by exact pi_tup (pe_slice sl_tupA (pv 0) (po_some (pe_op op_add (pv 1) pe_int)) po_none)) (fun _ _ _ _ _ => pg_name (i := 3) scs_vertex_pairs.nd rfl (Or.inl rfl)) (fun _ _ _ _ _ => pts_nil)
      (fun _ _ _ _ _ => pe_tup (pa_cons (pv 2) (pa_cons (pv 3) pa_nil))))), ?_⟩
    refine ⟨.ref a, rfl, a, ns.map V.int, rfl, .inr ⟨.inl (.inl ha), fun D hD => lc_out (walk_enumT (xs := ns.map V.int)) (fun i H' => Same H H' ∧ ∃ xs, H' D = some (.lst xs) ∧ PrsAt H' xs (prsTo ns i)) ⟨same_new hD, [], upd_same, .nil⟩ (fun i H' _ h => .inl (.inl (h.1 _ _ ha))) ?_ ?_⟩⟩
    · rintro i x H2 H3 hi ⟨s2, xs, hD2, hP⟩ ⟨T, x1, x2, rfl, hT, rfl, e1, e2⟩
      cases e1
      obtain ⟨n, gn, rfl⟩ := ints_get e2
      refine ⟨T, _, rfl, .inl (.inl upd_same), rfl, _, _, rfl, _, _, rfl, rfl, rfl, tYes_i ?_⟩
      have hi2 : i < ns.length := (List.getElem?_eq_some_iff.mp gn).1
      have sT : Same H2 (upd H2 T (.tup [.int (i : Nat), .int n])) := same_new hT
      have hD3 : (upd H2 T (.tup [.int (i : Nat), .int n])) D = some (.lst xs) := by rw [upd_ne (ne_of_none hD2 hT)]; exact hD2
      have s3 : Same H (upd H2 T (.tup [.int (i : Nat), .int n])) := s2.trans sT
      have hP3 : PrsAt (upd H2 T (.tup [.int (i : Nat), .int n])) xs (prsTo ns i) := hP.kp (p := 0) (.of sT)
      generalize upd H2 T (.tup [.int (i : Nat), .int n]) = H4 at s3 hD3 hP3 ⊢
      refine ⟨_, rfl, _, rfl, _, _, rfl, rfl, _, rfl, a, ns.map V.int, rfl, .inl (.inl (s3 _ _ ha)), fun hw => ?_, fun hw b hb => ?_⟩
      · exfalso
        have e1 : ((i : Nat) : Int) + 1 = ((i + 1 : Nat) : Int) := by omega
        rw [e1, HT.sIx_nat, List.length_map] at hw
        omega
      have e1 : cutV (ns.map V.int) (some (((i : Nat) : Int) + 1)) none = (ns.drop (i + 1)).map V.int := by
        have e1 : ((i : Nat) : Int) + 1 = ((i + 1 : Nat) : Int) := by omega
        rw [e1, cutN _ _ (by rw [List.length_map]; omega), List.map_drop]
      rw [e1]
      have s5 : Same H4 (upd H4 b (.tup ((ns.drop (i + 1)).map V.int))) := same_new hb
      have hb5 : (upd H4 b (.tup ((ns.drop (i + 1)).map V.int))) b = some (.tup ((ns.drop (i + 1)).map V.int)) := upd_same
      have hD5 : (upd H4 b (.tup ((ns.drop (i + 1)).map V.int))) D = some (.lst xs) := s5 _ _ hD3
      have hP5 : PrsAt (upd H4 b (.tup ((ns.drop (i + 1)).map V.int))) xs (prsTo ns i) := hP3.kp (p := 0) (.of s5)
      have s6 := s3.trans s5
      generalize upd H4 b (.tup ((ns.drop (i + 1)).map V.int)) = H5 at s6 hb5 hD5 hP5 ⊢
      have er : rowP ns i = (ns.drop (i + 1)).map fun y => (n, y) := by unfold rowP; rw [gn]
      refine ⟨b, rfl, ⟨_, .inl (.inl hb5)⟩, lc_in (walk_tup (xs := (ns.drop (i + 1)).map V.int)) (fun j H' => Same H H' ∧ H' b = some (.tup ((ns.drop (i + 1)).map V.int)) ∧ ∃ xs, H' D = some (.lst xs) ∧ PrsAt H' xs (prsTo ns i ++ (rowP ns i).take j))
        ⟨s6, hb5, xs, hD5, by rw [List.take_zero, List.append_nil]; exact hP5⟩ (fun j H' _ h => .inl (.inl h.2.1)) ?_ ?_⟩
      · rintro j x H6 H7 hj ⟨s7, hb7, ys, hD7, hP7⟩ ⟨rfl, hx⟩
        obtain ⟨m, gm, rfl⟩ := ints_get hx
        refine ⟨rfl, tYes_i ?_⟩
        refine ⟨_, rfl, _, rfl, (by show 2 ≤ sizeLine; decide), fun t ht => ?_⟩
        have sT := same_new (o := .tup [.int n, .int m]) ht
        refine ⟨ys, sT _ _ hD7, ?_, ?_, ?_, ys ++ [.ref t], upd_same, ?_⟩
        · have := paired_len hP7
          rw [this, List.length_append, List.length_take]
          have h1 := prsTo_len ns i
          have h2 := rowP_len ns i
          have h3 : i * ns.length ≤ 24 * 24 := Nat.mul_le_mul (by omega) hlen
          exact small1000 (by omega)
        · exact fun c o e => by rw [upd_ne (ne_of_none e hD)]; exact sT _ _ (s7 _ _ e)
        · rw [upd_ne (ne_of hb7 hD7 (fun z => nomatch z))]; exact sT _ _ hb7
        · have kp : KP D H7 (upd (upd H7 t (.tup [.int n, .int m])) D (.lst (ys ++ [.ref t]))) := (KP.of sT).trans (KP.put (sT _ _ hD7))
          have e2 : (rowP ns i).take (j + 1) = (rowP ns i).take j ++ [(n, m)] := by
            rw [List.take_add_one, er, List.getElem?_map, gm]
            rfl
          rw [e2, ← List.append_assoc]
          refine paired_app (hP7.kp kp) (.cons ⟨t, rfl, ?_⟩ .nil)
          exact (KP.put (p := D) (sT _ _ hD7)).tup upd_same
      · rintro H' ⟨s7, hb7, ys, hD7, hP7⟩
        refine ⟨s7, ys, hD7, ?_⟩
        have e2 : (rowP ns i).take ((ns.drop (i + 1)).map V.int).length = rowP ns i := List.take_of_length_le (by rw [er, List.length_map, List.length_map]; exact Nat.le_refl _)
        rw [e2] at hP7
        rw [prsTo_succ]
        exact hP7
    · rintro H' ⟨s2, xs, hD2, hP⟩
      rw [List.length_map] at hP
      exact q _ D xs s2 hD hD2 hP
end
end Ev
namespace Ev
open PySem PySem.Spec PyProof.Rows L2
/-! ### edges, drawn -/
theorem upto_len (n : Nat) : (upto n).length = n := by unfold upto; rw [List.length_map, List.length_range]
theorem upto_get {n i : Nat} (h : i < n) : (upto n)[i]? = some (i : Int) := by
  unfold upto
  rw [List.getElem?_map, List.getElem?_range h]
  rfl
theorem rowP_upto {n i : Nat} (h : i < n) : rowP (upto n) i = ((upto n).drop (i + 1)).map fun y => ((i : Int), y) := by
  unfold rowP
  rw [upto_get h]
theorem rowP_get {n i j : Nat} (h : i + 1 + j < n) : (rowP (upto n) i)[j]? = some ((i : Int), ((i + 1 + j : Nat) : Int)) := by
  rw [rowP_upto (by omega), List.getElem?_map, List.getElem?_drop, upto_get h]
  rfl
theorem rowP_length {n i : Nat} (h : i < n) : (rowP (upto n) i).length = n - (i + 1) := by
  rw [rowP_upto h, List.length_map, List.length_drop, upto_len]
theorem upto_pw (n : Nat) : (upto n).Pairwise (· < ·) := by
  unfold upto
  rw [List.pairwise_map]
  exact List.pairwise_lt_range.imp fun h => by omega
theorem rowP_mem {n i : Nat} (h : i < n) {q : Int × Int} (hq : q ∈ rowP (upto n) i) : q.1 = i ∧ (i : Int) < q.2 ∧ q.2 < n := by
  obtain ⟨j, hj⟩ := List.getElem?_of_mem hq
  have hl := (List.getElem?_eq_some_iff.mp hj).1
  rw [rowP_length h] at hl
  rw [rowP_get (by omega)] at hj
  cases hj
  refine ⟨rfl, ?_, ?_⟩
  · show (i : Int) < ((i + 1 + j : Nat) : Int); omega
  · show ((i + 1 + j : Nat) : Int) < n; omega
theorem good_prs (n : Nat) : Good n (prs (upto n)) := by
  constructor
  · intro q hq
    unfold prs at hq
    obtain ⟨i, hi, hq⟩ := List.mem_flatMap.mp hq
    rw [upto_len, List.mem_range] at hi
    obtain ⟨h1, h2, h3⟩ := rowP_mem hi hq
    omega
  · unfold prs
    rw [List.pairwise_flatMap, upto_len]
    refine ⟨fun i hi => ?_, ?_⟩
    · rw [List.mem_range] at hi
      rw [rowP_upto hi, List.pairwise_map]
      exact ((upto_pw n).sublist (List.drop_sublist _ _)).imp fun {a b} h => .inr ⟨rfl, h⟩
    · refine (List.Pairwise.and_mem.mp (List.pairwise_lt_range (n := n))).imp fun {a b} h => fun x hx y hy => ?_
      obtain ⟨ha, hb, hab⟩ := h
      obtain ⟨e1, _, _⟩ := rowP_mem (List.mem_range.mp ha) hx
      obtain ⟨e2, _, _⟩ := rowP_mem (List.mem_range.mp hb) hy
      exact .inl (by rw [e1, e2]; omega)
theorem Good.sub {n : Int} {ps qs : List (Int × Int)} (g : Good n ps) (h : qs.Sublist ps) : Good n qs := ⟨fun q hq => g.bd q (h.subset hq), g.pw.sublist h⟩
theorem Good.filter {n : Int} {ps : List (Int × Int)} (g : Good n ps) (c : Int × Int → Bool) : Good n (ps.filter c) := g.sub (List.filter_sublist)
theorem prs_len {n : Nat} (h : n ≤ 24) : (prs (upto n)).length ≤ 300 := by
  have key : ∀ n : Fin 25, (prs (upto n)).length ≤ 300 := by decide +kernel
  exact key ⟨n, by omega⟩
theorem KP.fresh {p D : Addr} {H H' : Hp} {o : HO} (k : KP p H H') (h : H D = none) : KP p H (upd H' D o) := ⟨fun b o e nz => by rw [upd_ne (ne_of_none e h)]; exact k.nl b o e nz, fun b zs nb e => by rw [upd_ne (ne_of_none e h)]; exact k.ls b zs nb e⟩
structure EdInv (H : Hp) (p l D : Addr) (L : List (Int × Int)) (H' : Hp) : Prop where
  k : KP p H H'
  P : Pool p l H'
  ex : ∃ xs ps, H' D = some (.lst xs) ∧ PrsAt H' xs ps ∧ ps.Sublist L
end Ev
namespace Ev
open PySem PySem.Spec PyProof.Rows L2
def prD (q : Int × Int) : PyData := .tuple [.int q.1, .int q.2]
theorem dp_prs {K : PySem.W.Frag} {H : Hp} : ∀ {xs : List V} {ps : List (Int × Int)}, PrsAt H xs ps → DpAll K H xs (ps.map prD)
  | _, _, .nil => .nil
  | _, _, .cons ⟨t, e, h⟩ r => by
    subst e
    exact .cons (.tup (.inl (.inl h)) (.cons (.int _) (.cons (.int _) .nil))) (dp_prs r)
theorem shaped_prs (ps : List (Int × Int)) : SeqAt.shaped (.tuple (ps.map prD)) = true := by
  have h1 : ∀ ps : List (Int × Int), PyData.canLayAll0 (ps.map prD) = true := fun ps => by
    induction ps with
    | nil => simp [PyData.canLayAll0]
    | cons q r ih =>
      rw [List.map_cons, PyData.canLayAll0, ih]
      simp [prD, PyData.canLay0, PyData.canLayAll0]
  have h2 : ∀ ps : List (Int × Int), PyData.depthAll (ps.map prD) ≤ 1 := fun ps => by
    induction ps with
    | nil => simp [PyData.depthAll]
    | cons q r ih =>
      rw [List.map_cons, PyData.depthAll]
      have : PyData.depth (prD q) = 1 := by simp [prD, PyData.depth, PyData.depthAll]
      rw [this]; omega
  unfold SeqAt.shaped
  rw [PyData.canLay0, h1, PyData.depth]
  have := h2 ps
  simp only [Bool.true_and, decide_eq_true_eq]
  omega
end Ev
namespace Ev
open PySem PySem.Spec PyProof.Rows L2
theorem op_isBx {X : Cx} : OpR X (compareOp .Is) (fun x y H Q => ∃ b : Bool, y = .bl b ∧ sc x = true ∧ Q (.bl (decide (x = .bl b))) H) := by
  intro pins s σ H x y v u Q I rx ry h
  obtain ⟨b, rfl, hs, q⟩ := h
  cases (show u = Value.bool b from ry)
  cases x with
  | bl a =>
    cases (show v = Value.bool a from rx)
    by_cases e : a = b
    · subst e
      exact wpAny_is_self rfl ⟨.bl true, H, I, rfl, by simpa using q⟩
    · exact wpAny_is_other rfl (fun z => e (Value.bool.inj z)) ⟨.bl false, H, I, rfl, by simpa [e] using q⟩
  | non =>
    cases (show v = Value.none from rx)
    exact wpAny_is_other rfl (fun z => nomatch z) ⟨.bl false, H, I, rfl, q⟩
  | int i =>
    obtain ⟨t, rfl⟩ := rx
    exact wpAny_is_other rfl (fun z => nomatch z) ⟨.bl false, H, I, rfl, q⟩
  | str i =>
    obtain ⟨t, rfl⟩ := rx
    exact wpAny_is_other rfl (fun z => nomatch z) ⟨.bl false, H, I, rfl, q⟩
  | _ => cases hs
def spCopy (C : Addr) (n : Nat) : Sp := fun vs H Q _ => ∃ (v : V) (S : Addr → Prop), vs = [v] ∧ Trk S H ∧ Alk C S n H v v ∧ ∀ H' y, Same H H' → Alk C S n H' v y → Q y H'
def spAlike (C : Addr) (n : Nat) : Sp := fun vs H Q _ => ∃ (x y : V) (S : Addr → Prop), vs = [x, y] ∧ Alk C S n H x y ∧ ∀ H', Same H H' → Q (.bl true) H'
section
variable {P : Program} {w : World} {K : PySem.W.Frag} {mg : Str → Option Value} {base : Heap} {C : Addr}
theorem ok_law_alike0 {f : Addr} {fd : FuncData} (F : Fun K "_law_alike" "_law_alike" s__law_alike f fd) (G : GrT K C) (A : GrA K C) (B : B0 mg) (hGr : ∃ u, mg "Graph" = some u ∧ RelV (.ref C) u) (n : Nat)
    (rec_ : n = 0 ∨ ∃ m, n = m + 1 ∧ Ca P w K mg base (1 + m) "_law_alike" (spAlike C m)) : FnOk P w K mg base CX0 (1 + n) f fd ["found", "due"] (spAlike C n) := by
  have e8 : 1 + n = n + 1 := by omega
  rw [e8]
  refine F.ok scs__law_alike (fun vs H Q E h => ?_) (fun cdv A' outer s H vs Q E hr h => ?_)
  · obtain ⟨x, y, S, rfl, _⟩ := h
    rfl
  · obtain ⟨x, y, S, rfl, hA, q⟩ := h
    rcases rec_ with rfl | ⟨m, rfl, cR⟩
    · have hlf : Leaf C H x y := hA
      refine ⟨_, pss_cons (ps_if (pt_val (pe_callB call_isiT (by rfl) B.isi (by decide +kernel) (pa_cons (pv 1) (pa_cons (pe_tup (pa_cons (pe_bltn (v := .ty "list") (by rfl) B.list (by decide +kernel) rfl) (pa_cons (pe_bltn (v := .ty "tuple") (by rfl) B.tuple (by decide +kernel) rfl) pa_nil))) pa_nil))))
                (pss_cons ps_never (pss_cons ps_never (pss_cons ps_never (pss_cons ps_never (pss_one ps_never))))) pss_nil)
            (pss_cons (ps_if (pt_val (pe_callB call_isi (by rfl) B.isi (by decide +kernel) (pa_cons (pv 1) (pa_cons (C8.pe_gc (v := .ref C) (by rfl) hGr) pa_nil)))) (pss_one (ps_ret (pe_and (pe_callB call_isi (by rfl) B.isi (by decide +kernel) (pa_cons (pv 0) (pa_cons (C8.pe_gc (v := .ref C) (by rfl) hGr) pa_nil))) (pe_and (pe_cmpR op_eq (pe_fld (pv 0) rfl) (pe_fld (pv 1) rfl) (nomark _)) (pe_one (pe_cmpR (op_eqD hr.units) (pe_fld (pv 0) rfl) (pe_fld (pv 1) rfl) (nomark _))))))) pss_nil)
            (pss_cons (ps_if (pt_cmpR op_isN (pv 1) pe_non (nomark _)) (pss_one (ps_ret (pe_cmpR op_isN (pv 0) pe_non (nomark _)))) pss_nil)
            (pss_cons (ps_if (pt_cmpR op_isBx (pv 1) pe_bl (nomark _)) (pss_one (ps_ret (pe_cmpR op_isBx (pv 0) pe_bl (nomark _)))) pss_nil)
            (pss_cons (ps_if (pt_cmpR op_isBx (pv 1) pe_bl (nomark _)) (pss_one (ps_ret (pe_cmpR op_isBx (pv 0) pe_bl (nomark _)))) pss_nil)
            (pss_cons (ps_if (pt_val (pe_callB call_isi (by rfl) B.isi (by decide +kernel) (pa_cons (pv 1) (pa_cons (pe_bltn (v := .ty "str") (by rfl) B.str (by decide +kernel) rfl) pa_nil)))) (pss_one (ps_ret (pe_and (pe_callB call_isi (by rfl) B.isi (by decide +kernel) (pa_cons (pv 0) (pa_cons (pe_bltn (v := .ty "str") (by rfl) B.str (by decide +kernel) rfl) pa_nil))) (pe_one (pe_cmpR op_eq (pv 0) (pv 1) (nomark _)))))) pss_nil)
            (pss_one (ps_ret (pe_and (pe_callB call_isi (by rfl) B.isi (by decide +kernel) (pa_cons (pv 0) (pa_cons (pe_bltn (v := .ty "int") (by rfl) B.int (by decide +kernel) rfl) pa_nil))) (pe_and (pe_not (pe_callB call_isi (by rfl) B.isi (by decide +kernel) (pa_cons (pv 0) (pa_cons (pe_bltn (v := .ty "bool") (by rfl) B.bool (by decide +kernel) rfl) pa_nil)))) (pe_one (pe_cmpR op_eq (pv 0) (pv 1) (nomark _)))))))))))), ?_⟩
      obtain ⟨gd, ht1, ht2, hl1, hl2⟩ := hlf.tag
      refine ⟨_, rfl, (by show 2 ≤ sizeLine; decide), fun t0 ht0 => ?_⟩
      have s1 := same_new (o := .tup [.ty "list", .ty "tuple"]) ht0
      have hk : PySem.W.kitAny K (gd.v C) [.type "list", .type "tuple"] = some false :=
        kitAny_cons (kit_tag G gd .lst (by decide) (by decide)) (fun _ => kitAny_cons (kit_tag G gd .tup (by decide) (by decide)) (fun _ => kitAny_nil) (fun e2 => by cases gd <;> first | exact absurd rfl hl2 | exact absurd e2 (by decide))) (fun e1 => by cases gd <;> first | exact absurd rfl hl1 | exact absurd e1 (by decide))
      have g1 := tag_same s1 ht1
      have g2 := tag_same s1 ht2
      have q1 := q _ s1
      have hlf1 := hlf.kp (p := 0) (.of s1)
      have hup : (upd H t0 (.tup [.ty "list", .ty "tuple"])) t0 = some (.tup [.ty "list", .ty "tuple"]) := upd_same
      generalize upd H t0 (.tup [.ty "list", .ty "tuple"]) = H1 at s1 g1 g2 q1 hlf1 hup ⊢
      refine ⟨y, t0, _, _, _, _, rfl, hup, .cons (.ty _) (.cons (.ty _) .nil), tag_ty G g2, hk, _, rfl, iteF ?_⟩
      refine ⟨_, rfl, y, .ref C, _, _, _, rfl, .own _, tag_ty G g2, kit_gr G gd, _, rfl, ite2 (fun c => ?_) (fun c => ?_)⟩
      · -- a graph
        have c := of_decide_eq_true c
        rcases hlf1 with ⟨rfl, hsc, _⟩ | ⟨a, n, ps, rfl, rfl, gr⟩
        · subst c
          cases x <;> first | (cases g1; done) | (cases hsc; done)
        · refine ⟨_, rfl, .ref a, .ref C, _, _, _, rfl, .own _, tag_ty G g1, kit_gr G gd, _, rfl, ?_⟩
          rw [decide_eq_true c]
          obtain ⟨dx, e, vt, r, xs, rs, h1, h2, h3, h4, h5, h6⟩ := gr.ex
          refine iteT ?_
          refine ⟨_, rfl, a, C, dx, _, _, rfl, h1, G.cl, A.s, rfl, _, rfl, a, C, dx, _, _, rfl, h1, G.cl, A.s, rfl, rfl, _, rfl, ?_⟩
          rw [decide_eq_true rfl]
          refine iteT ?_
          have hd := dp_prs (K := K) h3
          have hsh := shaped_prs ps
          refine ⟨_, rfl, a, C, dx, _, .ref e, rfl, h1, G.cl, A.e, rfl, _, rfl, a, C, dx, _, .ref e, rfl, h1, G.cl, A.e, rfl, _, _, .tup (.inl (.inl h2)) hd, .tup (.inl (.inl h2)) hd, hsh, hsh, ?_⟩
          rw [SeqAt.eqv_refl _ (SeqAt.canLay_of_shaped hsh)]
          exact q1
      · have c : gd ≠ .gr := fun z => c (decide_eq_true z)
        rcases hlf1 with ⟨rfl, hsc, _⟩ | ⟨a, n, ps, rfl, rfl, gr⟩
        · cases x with
          | non => exact ⟨_, rfl, rfl, _, rfl, iteT ⟨_, rfl, rfl, q1⟩⟩
          | bl b =>
            refine ⟨_, rfl, rfl, _, rfl, iteF ?_⟩
            cases b with
            | true => exact ⟨_, rfl, true, rfl, rfl, _, rfl, iteT ⟨_, rfl, true, rfl, rfl, q1⟩⟩
            | false => exact ⟨_, rfl, true, rfl, rfl, _, rfl, iteF ⟨_, rfl, false, rfl, rfl, _, rfl, iteT ⟨_, rfl, false, rfl, rfl, q1⟩⟩⟩
          | int i =>
            cases ht1
            refine ⟨_, rfl, rfl, _, rfl, iteF ⟨_, rfl, true, rfl, rfl, _, rfl, iteF ⟨_, rfl, false, rfl, rfl, _, rfl, iteF ?_⟩⟩⟩
            refine ⟨_, rfl, _, .ty "str", _, _, _, rfl, .ty _, tag_ty G g2, kit_tag G .int .str (by decide) (by decide), _, rfl, iteF ?_⟩
            refine ⟨_, rfl, _, .ty "int", _, _, _, rfl, .ty _, tag_ty G g1, kit_tag G .int .int (by decide) (by decide), _, rfl, iteT ?_⟩
            refine ⟨_, rfl, _, .ty "bool", _, _, _, rfl, .ty _, tag_ty G g1, kit_tag G .int .bl (by decide) (by decide), _, rfl, _, rfl, iteT ?_⟩
            refine ⟨_, rfl, _, rfl, rfl, ?_⟩
            rw [decide_eq_true rfl]
            exact q1
          | str z =>
            cases ht1
            refine ⟨_, rfl, rfl, _, rfl, iteF ⟨_, rfl, true, rfl, rfl, _, rfl, iteF ⟨_, rfl, false, rfl, rfl, _, rfl, iteF ?_⟩⟩⟩
            refine ⟨_, rfl, _, .ty "str", _, _, _, rfl, .ty _, tag_ty G g2, kit_tag G .str .str (by decide) (by decide), _, rfl, iteT ?_⟩
            refine ⟨_, rfl, _, .ty "str", _, _, _, rfl, .ty _, tag_ty G g1, kit_tag G .str .str (by decide) (by decide), _, rfl, iteT ?_⟩
            refine ⟨_, rfl, _, rfl, rfl, ?_⟩
            rw [decide_eq_true rfl]
            exact q1
          | _ => cases hsc
        · exact absurd (Option.some.inj (g1.symm.trans gr.tag)) c
    · rcases hA with hlf | hnd
      · refine ⟨_, pss_cons (ps_if (pt_val (pe_callB call_isiT (by rfl) B.isi (by decide +kernel) (pa_cons (pv 1) (pa_cons (pe_tup (pa_cons (pe_bltn (v := .ty "list") (by rfl) B.list (by decide +kernel) rfl) (pa_cons (pe_bltn (v := .ty "tuple") (by rfl) B.tuple (by decide +kernel) rfl) pa_nil))) pa_nil))))
                  (pss_cons (ps_if (PW.pt (pw_and (pt_val (pe_callB call_isi (by rfl) B.isi (by decide +kernel) (pa_cons (pv 1) (pa_cons (pe_bltn (v := .ty "list") (by rfl) B.list (by decide +kernel) rfl) pa_nil)))) (pw_and1 (pt_not (pt_val (pe_callB call_isi (by rfl) B.isi (by decide +kernel) (pa_cons (pv 0) (pa_cons (pe_bltn (v := .ty "list") (by rfl) B.list (by decide +kernel) rfl) pa_nil)))))))) (pss_one (ps_ret pe_bl)) pss_nil)
                  (pss_cons (ps_if (PW.pt (pw_and (pt_val (pe_callB call_isi (by rfl) B.isi (by decide +kernel) (pa_cons (pv 1) (pa_cons (pe_bltn (v := .ty "tuple") (by rfl) B.tuple (by decide +kernel) rfl) pa_nil)))) (pw_and1 (pt_not (pt_val (pe_callB call_isi (by rfl) B.isi (by decide +kernel) (pa_cons (pv 0) (pa_cons (pe_bltn (v := .ty "tuple") (by rfl) B.tuple (by decide +kernel) rfl) pa_nil)))))))) (pss_one (ps_ret pe_bl)) pss_nil)
                  (pss_cons (ps_if (pt_cmpR op_ne (pe_callB call_len_seq (by rfl) B.len (by decide +kernel) (pa_cons (pv 0) pa_nil)) (pe_callB call_len_seq (by rfl) B.len (by decide +kernel) (pa_cons (pv 1) pa_nil)) (nomark _)) (pss_one (ps_ret pe_bl)) pss_nil)
                  (pss_cons (ps_for PassesOwn.never rfl (pi_range1 rfl B.range (pa_cons (pe_callB call_len_seq (by rfl) B.len (by decide +kernel) (pa_cons (pv 1) pa_nil)) pa_nil)) (pg_name (i := 2) scs__law_alike.nd rfl (Or.inl rfl))
                    (pss_one (ps_if (pt_not (pt_val (C8.pe_c cR hr (by omega) (by rfl) (pa_cons (pe_ix ix_seq (pv 0) (pv 2) (fun _ _ => rfl)) (pa_cons (pe_ix ix_seq (pv 1) (pv 2) (fun _ _ => rfl)) pa_nil))))) (pss_one (ps_ret pe_bl)) pss_nil)))
                  (pss_one (ps_ret pe_bl)))))) pss_nil)
              (pss_cons (ps_if (pt_val (pe_callB call_isi (by rfl) B.isi (by decide +kernel) (pa_cons (pv 1) (pa_cons (C8.pe_gc (v := .ref C) (by rfl) hGr) pa_nil)))) (pss_one (ps_ret (pe_and (pe_callB call_isi (by rfl) B.isi (by decide +kernel) (pa_cons (pv 0) (pa_cons (C8.pe_gc (v := .ref C) (by rfl) hGr) pa_nil))) (pe_and (pe_cmpR op_eq (pe_fld (pv 0) rfl) (pe_fld (pv 1) rfl) (nomark _)) (pe_one (pe_cmpR (op_eqD hr.units) (pe_fld (pv 0) rfl) (pe_fld (pv 1) rfl) (nomark _))))))) pss_nil)
              (pss_cons (ps_if (pt_cmpR op_isN (pv 1) pe_non (nomark _)) (pss_one (ps_ret (pe_cmpR op_isN (pv 0) pe_non (nomark _)))) pss_nil)
              (pss_cons (ps_if (pt_cmpR op_isBx (pv 1) pe_bl (nomark _)) (pss_one (ps_ret (pe_cmpR op_isBx (pv 0) pe_bl (nomark _)))) pss_nil)
              (pss_cons (ps_if (pt_cmpR op_isBx (pv 1) pe_bl (nomark _)) (pss_one (ps_ret (pe_cmpR op_isBx (pv 0) pe_bl (nomark _)))) pss_nil)
              (pss_cons (ps_if (pt_val (pe_callB call_isi (by rfl) B.isi (by decide +kernel) (pa_cons (pv 1) (pa_cons (pe_bltn (v := .ty "str") (by rfl) B.str (by decide +kernel) rfl) pa_nil)))) (pss_one (ps_ret (pe_and (pe_callB call_isi (by rfl) B.isi (by decide +kernel) (pa_cons (pv 0) (pa_cons (pe_bltn (v := .ty "str") (by rfl) B.str (by decide +kernel) rfl) pa_nil))) (pe_one (pe_cmpR op_eq (pv 0) (pv 1) (nomark _)))))) pss_nil)
              (pss_one (ps_ret (pe_and (pe_callB call_isi (by rfl) B.isi (by decide +kernel) (pa_cons (pv 0) (pa_cons (pe_bltn (v := .ty "int") (by rfl) B.int (by decide +kernel) rfl) pa_nil))) (pe_and (pe_not (pe_callB call_isi (by rfl) B.isi (by decide +kernel) (pa_cons (pv 0) (pa_cons (pe_bltn (v := .ty "bool") (by rfl) B.bool (by decide +kernel) rfl) pa_nil)))) (pe_one (pe_cmpR op_eq (pv 0) (pv 1) (nomark _)))))))))))), ?_⟩
        obtain ⟨gd, ht1, ht2, hl1, hl2⟩ := hlf.tag
        refine ⟨_, rfl, (by show 2 ≤ sizeLine; decide), fun t0 ht0 => ?_⟩
        have s1 := same_new (o := .tup [.ty "list", .ty "tuple"]) ht0
        have hk : PySem.W.kitAny K (gd.v C) [.type "list", .type "tuple"] = some false :=
          kitAny_cons (kit_tag G gd .lst (by decide) (by decide)) (fun _ => kitAny_cons (kit_tag G gd .tup (by decide) (by decide)) (fun _ => kitAny_nil) (fun e2 => by cases gd <;> first | exact absurd rfl hl2 | exact absurd e2 (by decide))) (fun e1 => by cases gd <;> first | exact absurd rfl hl1 | exact absurd e1 (by decide))
        have g1 := tag_same s1 ht1
        have g2 := tag_same s1 ht2
        have q1 := q _ s1
        have hlf1 := hlf.kp (p := 0) (.of s1)
        have hup : (upd H t0 (.tup [.ty "list", .ty "tuple"])) t0 = some (.tup [.ty "list", .ty "tuple"]) := upd_same
        generalize upd H t0 (.tup [.ty "list", .ty "tuple"]) = H1 at s1 g1 g2 q1 hlf1 hup ⊢
        refine ⟨y, t0, _, _, _, _, rfl, hup, .cons (.ty _) (.cons (.ty _) .nil), tag_ty G g2, hk, _, rfl, iteF ?_⟩
        refine ⟨_, rfl, y, .ref C, _, _, _, rfl, .own _, tag_ty G g2, kit_gr G gd, _, rfl, ite2 (fun c => ?_) (fun c => ?_)⟩
        · -- a graph
          have c := of_decide_eq_true c
          rcases hlf1 with ⟨rfl, hsc, _⟩ | ⟨a, n, ps, rfl, rfl, gr⟩
          · subst c
            cases x <;> first | (cases g1; done) | (cases hsc; done)
          · refine ⟨_, rfl, .ref a, .ref C, _, _, _, rfl, .own _, tag_ty G g1, kit_gr G gd, _, rfl, ?_⟩
            rw [decide_eq_true c]
            obtain ⟨dx, e, vt, r, xs, rs, h1, h2, h3, h4, h5, h6⟩ := gr.ex
            refine iteT ?_
            refine ⟨_, rfl, a, C, dx, _, _, rfl, h1, G.cl, A.s, rfl, _, rfl, a, C, dx, _, _, rfl, h1, G.cl, A.s, rfl, rfl, _, rfl, ?_⟩
            rw [decide_eq_true rfl]
            refine iteT ?_
            have hd := dp_prs (K := K) h3
            have hsh := shaped_prs ps
            refine ⟨_, rfl, a, C, dx, _, .ref e, rfl, h1, G.cl, A.e, rfl, _, rfl, a, C, dx, _, .ref e, rfl, h1, G.cl, A.e, rfl, _, _, .tup (.inl (.inl h2)) hd, .tup (.inl (.inl h2)) hd, hsh, hsh, ?_⟩
            rw [SeqAt.eqv_refl _ (SeqAt.canLay_of_shaped hsh)]
            exact q1
        · have c : gd ≠ .gr := fun z => c (decide_eq_true z)
          rcases hlf1 with ⟨rfl, hsc, _⟩ | ⟨a, n, ps, rfl, rfl, gr⟩
          · cases x with
            | non => exact ⟨_, rfl, rfl, _, rfl, iteT ⟨_, rfl, rfl, q1⟩⟩
            | bl b =>
              refine ⟨_, rfl, rfl, _, rfl, iteF ?_⟩
              cases b with
              | true => exact ⟨_, rfl, true, rfl, rfl, _, rfl, iteT ⟨_, rfl, true, rfl, rfl, q1⟩⟩
              | false => exact ⟨_, rfl, true, rfl, rfl, _, rfl, iteF ⟨_, rfl, false, rfl, rfl, _, rfl, iteT ⟨_, rfl, false, rfl, rfl, q1⟩⟩⟩
            | int i =>
              cases ht1
              refine ⟨_, rfl, rfl, _, rfl, iteF ⟨_, rfl, true, rfl, rfl, _, rfl, iteF ⟨_, rfl, false, rfl, rfl, _, rfl, iteF ?_⟩⟩⟩
              refine ⟨_, rfl, _, .ty "str", _, _, _, rfl, .ty _, tag_ty G g2, kit_tag G .int .str (by decide) (by decide), _, rfl, iteF ?_⟩
              refine ⟨_, rfl, _, .ty "int", _, _, _, rfl, .ty _, tag_ty G g1, kit_tag G .int .int (by decide) (by decide), _, rfl, iteT ?_⟩
              refine ⟨_, rfl, _, .ty "bool", _, _, _, rfl, .ty _, tag_ty G g1, kit_tag G .int .bl (by decide) (by decide), _, rfl, _, rfl, iteT ?_⟩
              refine ⟨_, rfl, _, rfl, rfl, ?_⟩
              rw [decide_eq_true rfl]
              exact q1
            | str z =>
              cases ht1
              refine ⟨_, rfl, rfl, _, rfl, iteF ⟨_, rfl, true, rfl, rfl, _, rfl, iteF ⟨_, rfl, false, rfl, rfl, _, rfl, iteF ?_⟩⟩⟩
              refine ⟨_, rfl, _, .ty "str", _, _, _, rfl, .ty _, tag_ty G g2, kit_tag G .str .str (by decide) (by decide), _, rfl, iteT ?_⟩
              refine ⟨_, rfl, _, .ty "str", _, _, _, rfl, .ty _, tag_ty G g1, kit_tag G .str .str (by decide) (by decide), _, rfl, iteT ?_⟩
              refine ⟨_, rfl, _, rfl, rfl, ?_⟩
              rw [decide_eq_true rfl]
              exact q1
            | _ => cases hsc
          · exact absurd (Option.some.inj (g1.symm.trans gr.tag)) c
      · refine ⟨_, pss_cons (ps_if (pt_val (pe_callB call_isiT (by rfl) B.isi (by decide +kernel) (pa_cons (pv 1) (pa_cons (pe_tup (pa_cons (pe_bltn (v := .ty "list") (by rfl) B.list (by decide +kernel) rfl) (pa_cons (pe_bltn (v := .ty "tuple") (by rfl) B.tuple (by decide +kernel) rfl) pa_nil))) pa_nil))))
                  (pss_cons (ps_if (PW.pt (pw_and (pt_val (pe_callB call_isi (by rfl) B.isi (by decide +kernel) (pa_cons (pv 1) (pa_cons (pe_bltn (v := .ty "list") (by rfl) B.list (by decide +kernel) rfl) pa_nil)))) (pw_and1 (pt_not (pt_val (pe_callB call_isi (by rfl) B.isi (by decide +kernel) (pa_cons (pv 0) (pa_cons (pe_bltn (v := .ty "list") (by rfl) B.list (by decide +kernel) rfl) pa_nil)))))))) (pss_one (ps_ret pe_bl)) pss_nil)
                  (pss_cons (ps_if (PW.pt (pw_and (pt_val (pe_callB call_isi (by rfl) B.isi (by decide +kernel) (pa_cons (pv 1) (pa_cons (pe_bltn (v := .ty "tuple") (by rfl) B.tuple (by decide +kernel) rfl) pa_nil)))) (pw_and1 (pt_not (pt_val (pe_callB call_isi (by rfl) B.isi (by decide +kernel) (pa_cons (pv 0) (pa_cons (pe_bltn (v := .ty "tuple") (by rfl) B.tuple (by decide +kernel) rfl) pa_nil)))))))) (pss_one (ps_ret pe_bl)) pss_nil)
                  (pss_cons (ps_if (pt_cmpR op_ne (pe_callB call_len_seq (by rfl) B.len (by decide +kernel) (pa_cons (pv 0) pa_nil)) (pe_callB call_len_seq (by rfl) B.len (by decide +kernel) (pa_cons (pv 1) pa_nil)) (nomark _)) (pss_one (ps_ret pe_bl)) pss_nil)
                  (pss_cons (ps_for PassesOwn.never rfl (pi_range1 rfl B.range (pa_cons (pe_callB call_len_seq (by rfl) B.len (by decide +kernel) (pa_cons (pv 1) pa_nil)) pa_nil)) (pg_name (i := 2) scs__law_alike.nd rfl (Or.inl rfl))
                    (pss_one (ps_if (pt_not (pt_val (C8.pe_c cR hr (by omega) (by rfl) (pa_cons (pe_ix ix_seq (pv 0) (pv 2) (fun _ _ => rfl)) (pa_cons (pe_ix ix_seq (pv 1) (pv 2) (fun _ _ => rfl)) pa_nil))))) (pss_one (ps_ret pe_bl)) pss_nil)))
                  (pss_one (ps_ret pe_bl)))))) pss_nil)
              (pss_cons (ps_if (pt_val (pe_callB call_isi (by rfl) B.isi (by decide +kernel) (pa_cons (pv 1) (pa_cons (C8.pe_gc (v := .ref C) (by rfl) hGr) pa_nil)))) (pss_one (ps_ret (pe_and (pe_callB call_isi (by rfl) B.isi (by decide +kernel) (pa_cons (pv 0) (pa_cons (C8.pe_gc (v := .ref C) (by rfl) hGr) pa_nil))) (pe_and (pe_cmpR op_eq (pe_fld (pv 0) rfl) (pe_fld (pv 1) rfl) (nomark _)) (pe_one (pe_cmpR (op_eqD hr.units) (pe_fld (pv 0) rfl) (pe_fld (pv 1) rfl) (nomark _))))))) pss_nil)
              (pss_cons (ps_if (pt_cmpR op_isN (pv 1) pe_non (nomark _)) (pss_one (ps_ret (pe_cmpR op_isN (pv 0) pe_non (nomark _)))) pss_nil)
              (pss_cons (ps_if (pt_cmpR op_isBx (pv 1) pe_bl (nomark _)) (pss_one (ps_ret (pe_cmpR op_isBx (pv 0) pe_bl (nomark _)))) pss_nil)
              (pss_cons (ps_if (pt_cmpR op_isBx (pv 1) pe_bl (nomark _)) (pss_one (ps_ret (pe_cmpR op_isBx (pv 0) pe_bl (nomark _)))) pss_nil)
              (pss_cons (ps_if (pt_val (pe_callB call_isi (by rfl) B.isi (by decide +kernel) (pa_cons (pv 1) (pa_cons (pe_bltn (v := .ty "str") (by rfl) B.str (by decide +kernel) rfl) pa_nil)))) (pss_one (ps_ret (pe_and (pe_callB call_isi (by rfl) B.isi (by decide +kernel) (pa_cons (pv 0) (pa_cons (pe_bltn (v := .ty "str") (by rfl) B.str (by decide +kernel) rfl) pa_nil))) (pe_one (pe_cmpR op_eq (pv 0) (pv 1) (nomark _)))))) pss_nil)
              (pss_one (ps_ret (pe_and (pe_callB call_isi (by rfl) B.isi (by decide +kernel) (pa_cons (pv 0) (pa_cons (pe_bltn (v := .ty "int") (by rfl) B.int (by decide +kernel) rfl) pa_nil))) (pe_and (pe_not (pe_callB call_isi (by rfl) B.isi (by decide +kernel) (pa_cons (pv 0) (pa_cons (pe_bltn (v := .ty "bool") (by rfl) B.bool (by decide +kernel) rfl) pa_nil)))) (pe_one (pe_cmpR op_eq (pv 0) (pv 1) (nomark _)))))))))))), ?_⟩
        obtain ⟨a, b, xs, ys, rfl, rfl, na, nb, ho, hl, hm, hc⟩ := hnd
        refine ⟨_, rfl, (by show 2 ≤ sizeLine; decide), fun t0 ht0 => ?_⟩
        have s1 := same_new (o := .tup [.ty "list", .ty "tuple"]) ht0
        have hup : (upd H t0 (.tup [.ty "list", .ty "tuple"])) t0 = some (.tup [.ty "list", .ty "tuple"]) := upd_same
        generalize upd H t0 (.tup [.ty "list", .ty "tuple"]) = H1 at s1 hup ⊢
        have ho1 : (H1 a = some (.lst xs) ∧ H1 b = some (.lst ys)) ∨ (H1 a = some (.tup xs) ∧ H1 b = some (.tup ys)) := ho.elim (fun h => .inl ⟨s1 _ _ h.1, s1 _ _ h.2⟩) fun h => .inr ⟨s1 _ _ h.1, s1 _ _ h.2⟩
        obtain ⟨gd, hgd, t1, t2⟩ : ∃ gd : Tg, (gd = .lst ∨ gd = .tup) ∧ tag C H1 (.ref a) = some gd ∧ tag C H1 (.ref b) = some gd := ho1.elim (fun h => ⟨.lst, .inl rfl, tag_lst h.1, tag_lst h.2⟩) fun h => ⟨.tup, .inr rfl, tag_tup h.1, tag_tup h.2⟩
        have hk : PySem.W.kitAny K (gd.v C) [.type "list", .type "tuple"] = some true :=
          kitAny_cons (kit_tag G gd .lst (by decide) (by decide)) (fun e1 => kitAny_cons (kit_tag G gd .tup (by decide) (by decide)) (fun e2 => by rcases hgd with rfl | rfl <;> first | exact absurd e1 (by decide) | exact absurd e2 (by decide)) (fun _ => rfl)) (fun _ => rfl)
        refine ⟨_, t0, _, _, _, _, rfl, hup, .cons (.ty _) (.cons (.ty _) .nil), tag_ty G t2, hk, _, rfl, iteT ?_⟩
        have ix : ∀ {H' : Hp}, Same H1 H' → ((SqL K H' a xs ∨ SqT K H' a xs) ∧ (SqL K H' b ys ∨ SqT K H' b ys)) := fun s' => ho1.elim (fun h => ⟨.inl (.inl (.inl (s' _ _ h.1))), .inl (.inl (.inl (s' _ _ h.2)))⟩) fun h => ⟨.inr (.inl (.inl (s' _ _ h.1))), .inr (.inl (.inl (s' _ _ h.2)))⟩
        rcases hgd with rfl | rfl
        all_goals
          refine ⟨_, rfl, _, .ty "list", _, _, _, rfl, .ty _, tag_ty G t2, kit_tag G _ .lst (by decide) (by decide), _, rfl, ?_⟩
        · refine iteT ⟨_, rfl, _, .ty "list", _, _, _, rfl, .ty _, tag_ty G t1, kit_tag G _ .lst (by decide) (by decide), _, rfl, iteF ?_⟩
          refine ⟨_, rfl, _, .ty "tuple", _, _, _, rfl, .ty _, tag_ty G t2, kit_tag G _ .tup (by decide) (by decide), _, rfl, iteF (iteF ?_)⟩
          refine ⟨_, rfl, a, xs, rfl, (ix (Same.refl _)).1, _, rfl, b, ys, rfl, (ix (Same.refl _)).2, rfl, _, rfl, ?_⟩
          refine iteNS (by rw [hl]) ?_
          refine ⟨_, rfl, b, ys, rfl, (ix (Same.refl _)).2, _, rfl, by omega, by omega, for_range (lo := 0) (n := ((ys.length : Nat) : Int).toNat) (fun i σ H' => Same H1 H' ∧ ∃ y2, σ = [some (.ref a), some (.ref b), y2]) ⟨Same.refl _, none, rfl⟩ ?_ ?_⟩
          · rintro i σ H2 hi ⟨s2, y2, rfl⟩
            rw [Int.toNat_natCast] at hi
            have hix : i < xs.length := by omega
            have ex : ((0 : Int) + (i : Int)) = (i : Int) := by omega
            refine ⟨_, rfl, _, rfl, ?_⟩
            have rix : ∀ {c : Addr} {zs : List V} {z : V}, (SqL K H2 c zs ∨ SqT K H2 c zs) → zs[i]? = some z → ∀ {Q' : VK}, Q' z H2 → rIx K (.ref c) (.int ((0 : Int) + (i : Int))) H2 Q' := fun {c zs z} h hz {Q'} q' => by
              rw [ex]
              rcases h with h | h
              · exact .inl ⟨c, zs, _, z, rfl, rfl, h, atI_nat hz, q'⟩
              · exact .inr (.inl ⟨c, zs, _, z, rfl, rfl, h, atI_nat hz, q'⟩)
            refine rix (ix s2).1 (List.getElem?_eq_getElem hix) ?_
            refine ⟨_, rfl, _, rfl, ?_⟩
            refine rix (ix s2).2 (List.getElem?_eq_getElem hi) ?_
            refine ⟨_, _, S, rfl, (hc i _ _ (List.getElem?_eq_getElem hix) (List.getElem?_eq_getElem hi)).same (s1.trans s2), fun H3 s3 => ⟨_, rfl, iteF ?_⟩⟩
            exact ⟨s2.trans s3, _, rfl⟩
          · rintro σ H2 ⟨s2, y2, rfl⟩
            exact q _ (s1.trans s2)
        · refine iteF (iteF ?_)
          refine ⟨_, rfl, _, .ty "tuple", _, _, _, rfl, .ty _, tag_ty G t2, kit_tag G _ .tup (by decide) (by decide), _, rfl, ?_⟩
          refine iteT ⟨_, rfl, _, .ty "tuple", _, _, _, rfl, .ty _, tag_ty G t1, kit_tag G _ .tup (by decide) (by decide), _, rfl, iteF ?_⟩
          refine ⟨_, rfl, a, xs, rfl, (ix (Same.refl _)).1, _, rfl, b, ys, rfl, (ix (Same.refl _)).2, rfl, _, rfl, ?_⟩
          refine iteNS (by rw [hl]) ?_
          refine ⟨_, rfl, b, ys, rfl, (ix (Same.refl _)).2, _, rfl, by omega, by omega, for_range (lo := 0) (n := ((ys.length : Nat) : Int).toNat) (fun i σ H' => Same H1 H' ∧ ∃ y2, σ = [some (.ref a), some (.ref b), y2]) ⟨Same.refl _, none, rfl⟩ ?_ ?_⟩
          · rintro i σ H2 hi ⟨s2, y2, rfl⟩
            rw [Int.toNat_natCast] at hi
            have hix : i < xs.length := by omega
            have ex : ((0 : Int) + (i : Int)) = (i : Int) := by omega
            refine ⟨_, rfl, _, rfl, ?_⟩
            have rix : ∀ {c : Addr} {zs : List V} {z : V}, (SqL K H2 c zs ∨ SqT K H2 c zs) → zs[i]? = some z → ∀ {Q' : VK}, Q' z H2 → rIx K (.ref c) (.int ((0 : Int) + (i : Int))) H2 Q' := fun {c zs z} h hz {Q'} q' => by
              rw [ex]
              rcases h with h | h
              · exact .inl ⟨c, zs, _, z, rfl, rfl, h, atI_nat hz, q'⟩
              · exact .inr (.inl ⟨c, zs, _, z, rfl, rfl, h, atI_nat hz, q'⟩)
            refine rix (ix s2).1 (List.getElem?_eq_getElem hix) ?_
            refine ⟨_, rfl, _, rfl, ?_⟩
            refine rix (ix s2).2 (List.getElem?_eq_getElem hi) ?_
            refine ⟨_, _, S, rfl, (hc i _ _ (List.getElem?_eq_getElem hix) (List.getElem?_eq_getElem hi)).same (s1.trans s2), fun H3 s3 => ⟨_, rfl, iteF ?_⟩⟩
            exact ⟨s2.trans s3, _, rfl⟩
          · rintro σ H2 ⟨s2, y2, rfl⟩
            exact q _ (s1.trans s2)
end
end Ev
namespace Ev
open PySem PySem.Spec PyProof.Rows L2
section
variable {P : Program} {w : World} {K : PySem.W.Frag} {mg : Str → Option Value} {base : Heap} {C : Addr}
theorem ok_law_copy0 {f : Addr} {fd : FuncData} (F : Fun K "_law_copy" "_law_copy" s__law_copy f fd) (G : GrT K C) (B : B0 mg) : FnOk P w K mg base CX0 (1 + 0) f fd ["value"] (spCopy C 0) := by
  refine F.ok scs__law_copy (fun vs H Q E h => ?_) (fun cdv A' outer s H vs Q E hr h => ?_)
  · obtain ⟨v, S, rfl, _⟩ := h
    rfl
  · obtain ⟨v, S, rfl, hT, hA, q⟩ := h
    refine ⟨_, pss_cons (ps_if (pt_val (pe_callB call_isi (by rfl) B.isi (by decide +kernel) (pa_cons (pv 0) (pa_cons (pe_bltn (v := .ty "list") (by rfl) B.list (by decide +kernel) rfl) pa_nil)))) (pss_one ps_never) pss_nil)
      (pss_cons (ps_if (pt_val (pe_callB call_isi (by rfl) B.isi (by decide +kernel) (pa_cons (pv 0) (pa_cons (pe_bltn (v := .ty "tuple") (by rfl) B.tuple (by decide +kernel) rfl) pa_nil)))) (pss_one ps_never) pss_nil)
      (pss_one (ps_ret (pv 0)))), ?_⟩
    obtain ⟨g, h1, _, n1, n2⟩ := Leaf.tag hA
    have e1 : g.is .lst = false := by cases g <;> first | rfl | exact absurd rfl n1
    have e2 : g.is .tup = false := by cases g <;> first | rfl | exact absurd rfl n2
    refine ⟨_, rfl, _, .ty "list", _, _, _, rfl, .ty _, tag_ty G h1, kit_tag G _ .lst (by decide) (by decide), _, rfl, ?_⟩
    rw [e1]
    refine iteF ⟨_, rfl, _, .ty "tuple", _, _, _, rfl, .ty _, tag_ty G h1, kit_tag G _ .tup (by decide) (by decide), _, rfl, ?_⟩
    rw [e2]
    exact iteF ⟨_, rfl, q _ _ (Same.refl _) hA⟩
/-- the list of copies, while it grows -/
structure CpInv (C : Addr) (S : Addr → Prop) (m : Nat) (H : Hp) (D : Addr) (xs : List V) (i : Nat) (H' : Hp) : Prop where
  s : Same H H'
  ex : ∃ ys, H' D = some (.lst ys) ∧ ys.length = i ∧ ∀ (j : Nat) (x y : V), xs[j]? = some x → ys[j]? = some y → Alk C (fun a => S a ∨ a = D) m H' x y
theorem CpInv.step {S : Addr → Prop} {m i : Nat} {H H' H2 : Hp} {D : Addr} {xs : List V} {x y : V} (c : CpInv C S m H D xs i H') (hD : H D = none) (s2 : Same H' H2) (hx : xs[i]? = some x) (hy : Alk C (fun a => S a ∨ a = D) m H2 x y) :
    ∃ acc, H2 D = some (.lst acc) ∧ acc.length = i ∧ CpInv C S m H D xs (i + 1) (upd H2 D (.lst (acc ++ [y]))) := by
  obtain ⟨ys, h1, h2, h3⟩ := c.ex
  refine ⟨ys, s2 _ _ h1, h2, ⟨fun b o e => by rw [upd_ne (ne_of_none e hD)]; exact s2 _ _ (c.s _ _ e), ys ++ [y], upd_same, by rw [List.length_append, h2]; rfl, fun j x' y' hx' hy' => ?_⟩⟩
  have kD := KP.put (p := D) (ws := ys ++ [y]) (s2 _ _ h1)
  by_cases hj : j < ys.length
  · rw [List.getElem?_append_left hj] at hy'
    exact ((h3 j x' y' hx' hy').same s2).kp (.inr rfl) kD
  · rw [List.getElem?_append_right (by omega)] at hy'
    have ej : j - ys.length = 0 := by
      have := (List.getElem?_eq_some_iff.mp hy').1
      simp at this
      omega
    rw [ej] at hy'
    have ej2 : j = i := by omega
    subst ej2
    rw [hx] at hx'
    cases hx'
    cases hy'
    exact hy.kp (.inr rfl) kD
theorem ok_law_copy1 {f : Addr} {fd : FuncData} (F : Fun K "_law_copy" "_law_copy" s__law_copy f fd) (G : GrT K C) (B : B0 mg) (m : Nat) (cR : Ca P w K mg base (1 + m) "_law_copy" (spCopy C m)) : FnOk P w K mg base CX0 (1 + (m + 1)) f fd ["value"] (spCopy C (m + 1)) := by
  have e8 : 1 + (m + 1) = (1 + m) + 1 := by omega
  rw [e8]
  refine F.ok scs__law_copy (fun vs H Q E h => ?_) (fun cdv A' outer s H vs Q E hr h => ?_)
  · obtain ⟨v, S, rfl, _⟩ := h
    rfl
  · obtain ⟨v, S, rfl, hT, hA, q⟩ := h
    refine ⟨_, pss_cons (ps_if (pt_val (pe_callB call_isi (by rfl) B.isi (by decide +kernel) (pa_cons (pv 0) (pa_cons (pe_bltn (v := .ty "list") (by rfl) B.list (by decide +kernel) rfl) pa_nil))))
        (pss_one (ps_ret (pe_lc (own := [("part", 1)]) (g := gName 1) (tt := tYes) rfl scs__law_copy.nd (pi_list (pv 0)) (blkOk_by (N := Ns__law_copy) (sc := defScope s__law_copy) (by decide +kernel))
          (fun _ _ _ _ _ => pg_name (i := 1) scs__law_copy.nd rfl (Or.inl rfl)) (fun _ _ _ _ _ => pts_nil) (fun _ _ _ _ _ => C8.pe_c cR (by exact hr) (by omega) (by rfl) (pa_cons (pv 1) pa_nil))))) pss_nil)
      (pss_cons (ps_if (pt_val (pe_callB call_isi (by rfl) B.isi (by decide +kernel) (pa_cons (pv 0) (pa_cons (pe_bltn (v := .ty "tuple") (by rfl) B.tuple (by decide +kernel) rfl) pa_nil))))
        (pss_one (ps_ret (pe_callTy call_tuple_of (by rfl) B.tuple (by decide +kernel) (pa_cons (pe_lc (own := [("part", 1)]) (g := gName 1) (tt := tYes) rfl scs__law_copy.nd (pi_tup (pv 0)) (blkOk_by (N := Ns__law_copy) (sc := defScope s__law_copy) (by decide +kernel))
          (fun _ _ _ _ _ => pg_name (i := 1) scs__law_copy.nd rfl (Or.inl rfl)) (fun _ _ _ _ _ => pts_nil) (fun _ _ _ _ _ => C8.pe_c cR (by exact hr) (by omega) (by rfl) (pa_cons (pv 1) pa_nil))) pa_nil)))) pss_nil)
      (pss_one (ps_ret (pv 0)))), ?_⟩
    rcases hA with hlf | ⟨a, b, xs, ys, rfl, e2, na, nb, ho, hl, hm, hc⟩
    · obtain ⟨g, h1, _, n1, n2⟩ := hlf.tag
      have e1 : g.is .lst = false := by cases g <;> first | rfl | exact absurd rfl n1
      have e2 : g.is .tup = false := by cases g <;> first | rfl | exact absurd rfl n2
      refine ⟨_, rfl, _, .ty "list", _, _, _, rfl, .ty _, tag_ty G h1, kit_tag G _ .lst (by decide) (by decide), _, rfl, ?_⟩
      rw [e1]
      refine iteF ⟨_, rfl, _, .ty "tuple", _, _, _, rfl, .ty _, tag_ty G h1, kit_tag G _ .tup (by decide) (by decide), _, rfl, ?_⟩
      rw [e2]
      exact iteF ⟨_, rfl, q _ _ (Same.refl _) (.inl hlf)⟩
    · cases e2
      have hself : ∀ (i : Nat) (x : V), xs[i]? = some x → Alk C S m H x x := fun i x hx => by
        have ho' : xs = ys := by
          rcases ho with ⟨h1, h2⟩ | ⟨h1, h2⟩ <;> (rw [h1] at h2; cases h2; rfl)
        exact hc i x x hx (ho' ▸ hx)
      have turn : ∀ {D : Addr} {i : Nat} {x : V} {H2 : Hp}, H D = none → CpInv C S m H D xs i H2 → xs[i]? = some x → ∀ {Q' : V → Hp → Prop}, (∀ H3 y, Same H2 H3 → Alk C (fun a => S a ∨ a = D) m H3 x y → Q' y H3) → spCopy C m [x] H2 Q' C8.E0 := fun {D i x H2} hD c hx {Q'} q' => by
        refine ⟨x, fun a => S a ∨ a = D, rfl, fun s hs => ?_, ?_, q'⟩
        · rcases hs with hs | rfl
          · obtain ⟨o, ho⟩ := hT s hs
            exact ⟨o, c.s _ _ ho⟩
          · obtain ⟨ys, h1, _⟩ := c.ex
            exact ⟨_, h1⟩
        · exact ((hself i x hx).more (T := fun a => S a ∨ a = D) fun s hs => hs.elim (fun h => .inl h) (fun h => .inr (h ▸ hD))).same c.s
      rcases ho with ⟨h1, _⟩ | ⟨h1, _⟩
      · have ht : tag C H (.ref a) = some .lst := tag_lst h1
        refine ⟨_, rfl, _, .ty "list", _, _, _, rfl, .ty _, tag_ty G ht, kit_tag G _ .lst (by decide) (by decide), _, rfl, iteT ?_⟩
        refine ⟨_, rfl, a, rfl, ⟨_, .inl (.inl h1)⟩, fun D hD => lc_list (K := K) (a := a) (xs := xs) (CpInv C S m H D xs) ⟨same_new hD, [], upd_same, rfl, by simp⟩ (fun i H' _ h => .inl (.inl (h.s _ _ h1))) ?_ ?_⟩
        · rintro i x H2 hx c
          refine ⟨rfl, tYes_i ?_⟩
          refine ⟨_, rfl, turn hD c hx fun H3 y s3 ay => ?_⟩
          obtain ⟨acc, e1, e2, e3⟩ := c.step hD s3 hx ay
          have := (List.getElem?_eq_some_iff.mp hx).1
          exact ⟨acc, e1, small1000 (by omega), e3⟩
        · rintro H2 ⟨s2, zs, e1, e2, e3⟩
          have hnD : ¬ S D := hT.ne hD
          refine q _ _ s2 (.inr ⟨a, D, xs, zs, rfl, rfl, na, hnD, .inl ⟨s2 _ _ h1, e1⟩, e2.symm, hm, fun i x y hx hy => ((e3 i x y hx hy).more fun s hs => .inl (.inl hs))⟩)
      · have ht : tag C H (.ref a) = some .tup := tag_tup h1
        refine ⟨_, rfl, _, .ty "list", _, _, _, rfl, .ty _, tag_ty G ht, kit_tag G _ .lst (by decide) (by decide), _, rfl, iteF ?_⟩
        refine ⟨_, rfl, _, .ty "tuple", _, _, _, rfl, .ty _, tag_ty G ht, kit_tag G _ .tup (by decide) (by decide), _, rfl, iteT ?_⟩
        refine ⟨_, rfl, a, rfl, ⟨_, .inl (.inl h1)⟩, fun D hD => lc_tup (K := K) (a := a) (xs := xs) (CpInv C S m H D xs) ⟨same_new hD, [], upd_same, rfl, by simp⟩ (fun i H' _ h => .inl (.inl (h.s _ _ h1))) ?_ ?_⟩
        · rintro i x H2 hx c
          refine ⟨rfl, tYes_i ?_⟩
          refine ⟨_, rfl, turn hD c hx fun H3 y s3 ay => ?_⟩
          obtain ⟨acc, e1, e2, e3⟩ := c.step hD s3 hx ay
          have := (List.getElem?_eq_some_iff.mp hx).1
          exact ⟨acc, e1, small1000 (by omega), e3⟩
        · rintro H2 ⟨s2, zs, e1, e2, e3⟩
          refine ⟨D, zs, rfl, .inl ⟨.inl (.inl e1), fun t ht => ?_⟩⟩
          have st := same_new (o := .tup zs) ht
          have htS : ¬ S t := fun z => by
            obtain ⟨o, ho⟩ := hT t z
            rw [s2.free ht] at ho
            cases ho
          refine q _ _ (s2.trans st) (.inr ⟨a, t, xs, zs, rfl, rfl, na, htS, .inr ⟨st _ _ (s2 _ _ h1), upd_same⟩, e2.symm, hm, fun i x y hx hy => ((e3 i x y hx hy).same st).more fun s hs => .inl (.inl hs)⟩)
end
end Ev
namespace Ev
open PySem PySem.Spec PyProof.Rows L2
abbrev NoS : Addr → Prop := fun _ => False
theorem Alk.bare {C : Addr} {S : Addr → Prop} {H : Hp} {n : Nat} {x y : V} (h : Alk C S n H x y) : Alk C NoS n H x y := h.more fun _ z => z.elim
theorem alk_pairs {C : Addr} {H : Hp} {xs ys : List V} {ps : List (Int × Int)} {n : Int} (h1 : PrsAt H xs ps) (h2 : PrsAt H ys ps) (hb : Good n ps) (hn : n ≤ 100) : ∀ (i : Nat) (x y : V), xs[i]? = some x → ys[i]? = some y → Alk C NoS 1 H x y := fun i x y hx hy => by
  obtain ⟨q, hq, t, rfl, ht⟩ := paired_get h1 hx
  obtain ⟨q2, hq2, u, rfl, hu⟩ := paired_get h2 hy
  rw [hq] at hq2
  cases hq2
  have := hb.bd q (List.mem_of_getElem? hq)
  refine .inr ⟨t, u, _, _, rfl, rfl, id, id, .inr ⟨ht, hu⟩, rfl, (by show 2 ≤ 1000; decide), fun j x y hx hy => ?_⟩
  rw [hx] at hy
  cases hy
  match j, hx with
  | 0, hx => cases hx; exact .inl ⟨rfl, rfl, by unfold bnd; omega⟩
  | 1, hx => cases hx; exact .inl ⟨rfl, rfl, by unfold bnd; omega⟩
  | j + 2, hx => simp at hx
theorem alk_two {C : Addr} {H : Hp} {n : Nat} {a b : Addr} {x1 x2 y1 y2 : V} (h : (H a = some (.lst [x1, x2]) ∧ H b = some (.lst [y1, y2])) ∨ (H a = some (.tup [x1, x2]) ∧ H b = some (.tup [y1, y2]))) (h1 : Alk C NoS n H x1 y1) (h2 : Alk C NoS n H x2 y2) :
    Alk C NoS (n + 1) H (.ref a) (.ref b) := .inr ⟨a, b, _, _, rfl, rfl, id, id, h, rfl, (by show 2 ≤ 1000; decide), fun j x y hx hy => by
  match j, hx, hy with
  | 0, hx, hy => cases hx; cases hy; exact h1
  | 1, hx, hy => cases hx; cases hy; exact h2
  | j + 2, hx, hy => simp at hx⟩
theorem alk_leafref {C : Addr} {H : Hp} {a : Addr} {xs : List V} (ha : H a = some (.tup xs)) (h : Leaf C H (.ref a) (.ref a)) : False := by
  rcases h with ⟨_, hs, _⟩ | ⟨a', n', ps, e1, e2, hg'⟩
  · cases hs
  · cases e1
    obtain ⟨dx, e, vt, r, xs', rs, h1, _⟩ := hg'.ex
    rw [ha] at h1
    cases h1
theorem alk_kd {C : Addr} {S : Addr → Prop} {H : Hp} {n : Nat} {v : V} (h : Alk C S (n + 1) H v v) : Kd C H v := by
  obtain ⟨g, hg, _⟩ := h.tag
  refine ⟨⟨g, hg⟩, fun xs hx => ?_⟩
  obtain ⟨a, rfl, ha⟩ := tupOf_at hx
  rcases h with hlf | ⟨a', b', ps, ys, e1, e2, _, _, ho, hl, hm, hc⟩
  · exact (alk_leafref ha hlf).elim
  · cases e1
    cases e2
    have ex : ps = xs ∧ ys = xs := by
      rcases ho with ⟨h1, h2⟩ | ⟨h1, h2⟩
      · rw [ha] at h1; cases h1
      · rw [ha] at h1 h2; cases h1; cases h2; exact ⟨rfl, rfl⟩
    obtain ⟨rfl, e⟩ := ex
    subst e
    refine ⟨hm, fun x hx' => ?_⟩
    obtain ⟨i, hi⟩ := List.getElem?_of_mem hx'
    obtain ⟨g, h1, _⟩ := (hc i x x hi hi).tag
    exact ⟨g, h1⟩
theorem tupOf_eq {C : Addr} {H H' : Hp} {v : V} (hk : Kd C H v) (s : Same H H') : tupOf H' v = tupOf H v := by
  obtain ⟨⟨g, hg⟩, _⟩ := hk
  cases v with
  | ref a =>
    unfold tag at hg
    unfold tupOf
    dsimp only at hg ⊢
    cases e : H a with
    | none => rw [e] at hg; cases hg
    | some o => rw [s _ _ e]
  | _ => rfl
theorem subV_eq {C : Addr} {H H' : Hp} {v : V} {n : Int} (hk : Kd C H v) (s : Same H H') : subV H' v n = subV H v n := by
  unfold subV
  rw [tupOf_eq hk s]
theorem map_int_inj : ∀ {a b : List Int}, a.map V.int = b.map V.int → a = b
  | [], [], _ => rfl
  | [], _ :: _, h => by cases h
  | _ :: _, [], h => by cases h
  | x :: a, y :: b, h => by
    obtain ⟨h1, h2⟩ := List.cons.inj h
    rw [V.int.inj h1, map_int_inj h2]
end Ev
namespace Ev
open PySem PySem.Spec PyProof.Rows L2
/-! ### isinstance of a caught error that has its dict -/
def rIsX (K : PySem.W.Frag) (a : Addr) (cls : Value) (d : Option Addr) : List V → Hp → VK → Prop := fun xs H Q => ∃ (D : Addr) (c : V) (cv : Value) (b : Bool) (dd : Addr) (fs : List (Str × V)), xs = [.ref a, c] ∧ cls = .ref D ∧ d = some dd ∧ H dd = some (.xd fs) ∧ ExcC K D ∧ ClsV c cv ∧
  PySem.W.kitOne K (.ref D) cv = some b ∧ Q (.bl b) H
theorem call_isX {X : Cx} {a : Addr} {cls : Value} {d : Option Addr} {oe : Obj} {pn : List (Addr × Obj)} (hz : Zc cls d oe) (hf : ∃ vs, oe.data = .fields vs) : CallR (X.suite a ((a, oe) :: pn)) (.builtin "isinstance") (rIsX X.K a cls d) := by
  intro pins s σ H xs us Q I r h
  obtain ⟨D, c, cv, b, dd, fs, rfl, ec, ed, hd, C, hcv, e, q⟩ := h
  cases r with
  | cons rx rr =>
    cases rr with
    | cons rt rr =>
      cases rr
      cases rx
      have ecv := hcv.eq rt
      subst ecv
      subst ec
      subst ed
      obtain ⟨hget, _⟩ := I.pin (a, oe) (List.mem_append.mpr (.inl List.mem_cons_self))
      obtain ⟨vs, hv⟩ := hf
      have hx : ObjOk X.prog X.w H s.heap dd (.xd fs) := I.hok dd _ hd
      obtain ⟨mA, hns, hr⟩ := hx
      obtain ⟨od, ho, hl⟩ := lookIn_ns hns
      have J : PySem.W.InstAt s.heap a oe D (some od) := ⟨hget, hz.1, by unfold PySem.W.notCls; rw [hv] <;> rfl, by rw [hz.2]; exact ho⟩
      obtain ⟨cd, hcd, _⟩ := PySem.W.any_some C.hd
      exact PySem.W.kia_one (PySem.W.kitx_exc (by rw [hcd]; rfl) C.hg C.hk C.hs C.ha C.hn C.ht C.hm) I.kIn J e (fun z => nomatch z) fun tk => ⟨.bl b, H, I.kept (t' := tk) fun _ _ z => z, rfl, q⟩
/-! ### a class that a name of the def holds, called -/
def tMakeL (i : Nat) (C : Addr) (sp : Sp) (E : XK) (t : TA) : TE := fun σ H Q => σ[i]? = some (some (.ref C)) ∧ t σ H fun vs H1 => ∀ x dx, H1 x = none → H1 dx = none → dx ≠ x → sp (.ref x :: vs) (upd (upd H1 dx (.own x)) x (.ins C dx [])) (fun v H2 => v = .non ∧ Q (.ref x) H2) E
section
variable {X : Cx} {CX : CXT} {k i : Nat} {f C : Addr} {fd : FuncData} {ps : List Str} {sp : Sp} {E : XK} {x : Str} {p pos : Pos} {e : Expr} {es : List Expr} {t : TA}
theorem pe_makeL (M : Mk X.K C f) (F : FnOk X.prog X.w X.K X.mg X.base CX k f fd ps sp) (hr : Room (k + 1) X.A) (hb : Binds X.K fd ps []) (hx : Passes CX X E) (hN : X.N[i]? = some x) (hv : Vis X.env.scope x) (ha : PA X (e :: es) t)
    (hdb : (x == ("__debug__" : Str)) = false := by decide) (hcd : (x == ("__classdict__" : Str)) = false := by decide)
    (he : starEach (e :: es) X.env = (false, eval e X.env) :: starEach es X.env := by rfl) (hpl : (backTo pos (starEach es X.env)).any (·.1) = false := by rfl) : PE X (.Call (.Name x p) (e :: es) [] pos) (tMakeL i C sp E t) := by
  refine ⟨fun pins s σ H Q I h => ?_⟩
  obtain ⟨hs, ht⟩ := h
  refine wpAny_Call_Name_kw (thn ((pe_var (pos := p) hN hv hdb hcd).run pins s σ H (fun v H1 => v = .ref C ∧ H1 = H) I ⟨.ref C, hs, rfl, rfl⟩) fun u s1 ⟨v, H1, I1, r1, q1⟩ => ?_)
  obtain ⟨rfl, rfl⟩ := q1
  cases r1
  refine PySem.W.callWith_K (h₀ := X.base) I.ok.mod.kin M.kp (thn (ha.run pos pins s1 σ _ _ I1 ht) fun us s2 ⟨vs, H2, I2, r, q⟩ => ⟨I2.kIn, ?_⟩) he hpl
  exact run_make M F hr hb .nil hx I2 r (fun x dx h1 h2 h3 => by rw [List.append_nil]; exact q x dx h1 h2 h3)
end
/-! ### C.m(..), m a classmethod, where what is raised is wished for at the slots -/
def tCMethS (C : Addr) (sp : Sp) (E : L2.St → XK) (ta : TE) (t : TA) : TE := fun σ H Q => ta σ H fun x H1 => x = .ref C ∧ t σ H1 fun vs H2 => sp (.ref C :: vs) H2 Q (E σ)
def tCMethK (C : Addr) (sp : Sp) (n : Nat) (gV : List V → List V) (E : L2.St → XK) (ta : TE) (tk : TA) : TE := fun σ H Q => ta σ H fun x H1 => x = .ref C ∧ tk σ H1 fun zs H2 => zs.length = n ∧ sp (.ref C :: gV zs) H2 Q (E σ)
section
variable {X : Cx} {CX : CXT} {k : Nat} {C p g : Addr} {mc : Value} {fd : FuncData} {ps ks : List Str} {sp : Sp} {E : L2.St → XK} {o e : Expr} {es : List Expr} {m : Str} {pos apos : Pos} {ta : TE} {t tk : TA} {pl : Sem Bool} {kws : List Keyword}
theorem run_cmS {pins : List (Addr × Obj)} {σ : L2.St} {H : Hp} {s : Shared} {q : Addr} {Q : VK} {us : List Value} {kw : List (Str × Value)} {zs : List V} {ws : List Value} (F : FnOk X.prog X.w X.K X.mg X.base CX k g fd ps sp) (hr : Room k X.A) (hx : PassesAt CX X σ (E σ)) (I : Inv X ((q, PySem.W.methodObj (.ref g) (.ref C)) :: pins) σ H s)
    (hb : BindsTo s fd ⟨.ref C :: us, kw⟩ (ps.zip (.ref C :: ws))) (r : Vals zs ws) (h : sp (.ref C :: zs) H Q (E σ)) : wpAny (model X.prog X.w) X.A (call (.ref q) us kw) (EP X pins σ Q) X.xe s := by
  have z : wpAny (model X.prog X.w) X.A (call (.ref q) us kw) (EP X ((q, PySem.W.methodObj (.ref g) (.ref C)) :: pins) σ Q) X.xe s := by
    refine wpAny_call (PySem.W.method_call (ClX.pin_at I) (codeAny_mono (F.run X.A X.stack s H ⟨.ref C :: us, kw⟩ (.ref C :: ws) (.ref C :: zs) Q (E σ) hr I.env0 hb (.cons rfl r) h) fun r s' hq => ?_))
    cases r with
    | error e => exact hx _ H s e s' I hq
    | ok fl =>
      cases fl with
      | ret u => exact I.after hq
      | next => exact False.elim hq
      | brk => exact False.elim hq
      | cont => exact False.elim hq
  exact thn z fun _ _ y => ClX.unpinE y
theorem pe_cmethS (he : PE X o ta) (r : ClX.CRead X.K C mc) (c : ClX.CMet X.K C mc m p g) (F : FnOk X.prog X.w X.K X.mg X.base CX k g fd ps sp) (hb : Binds X.K fd ps []) (hr : Room k X.A) (hx : ∀ σ, PassesAt CX X σ (E σ)) (ha : PA X (e :: es) t)
    (hst : starEach (e :: es) X.env = (false, eval e X.env) :: starEach es X.env := by rfl) (hpl : (backTo pos (starEach es X.env)).any (·.1) = false := by rfl)
    (ht : eval (.Call (.Attribute o m apos) (e :: es) [] pos) X.env = (do
      let ov ← eval o X.env
      standAt apos.atName
      let (f, first) ← holding [ov] (getMethod ov m pl)
      callWith pos f first (backTo pos (starEach (e :: es) X.env)) (backToKw pos (keywordEach [] X.env))) := by rfl) :
    PE X (.Call (.Attribute o m apos) (e :: es) [] pos) (tCMethS C sp E ta t) := by
  refine ⟨fun pins s σ H Q I h => ?_⟩
  refine PySem.W.methodCall_KW (pl := pl) (thn (he.run pins s σ H _ I h) fun u s1 ⟨x, H1, I1, rx, ex, q⟩ => ?_) ht
  subst ex
  obtain rfl : u = Value.ref C := rx
  refine ClX.getmethcm_ok I1 r c fun s2 I2 => ?_
  refine ClX.callwith_cm I2 (ClX.base_none I1 (Nat.le_refl _)) c.fi (thn (ha.run pos _ s2 σ H1 _ I2 q) fun us s3 ⟨vs, H2, I3, rv, q2⟩ => ⟨⟨ClX.pin_at I3, I3.kIn⟩, ?_⟩) hst hpl
  have r2 : Vals (V.ref C :: vs) (Value.ref C :: us) := .cons rfl rv
  have hl : (Value.ref C :: us).length = ps.length := by rw [← r2.length]; exact F.len _ _ _ _ q2
  have b := hb s3 (Value.ref C :: us) I3.kIn (by rw [List.append_nil]; exact hl)
  rw [List.append_nil] at b
  exact run_cmS F hr (hx σ) I3 b rv q2
theorem pe_cmethK {gV : List V → List V} {gW : List Value → List Value} (he : PE X o ta) (r : ClX.CRead X.K C mc) (c : ClX.CMet X.K C mc m p g) (F : FnOk X.prog X.w X.K X.mg X.base CX k g fd ps sp)
    (hb : ∀ (s : Shared) (u : Value) (ws : List Value), X.K.In s.heap → ws.length = ks.length → BindsTo s fd ⟨[u], ks.zip ws⟩ (ps.zip (u :: gW ws))) (hv : ∀ {zs : List V} {ws : List Value}, Vals zs ws → Vals (gV zs) (gW ws)) (hr : Room k X.A) (hx : ∀ σ, PassesAt CX X σ (E σ))
    (hkw : PK X kws tk) (hall : (backToKw pos (keywordEach kws X.env)).all (·.1.isSome) = true := by rfl) (hks : (backToKw pos (keywordEach kws X.env)).filterMap (·.1) = ks := by rfl)
    (hpl : ((backTo pos (starEach [] X.env)).any (·.1) || (backToKw pos (keywordEach kws X.env)).any (·.1.isNone)) = false := by rfl)
    (ht : eval (.Call (.Attribute o m apos) [] kws pos) X.env = (do
      let ov ← eval o X.env
      standAt apos.atName
      let (f, first) ← holding [ov] (getMethod ov m pl)
      callWith pos f first (backTo pos (starEach [] X.env)) (backToKw pos (keywordEach kws X.env))) := by rfl) :
    PE X (.Call (.Attribute o m apos) [] kws pos) (tCMethK C sp ks.length gV E ta tk) := by
  refine ⟨fun pins s σ H Q I h => ?_⟩
  refine PySem.W.methodCall_KW (pl := pl) (thn (he.run pins s σ H _ I h) fun u s1 ⟨x, H1, I1, rx, ex, q⟩ => ?_) ht
  subst ex
  obtain rfl : u = Value.ref C := rx
  refine ClX.getmethcm_ok I1 r c fun s2 I2 => ?_
  refine PySem.W.callWith_of (P := PySem.W.MethP X.K s1.heap.objs.size g (.ref C)) hpl (PySem.W.keeps_M c.fi) (PyProof.Rows.evalArgs_kw2_nil hall (thn (hkw.run pos _ s2 σ H1 _ I2 q) fun ws s3 ⟨zs, H2, I3, rz, lz, q2⟩ => ⟨⟨ClX.pin_at I3, I3.kIn⟩, ?_⟩))
  rw [hks]
  exact run_cmS F hr (hx σ) I3 (hb s3 (.ref C) ws I3.kIn (rz.length.symm.trans lz)) (hv rz) q2
end
def sw2 {α : Type} : List α → List α
  | [a, b] => [b, a]
  | l => l
theorem vals_sw2 {zs : List V} {ws : List Value} (r : Vals zs ws) : Vals (sw2 zs) (sw2 ws) := by
  cases r with
  | nil => exact .nil
  | cons r1 r =>
    cases r with
    | nil => exact .cons r1 .nil
    | cons r2 r =>
      cases r with
      | nil => exact .cons r2 (.cons r1 .nil)
      | cons r3 r => exact .cons r1 (.cons r2 (.cons r3 r))
/-! ### an error class with one field -/
structure OneF (K : PySem.W.Frag) (C fI : Addr) (f : Str) : Prop where
  ox : OexC K C
  no : PySem.W.findIn K (.ref C) f = some none
  iC : PySem.W.findIn K (.ref C) "__init__" = some (some (.ref fI))
  tI : PySem.W.typeIn K (.ref fI) = some (.type "function")
  xf : XfC K C
  ec : ExcC K C
def spOne (K : PySem.W.Frag) (f : Str) : Sp := fun vs H Q _ => ∃ (a C : Addr) (v : V), vs = [.ref a, v] ∧ H a = some (exo a C none) ∧ OexC K C ∧ PySem.W.findIn K (.ref C) f = some none ∧ ∀ dx, H dx = none → dx ≠ a → Q .non (upd (upd H dx (exd dx [(f, v)])) a (exo a C (some dx)))
/-- what such a raise leaves -/
def OneMade (f : Str) (v : V) (H : Hp) (d : Option Addr) (H' : Hp) : Prop := ∃ dd, d = some dd ∧ H' dd = some (.xd [(f, v)]) ∧ Same H H'
theorem mk_one {K : PySem.W.Frag} {C fI : Addr} {f : Str} (T : OneF K C fI f) {v : V} {H : Hp} {E : XK} (h : ∀ d H', OneMade f v H d H' → E (.ref C) d H') : ∀ {ta : TA} {σ : L2.St}, ta σ H (fun vs H1 => vs = [v] ∧ H1 = H) → True := fun _ => trivial
theorem one_end {K : PySem.W.Frag} {C fI : Addr} {f : Str} (T : OneF K C fI f) {v : V} {H1 : Hp} {E : XK} (h : ∀ d H', OneMade f v H1 d H' → E (.ref C) d H') :
    ∀ a, H1 a = none → spOne K f (.ref a :: ([v] ++ [])) (upd H1 a (exo a C none))
      (fun v H2 => v = .non ∧ ∃ (d : Addr) (fs : List (Str × V)), H2 a = some (exo a C (some d)) ∧ H2 d = some (exd d fs) ∧ H1 d = none ∧ E (.ref C) (some d) (upd (L2.del H2 a) d (.xd fs))) (fun _ _ _ => False) := by
  intro a ha
  refine ⟨a, C, v, rfl, upd_same, T.ox, T.no, fun dx hdx hne => ⟨rfl, dx, [(f, v)], upd_same, ?_, ?_, ?_⟩⟩
  · rw [upd_ne hne]; exact upd_same
  · rw [upd_ne hne] at hdx; exact hdx
  · refine h _ _ ⟨dx, rfl, upd_same, fun b o e => ?_⟩
    have hba : b ≠ a := ne_of_none e ha
    have hbd : b ≠ dx := fun z => by
      rw [← z, upd_ne hba, e] at hdx
      cases hdx
    rw [upd_ne hbd, L2.del_ne hba, upd_ne hba, upd_ne hbd, upd_ne hba]
    exact e
end Ev
namespace Ev
open PySem PySem.Spec PyProof.Rows L2
/-! ### a method of an instance, where what is raised is wished for at the slots: by place, by name -/
def tMethS (C : Addr) (m : Str) (sp : Sp) (E : L2.St → XK) (ta : TE) (t : TA) : TE := fun σ H Q => ta σ H fun x H1 => ∃ a dx fs, x = .ref a ∧ H1 a = some (.ins C dx fs) ∧ fs.lookup m = none ∧ t σ H1 fun vs H2 => sp (.ref a :: vs) H2 Q (E σ)
def tMethK (C : Addr) (m : Str) (sp : Sp) (n : Nat) (gV : List V → List V) (E : L2.St → XK) (ta : TE) (tk : TA) : TE := fun σ H Q => ta σ H fun x H1 => ∃ a dx fs, x = .ref a ∧ H1 a = some (.ins C dx fs) ∧ fs.lookup m = none ∧ tk σ H1 fun zs H2 => zs.length = n ∧ sp (.ref a :: gV zs) H2 Q (E σ)
section
variable {X : Cx} {CX : CXT} {k : Nat} {C f : Addr} {fd : FuncData} {ps ks : List Str} {sp : Sp} {E : L2.St → XK} {o e : Expr} {es : List Expr} {m : Str} {pos apos : Pos} {ta : TE} {t tk : TA} {pl : Sem Bool} {kws : List Keyword}
theorem run_fnKS {pins : List (Addr × Obj)} {σ : L2.St} {H : Hp} {s : Shared} {Q : VK} {us : List Value} {kw : List (Str × Value)} {ws : List Value} {vs : List V} (F : FnOk X.prog X.w X.K X.mg X.base CX k f fd ps sp) (hr : Room k X.A) (hx : PassesAt CX X σ (E σ)) (I : Inv X pins σ H s)
    (hb : BindsTo s fd ⟨us, kw⟩ (ps.zip ws)) (r : Vals vs ws) (h : sp vs H Q (E σ)) : wpAny (model X.prog X.w) X.A (call (.ref f) us kw) (EP X pins σ Q) X.xe s := by
  refine wpAny_call (codeAny_mono (F.run X.A X.stack s H ⟨us, kw⟩ ws vs Q (E σ) hr I.env0 hb r h) fun r s' hq => ?_)
  cases r with
  | error e => exact hx _ H s e s' I hq
  | ok fl =>
    cases fl with
    | ret u => exact I.after hq
    | next => exact False.elim hq
    | brk => exact False.elim hq
    | cont => exact False.elim hq
theorem pe_methS (he : PE X o ta) (c : Cls X.K C) (hm : Meth X.K C m f) (F : FnOk X.prog X.w X.K X.mg X.base CX k f fd ps sp) (hr : Room k X.A) (hb : Binds X.K fd ps []) (hx : ∀ σ, PassesAt CX X σ (E σ)) (ha : PA X (e :: es) t)
    (hst : starEach (e :: es) X.env = (false, eval e X.env) :: starEach es X.env := by rfl) (hpl : (backTo pos (starEach es X.env)).any (·.1) = false := by rfl)
    (ht : eval (.Call (.Attribute o m apos) (e :: es) [] pos) X.env = (do
      let ov ← eval o X.env
      standAt apos.atName
      let (f, first) ← holding [ov] (getMethod ov m pl)
      callWith pos f first (backTo pos (starEach (e :: es) X.env)) (backToKw pos (keywordEach [] X.env))) := by rfl) :
    PE X (.Call (.Attribute o m apos) (e :: es) [] pos) (tMethS C m sp E ta t) := by
  refine ⟨fun pins s σ H Q I h => ?_⟩
  refine PySem.W.methodCall_KW (pl := pl) (thn (he.run pins s σ H _ I h) fun u s1 ⟨x, H1, I1, rx, a, dx, fs, ex, ea, l, q⟩ => ?_) ht
  subst ex
  obtain rfl : u = Value.ref a := rx
  refine getmeth_ok I1 ea c hm l ?_
  refine PySem.W.callWith_K (first := [.ref a]) (h₀ := X.base) I.ok.mod.kin hm.kp (thn (ha.run pos pins s1 σ H1 _ I1 q) fun us s2 ⟨vs, H2, I2, r, q2⟩ => ⟨I2.kIn, ?_⟩) hst hpl
  exact run_fnS (us := .ref a :: us) (vs := .ref a :: vs) F hr hb (hx σ) I2 (.cons rfl r) q2
theorem pe_methK {gV : List V → List V} {gW : List Value → List Value} (he : PE X o ta) (c : Cls X.K C) (hm : Meth X.K C m f) (F : FnOk X.prog X.w X.K X.mg X.base CX k f fd ps sp)
    (hb : ∀ (s : Shared) (u : Value) (ws : List Value), X.K.In s.heap → ws.length = ks.length → BindsTo s fd ⟨[u], ks.zip ws⟩ (ps.zip (u :: gW ws))) (hv : ∀ {zs : List V} {ws : List Value}, Vals zs ws → Vals (gV zs) (gW ws)) (hr : Room k X.A) (hx : ∀ σ, PassesAt CX X σ (E σ))
    (hkw : PK X kws tk) (hall : (backToKw pos (keywordEach kws X.env)).all (·.1.isSome) = true := by rfl) (hks : (backToKw pos (keywordEach kws X.env)).filterMap (·.1) = ks := by rfl)
    (hpl : ((backTo pos (starEach [] X.env)).any (·.1) || (backToKw pos (keywordEach kws X.env)).any (·.1.isNone)) = false := by rfl)
    (ht : eval (.Call (.Attribute o m apos) [] kws pos) X.env = (do
      let ov ← eval o X.env
      standAt apos.atName
      let (f, first) ← holding [ov] (getMethod ov m pl)
      callWith pos f first (backTo pos (starEach [] X.env)) (backToKw pos (keywordEach kws X.env))) := by rfl) :
    PE X (.Call (.Attribute o m apos) [] kws pos) (tMethK C m sp ks.length gV E ta tk) := by
  refine ⟨fun pins s σ H Q I h => ?_⟩
  refine PySem.W.methodCall_KW (pl := pl) (thn (he.run pins s σ H _ I h) fun u s1 ⟨x, H1, I1, rx, a, dx, fs, ex, ea, l, q⟩ => ?_) ht
  subst ex
  obtain rfl : u = Value.ref a := rx
  refine getmeth_ok I1 ea c hm l ?_
  refine PySem.W.callWith_of (P := fun h => X.K.In h) hpl (PySem.W.keeps_K hm.kp) (PyProof.Rows.evalArgs_kw2_nil hall (thn (hkw.run pos pins s1 σ H1 _ I1 q) fun ws s3 ⟨zs, H2, I3, rz, lz, q2⟩ => ⟨I3.kIn, ?_⟩))
  rw [hks]
  have r2 : Vals (V.ref a :: gV zs) (Value.ref a :: gW ws) := .cons rfl (hv rz)
  exact run_fnKS F hr (hx σ) I3 (hb s3 (.ref a) ws I3.kIn (rz.length.symm.trans lz)) r2 q2
end
/-! ### told -/
end Ev
namespace Ev
open PySem PySem.Spec PyProof.Rows L2
theorem sub_ge {xs : List V} {n : Int} {k : Nat} (h : SubTo xs n k) : ∀ i, i < k → ∀ m, xs[i]? = some (.int m) → (i : Int) ≤ m
  | 0, hi, m, hm => by
    obtain ⟨m2, e, h0, _⟩ := h 0 hi
    rw [e] at hm
    cases hm
    exact h0
  | i + 1, hi, m, hm => by
    obtain ⟨m1, e1, _⟩ := h i (by omega)
    obtain ⟨m2, e, _, _, h4⟩ := h (i + 1) hi
    rw [e] at hm
    cases hm
    have := sub_ge h i (by omega) m1 e1
    have := h4 m1 (by omega) (by rw [Nat.add_sub_cancel]; exact e1)
    omega
theorem sub_len {xs : List V} {n : Nat} (h : SubTo xs n xs.length) : xs.length ≤ n := by
  cases e : xs.length with
  | zero => exact Nat.zero_le _
  | succ k =>
    obtain ⟨m, e1, _, h2, _⟩ := h k (by omega)
    have := sub_ge h k (by omega) m e1
    omega
end Ev
namespace Ev
open PySem PySem.Spec PyProof.Rows L2
/-! ### masks -/
def maskF (i : Nat) (m : Nat) (q : Int × Int) : Nat := if q.1 = (i : Int) then m ||| 2 ^ q.2.toNat else m
def mask (ps : List (Int × Int)) (i : Nat) : Nat := ps.foldl (maskF i) 0
theorem mask_snoc (ps : List (Int × Int)) (q : Int × Int) (i : Nat) : mask (ps ++ [q]) i = maskF i (mask ps i) q := by
  unfold mask
  rw [List.foldl_append]
  rfl
theorem mask_bits (i j : Nat) : ∀ (ps : List (Int × Int)) (m : Nat), (ps.foldl (maskF i) m).testBit j = (m.testBit j || ps.any fun q => decide (q.1 = (i : Int)) && decide (q.2.toNat = j))
  | [], m => by rw [List.foldl_nil, List.any_nil, Bool.or_false]
  | q :: ps, m => by
    rw [List.foldl_cons, mask_bits i j ps, List.any_cons, ← Bool.or_assoc]
    congr 1
    unfold maskF
    by_cases h : q.1 = (i : Int)
    · rw [if_pos h, Nat.testBit_or, Nat.testBit_two_pow, decide_eq_true h, Bool.true_and]
    · rw [if_neg h, decide_eq_false h, Bool.false_and, Bool.or_false]
theorem mask_mem {ps : List (Int × Int)} {n : Int} (g : Good n ps) (i j : Nat) : (mask ps i).testBit j = decide (((i : Int), (j : Int)) ∈ ps) := by
  unfold mask
  rw [mask_bits, Nat.zero_testBit, Bool.false_or]
  by_cases h : ((i : Int), (j : Int)) ∈ ps
  · rw [decide_eq_true h]
    exact List.any_eq_true.mpr ⟨_, h, by rw [decide_eq_true rfl, decide_eq_true (by exact Int.toNat_natCast j)]; rfl⟩
  · rw [decide_eq_false h]
    refine List.any_eq_false.mpr fun q hq z => h ?_
    obtain ⟨z1, z2⟩ := Bool.and_eq_true_iff.mp z
    have z1 := of_decide_eq_true z1
    have z2 := of_decide_eq_true z2
    have hb := g.bd q hq
    obtain ⟨q1, q2⟩ := q
    have e2 : q2 = (j : Int) := by dsimp only at z1 z2 hb; omega
    dsimp only at z1
    rw [← z1, ← e2]
    exact hq
def maskL (n : Nat) (ps : List (Int × Int)) : List V := (List.range n).map fun i => V.int ((mask ps i : Nat) : Int)
theorem maskL_get {n i : Nat} (ps : List (Int × Int)) (h : i < n) : (maskL n ps)[i]? = some (.int ((mask ps i : Nat) : Int)) := by
  unfold maskL
  rw [List.getElem?_map, List.getElem?_range h]
  rfl
theorem maskL_len (n : Nat) (ps : List (Int × Int)) : (maskL n ps).length = n := by unfold maskL; rw [List.length_map, List.length_range]
theorem maskL_nil (n : Nat) : maskL n [] = List.replicate n (.int 0) := by
  unfold maskL
  rw [List.eq_replicate_iff]
  refine ⟨by rw [List.length_map, List.length_range], fun b hb => ?_⟩
  obtain ⟨i, _, rfl⟩ := List.mem_map.mp hb
  rfl
theorem maskL_set {n a : Nat} {ps : List (Int × Int)} {b : Int} (ha : a < n) (hb : 0 ≤ b) : (maskL n ps).set a (.int (Builtin.bitOr ((mask ps a : Nat) : Int) (1 * 2 ^ b.toNat))) = maskL n (ps ++ [((a : Int), b)]) := by
  have e : Builtin.bitOr ((mask ps a : Nat) : Int) (1 * 2 ^ b.toNat) = ((mask ps a ||| 2 ^ b.toNat : Nat) : Int) := by
    rw [Int.one_mul, show ((2 : Int) ^ b.toNat) = ((2 ^ b.toNat : Nat) : Int) by rw [Int.natCast_pow]; rfl, Bits.bitOr_pp (Int.natCast_nonneg _) (Int.natCast_nonneg _), Int.toNat_natCast, Int.toNat_natCast]
  rw [e]
  refine List.ext_getElem? fun i => ?_
  by_cases hi : i < n
  · rw [maskL_get _ hi, mask_snoc]
    by_cases h : a = i
    · subst h
      rw [List.getElem?_set_self (by rw [maskL_len]; exact ha)]
      unfold maskF
      rw [if_pos rfl]
    · rw [List.getElem?_set_ne h, maskL_get _ hi]
      unfold maskF
      rw [if_neg (by dsimp only; omega)]
  · rw [List.getElem?_eq_none (by rw [List.length_set, maskL_len]; omega), List.getElem?_eq_none (by rw [maskL_len]; omega)]
/-! ### what an induced graph has -/
def indP (ps : List (Int × Int)) (ms : List Int) (q : Int × Int) : Bool := decide ((ms.getD q.1.toNat 0, ms.getD q.2.toNat 0) ∈ ps)
def indL (ps : List (Int × Int)) (ms : List Int) : List (Int × Int) := (prs (upto ms.length)).filter (indP ps ms)
theorem test_bit {ps : List (Int × Int)} {n : Int} (g : Good n ps) (i j : Nat) : decide (V.int (Builtin.bitAnd (((mask ps i : Nat) : Int) / 2 ^ ((j : Int).toNat)) 1) = V.int 1) = decide (((i : Int), (j : Int)) ∈ ps) := by
  have e : Builtin.bitAnd (((mask ps i : Nat) : Int) / 2 ^ ((j : Int).toNat)) 1 = (((mask ps i / 2 ^ j) % 2 : Nat) : Int) := by
    rw [Int.toNat_natCast, show ((mask ps i : Nat) : Int) / 2 ^ j = ((mask ps i / 2 ^ j : Nat) : Int) by rw [Int.natCast_ediv, Int.natCast_pow]; rfl]
    have := Bits.bitAnd_mask (x := ((mask ps i / 2 ^ j : Nat) : Int)) 1 (Int.natCast_nonneg _)
    rw [show (2 : Int) ^ 1 - 1 = 1 by decide, show (2 : Int) ^ 1 = 2 by decide] at this
    rw [this, Int.natCast_emod]
    rfl
  rw [e, ← mask_mem g i j, Nat.testBit_eq_decide_div_mod_eq]
  by_cases h : mask ps i / 2 ^ j % 2 = 1
  · rw [decide_eq_true h, h]; exact decide_eq_true rfl
  · rw [decide_eq_false h]; exact decide_eq_false fun z => h (by have := V.int.inj z; omega)
end Ev
namespace Ev
open PySem PySem.Spec PyProof.Rows L2
theorem lex_irr {q : Int × Int} : ¬ lexlt q q := fun h => by rcases h with h | ⟨_, h⟩ <;> omega
theorem lex_asy {p q : Int × Int} (h : lexlt p q) (h2 : lexlt q p) : False := by rcases h with h | ⟨h, h'⟩ <;> rcases h2 with h2 | ⟨h2, h2'⟩ <;> omega
theorem lex_uniq : ∀ {l m : List (Int × Int)}, l.Pairwise lexlt → m.Pairwise lexlt → (∀ q, q ∈ l ↔ q ∈ m) → l = m
  | [], [], _, _, _ => rfl
  | [], y :: m, _, _, h => absurd ((h y).mpr List.mem_cons_self) (by simp)
  | x :: l, [], _, _, h => absurd ((h x).mp List.mem_cons_self) (by simp)
  | x :: l, y :: m, hl, hm, h => by
    obtain ⟨hx, hl2⟩ := List.pairwise_cons.mp hl
    obtain ⟨hy, hm2⟩ := List.pairwise_cons.mp hm
    have e : x = y := by
      rcases List.mem_cons.mp ((h x).mp List.mem_cons_self) with e | e
      · exact e
      · rcases List.mem_cons.mp ((h y).mpr List.mem_cons_self) with e2 | e2
        · exact e2.symm
        · exact (lex_asy (hx y e2) (hy x e)).elim
    subst e
    congr 1
    refine lex_uniq hl2 hm2 fun q => ⟨fun hq => ?_, fun hq => ?_⟩
    · rcases List.mem_cons.mp ((h q).mp (List.mem_cons_of_mem _ hq)) with e | e
      · subst e; exact absurd (hx _ hq) lex_irr
      · exact e
    · rcases List.mem_cons.mp ((h q).mpr (List.mem_cons_of_mem _ hq)) with e | e
      · subst e; exact absurd (hy _ hq) lex_irr
      · exact e
theorem prs_mem {n : Nat} {a b : Nat} (h : a < b) (hb : b < n) : ((a : Int), (b : Int)) ∈ prs (upto n) := by
  unfold prs
  rw [upto_len]
  refine List.mem_flatMap.mpr ⟨a, List.mem_range.mpr (by omega), ?_⟩
  have := rowP_get (n := n) (i := a) (j := b - (a + 1)) (by omega)
  rw [show a + 1 + (b - (a + 1)) = b by omega] at this
  exact List.mem_of_getElem? this
end Ev
namespace Ev
open PySem PySem.Spec PyProof.Rows L2
/-- a dict comprehension over a Walk -/
theorem dc_it {J : It} {n : Nat} {G : Hp → Prop} {Y : Nat → Hp → V → Hp → Prop} (w : Walk J n G Y) {g : TG} {tt : TT} {tk tv : TE} {vs : List Nat} {σ : L2.St} {H1 : Hp} {D : Addr} {Qd : Hp → Prop} (Pv : Nat → Hp → Prop) (h0 : Pv 0 (upd H1 D (.dK []))) (hG : ∀ i H, i ≤ n → Pv i H → G H)
    (hs : ∀ i x H H', i < n → Pv i H → Y i H x H' → g x (wipe σ vs) H' fun σ2 H2 => wipe σ2 vs = wipe σ vs ∧ tt σ2 H2 fun b H3 =>
      if b = true then tk σ2 H3 fun y H4 => tv σ2 H4 fun z H5 => ∃ kvs k, y = kV k ∧ H5 D = some (.dK kvs) ∧ kvs.length < sizeLine ∧ Pv (i + 1) (upd H5 D (.dK (putK kvs k z))) else Pv (i + 1) H3) (hd : ∀ H, Pv n H → Qd H) :
    ∃ W : Nat → Nat → Hp → Prop, (∃ m, W 0 m (upd H1 D (.dK []))) ∧ ∀ i m H, W i m H →
      (J.stop i H ∧ Qd H) ∨ (J.go i H ∧ ∃ Nx : Hp → Prop, (∀ H', Nx H' → ∃ m', m' < m ∧ W (i + 1) m' H') ∧ ∀ x H', J.yld i H x H' → g x (wipe σ vs) H' fun σ2 H2 => wipe σ2 vs = wipe σ vs ∧ tt σ2 H2 fun b H3 =>
        if b = true then tk σ2 H3 fun y H4 => tv σ2 H4 fun z H5 => ∃ kvs k, y = kV k ∧ H5 D = some (.dK kvs) ∧ kvs.length < sizeLine ∧ Nx (upd H5 D (.dK (putK kvs k z))) else Nx H3) := by
  refine ⟨fun i m H => m = n - i ∧ i ≤ n ∧ Pv i H, ⟨n, rfl, Nat.zero_le _, h0⟩, fun i m H h => ?_⟩
  obtain ⟨rfl, hi, p⟩ := h
  have q := hG i H hi p
  by_cases hlt : i < n
  · exact .inr ⟨w.goes i H hlt q, Pv (i + 1), fun H' p' => ⟨n - (i + 1), by omega, rfl, hlt, p'⟩, fun x H' y => hs i x H H' hlt p (w.yields i H x H' hlt q y)⟩
  · have e : i = n := by omega
    subst e
    exact .inl ⟨w.stops H q, hd H p⟩
end Ev
namespace Ev
open PySem PySem.Spec PyProof.Rows L2
/-! ### induced -/
def keptP (ms : List Int) (q : Int × Int) : Bool := decide (q.1 ∈ ms) && decide (q.2 ∈ ms)
def keptL (ps : List (Int × Int)) (ms : List Int) : List (Int × Int) := (ps.filter (keptP ms)).map fun q => ((ms.idxOf q.1 : Int), (ms.idxOf q.2 : Int))
/-- what the table of places holds after i turns -/
structure Places (ms : List Int) (i : Nat) (kvs : List (L2.Key × V)) : Prop where
  ln : kvs.length ≤ i
  got : ∀ j m, j < i → ms[j]? = some m → valV kvs (Sum.inl m) = some (.int (j : Int))
  no : ∀ m, m ∉ ms.take i → valV kvs (Sum.inl m) = none
theorem Places.step {ms : List Int} {i : Nat} {kvs : List (L2.Key × V)} {m : Int} (p : Places ms i kvs) (hnd : ms.Nodup) (hm : ms[i]? = some m) : Places ms (i + 1) (putK kvs (Sum.inl m) (.int (i : Int))) where
  ln := Nat.le_trans (length_putK _ _ _) (Nat.succ_le_succ p.ln)
  got := fun j m' hj hm' => by
    rw [valV_put]
    rcases Nat.lt_succ_iff_lt_or_eq.mp hj with h | rfl
    · rw [if_neg ?_]
      · exact p.got j m' h hm'
      · intro e
        have e := Sum.inl.inj e
        subst e
        obtain ⟨h1, h2⟩ := List.getElem?_eq_some_iff.mp hm
        obtain ⟨h3, h4⟩ := List.getElem?_eq_some_iff.mp hm'
        have := (List.getElem_inj hnd).mp (h2.trans h4.symm)
        omega
    · rw [hm] at hm'
      cases hm'
      rw [if_pos rfl]
  no := fun m' hm' => by
    rw [List.take_add_one, hm] at hm'
    have h1 : m' ∉ ms.take i := fun z => hm' (List.mem_append_left _ z)
    have h2 : m' ≠ m := fun z => hm' (List.mem_append_right _ (by rw [z]; exact List.mem_singleton.mpr rfl))
    rw [valV_put, if_neg fun e => h2 (Sum.inl.inj e)]
    exact p.no m' h1
theorem Places.at_ {ms : List Int} {kvs : List (L2.Key × V)} (p : Places ms ms.length kvs) (m : Int) : valV kvs (Sum.inl m) = if m ∈ ms then some (.int (ms.idxOf m : Int)) else none := by
  by_cases h : m ∈ ms
  · rw [if_pos h]
    have hl := List.idxOf_lt_length_of_mem h
    exact p.got _ _ hl (by rw [List.getElem?_eq_getElem hl, List.getElem_idxOf])
  · rw [if_neg h]
    exact p.no m (by rw [List.take_length]; exact h)
theorem kept_eq {n : Int} {ps : List (Int × Int)} {ms : List Int} (g : Good n ps) (hs : ms.Pairwise (· < ·)) : keptL ps ms = indL ps ms := by
  have hnd : ms.Nodup := hs.imp fun h => by omega
  have mono : ∀ {a b : Int}, a ∈ ms → b ∈ ms → (a < b ↔ ms.idxOf a < ms.idxOf b) := fun {a b} ha hb => by
    have la := List.idxOf_lt_length_of_mem ha
    have lb := List.idxOf_lt_length_of_mem hb
    have ga : ms[ms.idxOf a] = a := List.getElem_idxOf la
    have gb : ms[ms.idxOf b] = b := List.getElem_idxOf lb
    have pw := List.pairwise_iff_getElem.mp hs
    constructor
    · intro h
      rcases Nat.lt_trichotomy (ms.idxOf a) (ms.idxOf b) with h1 | h1 | h1
      · exact h1
      · exfalso
        have : a = b := by rw [← ga, ← gb]; congr 1
        omega
      · exfalso
        have := pw _ _ lb la h1
        rw [ga, gb] at this
        omega
    · intro h
      have := pw _ _ la lb h
      rw [ga, gb] at this
      exact this
  refine lex_uniq ?_ ((good_prs _).pw.filter _) fun q => ⟨fun hq => ?_, fun hq => ?_⟩
  · unfold keptL
    rw [List.pairwise_map]
    refine (List.Pairwise.and_mem.mp (g.pw.filter (keptP ms))).imp fun {p r} h => ?_
    obtain ⟨hp, hr, h⟩ := h
    obtain ⟨p1, p2⟩ := Bool.and_eq_true_iff.mp (List.mem_filter.mp hp).2
    obtain ⟨r1, r2⟩ := Bool.and_eq_true_iff.mp (List.mem_filter.mp hr).2
    have p1 := of_decide_eq_true p1
    have p2 := of_decide_eq_true p2
    have r1 := of_decide_eq_true r1
    have r2 := of_decide_eq_true r2
    rcases h with h | ⟨h, h'⟩
    · have := (mono p1 r1).mp h
      exact .inl (by show (ms.idxOf p.1 : Int) < (ms.idxOf r.1 : Int); omega)
    · have := (mono p2 r2).mp h'
      exact .inr ⟨by show (ms.idxOf p.1 : Int) = (ms.idxOf r.1 : Int); rw [h], by show (ms.idxOf p.2 : Int) < (ms.idxOf r.2 : Int); omega⟩
  · unfold keptL at hq
    obtain ⟨p, hp, rfl⟩ := List.mem_map.mp hq
    obtain ⟨hp, hk⟩ := List.mem_filter.mp hp
    obtain ⟨p1, p2⟩ := Bool.and_eq_true_iff.mp hk
    have p1 := of_decide_eq_true p1
    have p2 := of_decide_eq_true p2
    have hb := g.bd p hp
    have l2 := List.idxOf_lt_length_of_mem p2
    have l1 := List.idxOf_lt_length_of_mem p1
    refine List.mem_filter.mpr ⟨prs_mem ((mono p1 p2).mp hb.2.1) l2, ?_⟩
    unfold indP
    dsimp only
    rw [Int.toNat_natCast, Int.toNat_natCast, List.getD_eq_getElem?_getD, List.getD_eq_getElem?_getD, List.getElem?_eq_getElem l1, List.getElem?_eq_getElem l2, List.getElem_idxOf, List.getElem_idxOf]
    exact decide_eq_true hp
  · unfold indL at hq
    obtain ⟨hq, hk⟩ := List.mem_filter.mp hq
    have hb := (good_prs ms.length).bd q hq
    obtain ⟨qa, qb⟩ := q
    dsimp only at hb
    obtain ⟨a, rfl⟩ : ∃ a : Nat, qa = a := ⟨qa.toNat, by omega⟩
    obtain ⟨b, rfl⟩ : ∃ b : Nat, qb = b := ⟨qb.toNat, by omega⟩
    have ha : a < ms.length := by omega
    have hbl : b < ms.length := by omega
    unfold indP at hk
    dsimp only at hk
    rw [Int.toNat_natCast, Int.toNat_natCast, List.getD_eq_getElem?_getD, List.getD_eq_getElem?_getD, List.getElem?_eq_getElem ha, List.getElem?_eq_getElem hbl] at hk
    have hk := of_decide_eq_true hk
    unfold keptL
    refine List.mem_map.mpr ⟨(ms[a], ms[b]), List.mem_filter.mpr ⟨hk, ?_⟩, ?_⟩
    · unfold keptP
      rw [decide_eq_true (List.getElem_mem ha), decide_eq_true (List.getElem_mem hbl)]
      rfl
    · dsimp only
      rw [hnd.idxOf_getElem a ha, hnd.idxOf_getElem b hbl]
end Ev
namespace Ev
open PySem PySem.Spec PyProof.Rows L2
/-! ### defs that may raise, called by place and by names; errors of one field, made -/
theorem OneMade.of {f : Str} {v : V} {H H1 H' : Hp} {d : Option Addr} (s : Same H H1) (h : OneMade f v H1 d H') : OneMade f v H d H' := by
  obtain ⟨dd, e, h1, h2⟩ := h
  exact ⟨dd, e, h1, s.trans h2⟩
structure CaX (P : Program) (w : World) (K : PySem.W.Frag) (mg : Str → Option Value) (base : Heap) (k : Nat) (x : Str) (sp : Sp) : Prop where
  ex : ∃ (f : Addr) (fd : FuncData) (ps : List Str), FnOk P w K mg base (L2.CX P w) k f fd ps sp ∧ mg x = some (.ref f) ∧ PySem.W.keepIn K (.ref f) = true ∧ Binds K fd ps []
/-- .. by the names ks, of which gV makes the order of the def -/
structure CaK (P : Program) (w : World) (K : PySem.W.Frag) (mg : Str → Option Value) (base : Heap) (CX : CXT) (k : Nat) (x : Str) (ks : List Str) (gV : List V → List V) (sp : Sp) : Prop where
  ex : ∃ (f : Addr) (fd : FuncData) (ps : List Str) (gW : List Value → List Value), FnOk P w K mg base CX k f fd ps sp ∧ mg x = some (.ref f) ∧ PySem.W.keepIn K (.ref f) = true ∧
    (∀ (s : Shared) (ws : List Value), K.In s.heap → ws.length = ks.length → BindsTo s fd ⟨[], ks.zip ws⟩ (ps.zip (gW ws))) ∧ (∀ {zs : List V} {ws : List Value}, Vals zs ws → Vals (gV zs) (gW ws))
def tCallSK (sp : Sp) (n : Nat) (gV : List V → List V) (E : L2.St → XK) (tk : TA) : TE := fun σ H Q => tk σ H fun zs H1 => zs.length = n ∧ sp (gV zs) H1 Q (E σ)
structure ErrT (P : Program) (w : World) (K : PySem.W.Frag) (mg : Str → Option Value) (base : Heap) (x f : Str) (C : Addr) : Prop where
  ex : ∃ (fI : Addr) (fd : FuncData), OneF K C fI f ∧ FnOk P w K mg base CX0 1 fI fd ["self", f] (spOne K f) ∧ Binds K fd ["self", f] []
  g : mg x = some (.ref C)
/-- what is asked where such an error is made -/
def tErr (C : Addr) (f : Str) (ta : TA) : L2.St → Hp → XK → Prop := fun σ H E => ta σ H fun vs H1 => ∃ v, vs = [v] ∧ ∀ d H', OneMade f v H1 d H' → E (.ref C) d H'
section
variable {X : Cx} {CX : CXT} {k j : Nat} {ks : List Str} {sp : Sp} {e : Expr} {es : List Expr} {x f : Str} {p pos : Pos} {t tk : TA} {kws : List Keyword} {C : Addr}
theorem passAt0 {E : L2.St → XK} (σ : L2.St) : PassesAt CX0 X σ (E σ) := fun _ _ _ _ _ _ h => h.elim
theorem pe_cX {E : XK} (c : CaX X.prog X.w X.K X.mg X.base k x sp) (hr : Room j X.A) (hk : k ≤ j) (hg : Gl X x) (hx : Passes (L2.CX X.prog X.w) X E) (ha : PA X (e :: es) t)
    (hdb : (x == ("__debug__" : Str)) = false := by decide) (he : starEach (e :: es) X.env = (false, eval e X.env) :: starEach es X.env := by rfl) (hpl : (backTo pos (starEach es X.env)).any (·.1) = false := by rfl) :
    PE X (.Call (.Name x p) (e :: es) [] pos) (tCall sp [] E t) := by
  obtain ⟨f, fd, ps, F, hm, kp, b⟩ := c.ex
  exact pe_call F (hr.mono hk) hg hm kp b .nil hx ha hdb he hpl
theorem pe_cS {E : L2.St → XK} (c : CaX X.prog X.w X.K X.mg X.base k x sp) (hr : Room j X.A) (hk : k ≤ j) (hg : Gl X x) (hx : ∀ σ, PassesAt (L2.CX X.prog X.w) X σ (E σ)) (ha : PA X (e :: es) t)
    (hdb : (x == ("__debug__" : Str)) = false := by decide) (he : starEach (e :: es) X.env = (false, eval e X.env) :: starEach es X.env := by rfl) (hpl : (backTo pos (starEach es X.env)).any (·.1) = false := by rfl) :
    PE X (.Call (.Name x p) (e :: es) [] pos) (tCallS sp E t) := by
  obtain ⟨f, fd, ps, F, hm, kp, b⟩ := c.ex
  exact pe_callS F (hr.mono hk) hg hm kp b hx ha hdb he hpl
theorem pe_cSK {E : L2.St → XK} {gV : List V → List V} (c : CaK X.prog X.w X.K X.mg X.base CX k x ks gV sp) (hr : Room j X.A) (hk : k ≤ j) (hg : Gl X x) (hx : ∀ σ, PassesAt CX X σ (E σ)) (hkw : PK X kws tk)
    (hall : (backToKw pos (keywordEach kws X.env)).all (·.1.isSome) = true := by rfl) (hks : (backToKw pos (keywordEach kws X.env)).filterMap (·.1) = ks := by rfl)
    (hpl : ((backTo pos (starEach [] X.env)).any (·.1) || (backToKw pos (keywordEach kws X.env)).any (·.1.isNone)) = false := by rfl) (hdb : (x == ("__debug__" : Str)) = false := by decide) :
    PE X (.Call (.Name x p) [] kws pos) (tCallSK sp ks.length gV E tk) := by
  obtain ⟨f, fd, ps, gW, F, hm, kp, hb, hv⟩ := c.ex
  refine ⟨fun pins s σ H Q I h => ?_⟩
  refine wpAny_Call_Name_kw (ld_glob I hg hm ?_ hdb)
  refine PySem.W.callWith_KW0 (h₀ := X.base) I.ok.mod.kin kp hall (thn (hkw.run pos pins s σ H _ I h) fun ws s3 ⟨zs, H2, I3, rz, lz, q2⟩ => ⟨I3.kIn, ?_⟩) hpl
  rw [hks]
  exact run_fnKS F (hr.mono hk) (hx σ) I3 (hb s3 ws I3.kIn (rz.length.symm.trans lz)) (hv rz) q2
theorem pa_weak {es : List Expr} (ha : PA X es t) : PA X es (fun σ H Q => ∃ R, t σ H R ∧ ∀ vs H1, R vs H1 → Q vs H1) :=
  ⟨fun pos pins s σ H Q I ⟨R, hR, hi⟩ => thn (ha.run pos pins s σ H R I hR) fun us s1 ⟨vs, H1, I1, r1, q1⟩ => ⟨vs, H1, I1, r1, hi vs H1 q1⟩⟩
theorem pmk_err (Z : ErrT X.prog X.w X.K X.mg X.base x f C) (hr : Room j X.A) (hk : 2 ≤ j) (hg : Gl X x) (ha : PA X [e] t)
    (hdb : (x == ("__debug__" : Str)) = false := by decide) (he : starEach [e] X.env = (false, eval e X.env) :: starEach [] X.env := by rfl) (hpl : (backTo pos (starEach [] X.env)).any (·.1) = false := by rfl) :
    PMk X (.Call (.Name x p) [e] [] pos) (tErr C f t) := by
  obtain ⟨fI, fd, T, F, b⟩ := Z.ex
  have m := pmk_oex (p := p) (pos := pos) T.ox T.iC T.tI F (hr.mono hk) b .nil pass0 hg Z.g (pa_weak ha) hdb he hpl
  intro pins s σ H Q I h
  refine m pins s σ H Q I ⟨_, h, ?_⟩
  rintro vs H1 ⟨v, rfl, hE⟩
  exact ⟨(by show 1 ≤ 1000; decide), one_end T hE⟩
end
end Ev
namespace Ev
open PySem PySem.Spec PyProof.Rows L2
section
variable {P : Program} {w : World} {K : PySem.W.Frag} {mg : Str → Option Value} {base : Heap} {C : Addr}
theorem ok_initI {f : Addr} {fd : FuncData} (F : Fun K "__init__" "InvalidSubset.__init__" s_InvalidSubset___init__ f fd) : FnOk P w K mg base CX0 1 f fd ["self", "value"] (spOne K "value") := by
  refine F.ok scs_InvalidSubset___init__ (fun vs H Q E h => ?_) (fun cdv A outer s H vs Q E hr h => ?_)
  · obtain ⟨a, C, v, rfl, _⟩ := h
    rfl
  · obtain ⟨a, C, v, rfl, h1, T, hno, q⟩ := h
    exact ⟨_, pss_one (ps_ost (pv 0) (pv 1)), _, rfl, _, rfl, a, C, rfl, T, hno, .inl ⟨h1, fun dx n ne => q dx n ne⟩⟩
end
end Ev
namespace Ev
open PySem PySem.Spec PyProof.Rows L2
theorem sub_pw {ms : List Int} {n : Int} (h : subL (ms.map V.int) n = true) : ms.Pairwise (· < ·) := by
  have hto := subL_to h
  rw [List.length_map] at hto
  have key : ∀ (j i : Nat) (hj : j < ms.length) (hi : i < j), ms[i] < ms[j] := fun j => by
    induction j with
    | zero => intro i hj hi; omega
    | succ j ih =>
      intro i hj hi
      obtain ⟨m, e, _, _, h4⟩ := hto (j + 1) hj
      have g1 : (ms.map V.int)[j + 1]? = some (.int ms[j + 1]) := by rw [List.getElem?_map, List.getElem?_eq_getElem hj]; rfl
      have g2 : (ms.map V.int)[j + 1 - 1]? = some (.int ms[j]) := by rw [Nat.add_sub_cancel, List.getElem?_map, List.getElem?_eq_getElem (by omega)]; rfl
      have em : ms[j + 1] = m := V.int.inj (Option.some.inj (g1.symm.trans e))
      have := h4 _ (by omega) g2
      rw [em]
      rcases Nat.lt_succ_iff_lt_or_eq.mp hi with h5 | rfl
      · have := ih i (by omega) h5
        omega
      · exact this
  exact List.pairwise_iff_getElem.mpr fun i j hi hj hij => key j i hj hij
end Ev
namespace Ev
open PySem PySem.Spec PyProof.Rows L2
def spInduced (C CI : Addr) : Sp := fun vs H Q E => ∃ (g : Addr) (n : Nat) (ps : List (Int × Int)) (v : V), vs = [.ref g, v] ∧ GrAt C H g n ps ∧ Good n ps ∧ n ≤ 24 ∧ ps.length ≤ 300 ∧ Kd C H v ∧
  ((subV H v n = false ∨ tupOf H v = some []) → ∀ d H', OneMade "value" v H d H' → E (.ref CI) d H') ∧
  (∀ ms : List Int, tupOf H v = some (ms.map V.int) → subL (ms.map V.int) n = true → ms ≠ [] → ∀ H' g', Same H H' → GrAt C H' g' ms.length (indL ps ms) → Q (.ref g') H')
section
variable {P : Program} {w : World} {K : PySem.W.Frag} {mg : Str → Option Value} {base : Heap} {C CI fII : Addr} {fdI : FuncData}
theorem ok_induced {f : Addr} {fd : FuncData} (F : Fun K "induced" "Graph.induced" s_Graph_induced f fd) (G : GrT K C) (A : GrA K C) (B : B0 mg) (T : OneF K CI fII "value") (FI : Fun K "__init__" "InvalidSubset.__init__" s_InvalidSubset___init__ fII fdI) (bI : Binds K fdI ["self", "value"] [])
    (gI : mg "InvalidSubset" = some (.ref CI)) (cS : Ca P w K mg base 3 "is_subset" (spSubset C)) (cG : C8.Mak P w K mg base 6 "Graph" C (spInit C) []) : FnOk P w K mg base (L2.CX P w) 8 f fd ["self", "subset"] (spInduced C CI) := by
  have GN : FnOk P w K mg base CX0 1 fII fdI ["self", "value"] (spOne K "value") := ok_initI FI
  refine F.okX scs_Graph_induced (fun vs H Q E h => ?_) (fun cdv A' outer s H vs Q E hr h => ?_)
  · obtain ⟨g, n, ps, v, rfl, _⟩ := h
    rfl
  · obtain ⟨g, n, ps, v, rfl, hgr, hG, h24, hpl, ⟨⟨tg, htg⟩, hx⟩, hE, hQ⟩ := h
    have hr2 : Room 2 _ := hr.mono (by decide)
    refine ⟨_, pss_cons (ps_if (PW.pt (pw_or (pt_not (pt_val (C8.pe_c cS hr (by decide) (by rfl) (pa_cons (pv 1) (pa_cons (pe_fld (pv 0) rfl) pa_nil))))) (pw_or1 (pt_cmpR op_eq (pe_callB call_len_seq (by rfl) B.len (by decide +kernel) (pa_cons (pv 1) pa_nil)) pe_int (nomark _)))))
        (pss_one (ps_raise rfl (takes_of rfl rfl rfl rfl) (pmk_oex T.ox T.iC T.tI GN hr2 bI .nil pass0 (by rfl) gI (pa_cons (pv 1) pa_nil)))) pss_nil)
      (pss_cons (ps_set (i := 2) scs_Graph_induced.nd rfl (Or.inr rfl) (pe_dc (own := [("place", 3), ("vertex", 4)]) (g := gTup K 2 (gCons (gName 3) (gCons (gName 4) gNil))) (tt := tYes) rfl scs_Graph_induced.nd (pi_enumA (by rfl) B.enumerate (pa_cons (pv 1) pa_nil))
        (blkOk_by (N := Ns_Graph_induced) (sc := defScope s_Graph_induced) (by decide +kernel))
        (fun _ _ _ _ _ => pg_tup rfl (pgs_cons (pg_name (i := 3) scs_Graph_induced.nd rfl (Or.inl rfl)) (pgs_cons (pg_name (i := 4) scs_Graph_induced.nd rfl (Or.inl rfl)) pgs_nil))) (fun _ _ _ _ _ => pts_nil) (fun _ _ _ _ _ => pv 4) (fun _ _ _ _ _ => pv 3)))
      (pss_cons (ps_setLc (i := 5) (own := [("one", 6), ("other", 7)]) (g := gTup K 2 (gCons (gName 6) (gCons (gName 7) gNil))) rfl scs_Graph_induced.nd rfl rfl (sw_true rfl rfl rfl (by decide +kernel)) (pi_tup (pe_fld (pv 0) rfl))
        (blkOk_by (N := Ns_Graph_induced) (sc := defScope s_Graph_induced) (by decide +kernel))
        (fun _ _ _ _ _ => pg_tup rfl (pgs_cons (pg_name (i := 6) scs_Graph_induced.nd rfl (Or.inl rfl)) (pgs_cons (pg_name (i := 7) scs_Graph_induced.nd rfl (Or.inl rfl)) pgs_nil)))
        (fun _ _ _ _ _ => pts_one (PW.pt (pw_and (pt_cmp (pc_din (by exact hu_of hr) (pv 6) (pv 2))) (pw_and1 (pt_cmp (pc_din (by exact hu_of hr) (pv 7) (pv 2)))))))
        (fun _ _ _ _ _ => pe_tup (pa_cons (pe_dget (by exact hu_of hr) (pv 2) (pv 6) (fun _ _ => rfl)) (pa_cons (pe_dget (by exact hu_of hr) (pv 2) (pv 7) (fun _ _ => rfl)) pa_nil))))
      (pss_one (ps_ret (C8.pe_mk cG hr (by decide) (by rfl) (pa_cons (pe_callB call_len_seq (by rfl) B.len (by decide +kernel) (pa_cons (pv 1) pa_nil)) (pa_cons (pv 5) pa_nil))))))), ?_⟩
    obtain ⟨dx, e, vt, r, xs, rs, h1, h2, h3, h4, h5, h6⟩ := hgr.ex
    refine ⟨_, rfl, _, rfl, g, C, dx, _, .int (n : Int), rfl, h1, G.cl, A.s, rfl, v, tg, (n : Int), rfl, htg, hx, fun H1 s1 => ⟨_, rfl, ?_⟩⟩
    have raise : ∀ {H2 : Hp} {Q' : V → Hp → Prop} {E' : XK}, (subV H v n = false ∨ tupOf H v = some []) → Same H H2 → True := fun _ _ => trivial
    cases hs : subV H v n with
    | false => exact iteT ⟨_, rfl, (by show 1 ≤ 1000; decide), one_end T fun d H' hm => hE (.inl hs) d H' (hm.of s1)⟩
    | true =>
    refine iteF ?_
    unfold subV at hs
    cases ht : tupOf H v with
    | none => rw [ht] at hs; cases hs
    | some xs0 =>
    rw [ht] at hs
    have hs : subL xs0 n = true := hs
    have hto := subL_to hs
    have hall : xs0.all (fun x => betw x 0 ((n : Int) - 1)) = true := by
      unfold subL at hs
      exact (Bool.and_eq_true_iff.mp hs).1
    have ex := all_ints hall
    generalize xs0.filterMap intOf = ms at ex
    subst ex
    obtain ⟨va, rfl, hva⟩ := tupOf_at ht
    have hml : ms.length ≤ n := by have := sub_len hto; rw [List.length_map] at this; exact this
    have hpw := sub_pw hs
    have hnd : ms.Nodup := hpw.imp fun h => by omega
    have hva1 := s1 _ _ hva
    refine ⟨.ref va, rfl, va, _, rfl, .inr (.inl (.inl hva1)), rfl, _, rfl, ?_⟩
    rw [List.length_map]
    cases hms : ms with
    | nil =>
      subst hms
      exact iteT ⟨_, rfl, (by show 1 ≤ 1000; decide), one_end T fun d H' hm => hE (.inr ht) d H' (hm.of s1)⟩
    | cons m0 mr =>
    rw [← hms]
    have hne : ms ≠ [] := by rw [hms]; simp
    have hl0 : 1 ≤ ms.length := by rw [hms, List.length_cons]; omega
    have : decide (V.int (ms.length : Int) = V.int 0) = false := decide_eq_false fun z => by
      have := V.int.inj z
      omega
    rw [this]
    refine iteF ?_
    -- places
    refine ⟨.ref va, rfl, va, ms.map V.int, rfl, .inr ⟨.inl (.inl hva1), fun D hD => dc_it (walk_enumT (xs := ms.map V.int)) (fun i H' => Same H1 H' ∧ ∃ kvs, H' D = some (.dK kvs) ∧ Places ms i kvs) ⟨same_new hD, [], upd_same, ⟨Nat.le_refl _, fun j m h => absurd h (Nat.not_lt_zero _), fun m _ => rfl⟩⟩ (fun i H' _ h => .inl (.inl (h.1 _ _ hva1))) ?_ ?_⟩⟩
    · rintro i x H2 H3 hi ⟨s2, kvs, hD2, hP⟩ ⟨T', x1, x2, rfl, hT', rfl, e1, e2⟩
      cases e1
      obtain ⟨m, gm, rfl⟩ := ints_get e2
      have hi2 : i < ms.length := (List.getElem?_eq_some_iff.mp gm).1
      have sT : Same H2 (upd H2 T' (.tup [.int (i : Nat), .int m])) := same_new hT'
      have hD3 : (upd H2 T' (.tup [.int (i : Nat), .int m])) D = some (.dK kvs) := sT _ _ hD2
      refine ⟨T', _, rfl, .inl (.inl upd_same), rfl, _, _, rfl, _, _, rfl, rfl, rfl, tYes_i ?_⟩
      generalize upd H2 T' (.tup [.int (i : Nat), .int m]) = H4 at sT hD3 ⊢
      refine ⟨_, rfl, _, rfl, kvs, Sum.inl m, rfl, hD3, ?_, fun b o eb => by rw [upd_ne (ne_of_none eb hD)]; exact sT _ _ (s2 _ _ eb), _, upd_same, hP.step hnd gm⟩
      exact small1000 (by have := hP.ln; omega)
    · rintro H2 ⟨s2, kvs, hD2, hP⟩
      rw [List.length_map] at hP
      have s02 := s1.trans s2
      have hg2 : GrAt C H2 g n ps := hgr.kp (p := 0) (.of s02)
      have he2 := s02 _ _ h2
      refine ⟨_, rfl, g, C, dx, _, .ref e, rfl, s02 _ _ h1, G.cl, A.e, rfl, e, rfl, ⟨_, .inl (.inl he2)⟩, fun L hL => lc_tup (K := K) (a := e) (xs := xs) (fun i H' => Same H2 H' ∧ ∃ ys, H' L = some (.lst ys) ∧ PrsAt H' ys (keptL (ps.take i) ms)) ⟨same_new hL, [], upd_same, .nil⟩ (fun i H' _ h => .inl (.inl (h.1 _ _ he2))) ?_ ?_⟩
      · rintro i x H3 hi ⟨s3, ys, hL3, hP3⟩
        obtain ⟨⟨qa, qb⟩, hq, te, rfl, hte⟩ := paired_get (h3.kp (p := 0) (.of (s02.trans s3))) hi
        have hD3 := s3 _ _ hD2
        have eL : keptL (ps.take (i + 1)) ms = keptL (ps.take i) ms ++ (if keptP ms (qa, qb) = true then [((ms.idxOf qa : Int), (ms.idxOf qb : Int))] else []) := by
          unfold keptL
          rw [List.take_add_one, hq, List.filter_append, List.map_append]
          congr 1
          show List.map _ (List.filter (keptP ms) [(qa, qb)]) = _
          rw [List.filter_cons, List.filter_nil]
          cases keptP ms (qa, qb) <;> rfl
        have ga := hP.at_ qa
        have gb := hP.at_ qb
        have da : ∀ {H' : Hp} {o}, Same H3 H' → valV kvs (Sum.inl qa) = o → DGet H' D (.int qa) o := fun {H' o} s' eo => eo ▸ DGet.k (k := Sum.inl qa) (s' _ _ hD3)
        have db : ∀ {H' : Hp} {o}, Same H3 H' → valV kvs (Sum.inl qb) = o → DGet H' D (.int qb) o := fun {H' o} s' eo => eo ▸ DGet.k (k := Sum.inl qb) (s' _ _ hD3)
        have skip : keptP ms (qa, qb) = false → Same H2 H3 ∧ ∃ ys, H3 L = some (.lst ys) ∧ PrsAt H3 ys (keptL (ps.take (i + 1)) ms) := fun hk => by
          rw [hk, if_neg Bool.false_ne_true, List.append_nil] at eL
          exact ⟨s3, ys, hL3, by rw [eL]; exact hP3⟩
        refine ⟨te, _, rfl, .inl (.inl hte), rfl, _, _, rfl, _, _, rfl, rfl, rfl, ?_⟩
        by_cases ha : qa ∈ ms
        · rw [if_pos ha] at ga
          refine ⟨_, rfl, _, rfl, D, _, rfl, da (Same.refl _) ga, _, rfl, iteT ?_⟩
          by_cases hb : qb ∈ ms
          · rw [if_pos hb] at gb
            refine ⟨_, rfl, _, rfl, D, _, rfl, db (Same.refl _) gb, _, rfl, iteT ?_⟩
            have hk : keptP ms (qa, qb) = true := by unfold keptP; rw [decide_eq_true ha, decide_eq_true hb]; rfl
            rw [hk, if_pos rfl] at eL
            refine ⟨_, rfl, _, rfl, D, _, rfl, da (Same.refl _) ga, _, rfl, _, rfl, D, _, rfl, db (Same.refl _) gb, (by show 2 ≤ sizeLine; decide), fun t6 ht6 => ?_⟩
            have s6 := same_new (o := .tup [.int (ms.idxOf qa : Int), .int (ms.idxOf qb : Int)]) ht6
            refine ⟨ys, s6 _ _ hL3, ?_, fun b o eb => by rw [upd_ne (ne_of_none eb hL)]; exact s6 _ _ (s3 _ _ eb), ys ++ [.ref t6], upd_same, ?_⟩
            · rw [paired_len hP3]
              have h7 : (keptL (ps.take i) ms).length ≤ (ps.take i).length := by unfold keptL; rw [List.length_map]; exact List.length_filter_le _ _
              rw [List.length_take] at h7
              exact small1000 (by omega)
            · rw [eL]
              have kp : KP L H3 (upd (upd H3 t6 (.tup [.int (ms.idxOf qa : Int), .int (ms.idxOf qb : Int)])) L (.lst (ys ++ [.ref t6]))) := (KP.of s6).trans (KP.put (s6 _ _ hL3))
              exact paired_app (hP3.kp kp) (.cons ⟨t6, rfl, (KP.put (p := L) (s6 _ _ hL3)).tup upd_same⟩ .nil)
          · rw [if_neg hb] at gb
            exact ⟨_, rfl, _, rfl, D, _, rfl, db (Same.refl _) gb, _, rfl, iteF (skip (by unfold keptP; rw [decide_eq_false hb, Bool.and_false]))⟩
        · rw [if_neg ha] at ga
          exact ⟨_, rfl, _, rfl, D, _, rfl, da (Same.refl _) ga, _, rfl, iteF (iteF (skip (by unfold keptP; rw [decide_eq_false ha]; rfl)))⟩
      · rintro H3 ⟨s3, ys, hL3, hP3⟩
        rw [List.take_of_length_le (by rw [paired_len h3]; exact Nat.le_refl _), kept_eq hG hpw] at hP3
        have s03 := s02.trans s3
        have hva3 := s03 _ _ hva
        refine ⟨_, rfl, va, _, rfl, .inr (.inl (.inl hva3)), _, rfl, fun g' dx' hg' hdx' hne' => ?_⟩
        have hg5 : (upd H3 dx' (.own g')) g' = none := by rw [upd_ne hne'.symm]; exact hg'
        have s6 := same_new (o := .own g') hdx'
        have s7 := same_new (o := .ins C dx' []) hg5
        have hPn := hP3.kp (p := 0) (.of (s6.trans s7))
        have hil : (indL ps ms).length ≤ 300 := Nat.le_trans (List.length_filter_le _ _) (prs_len (by omega))
        refine ⟨g', dx', L, ms.length, ys, indL ps ms, by rw [List.length_map]; rfl, hl0, by omega, upd_same, .inl (s7 _ _ (s6 _ _ hL3)), hPn, hil, (good_prs _).filter _, fun H8 k8 g8 => ⟨rfl, ?_⟩⟩
        have s38 : Same H3 H8 := fun b o z => k8 b o (fun zz => by
          rw [zz, hg'] at z
          cases z) (s7 _ _ (s6 _ _ z))
        exact hQ ms ht hs hne H8 g' (s03.trans s38) g8
end
end Ev
namespace Ev
open PySem PySem.Spec PyProof.Rows L2
def ToldOk (C : Addr) (H : Hp) (n : Nat) (ps : List (Int × Int)) (v r : V) (H' : Hp) : Prop := ∃ t, r = .ref t ∧
  (((subV H v n = false ∨ tupOf H v = some []) ∧ H' t = some (.tup [.str "InvalidSubset", v])) ∨
   (∃ (ms : List Int) (g : Addr), tupOf H v = some (ms.map V.int) ∧ subL (ms.map V.int) n = true ∧ ms ≠ [] ∧ H' t = some (.tup [.str "answer", .ref g]) ∧ GrAt C H' g ms.length (indL ps ms)))
def spTold (C : Addr) : Sp := fun vs H Q _ => ∃ (g : Addr) (n : Nat) (ps : List (Int × Int)) (v : V) (b : Bool), vs = [.ref g, v, .bl b] ∧ GrAt C H g n ps ∧ Good n ps ∧ n ≤ 24 ∧ ps.length ≤ 300 ∧ Kd C H v ∧ ∀ H' r, Same H H' → ToldOk C H n ps v r H' → Q r H'
structure ToldT (P : Program) (w : World) (K : PySem.W.Frag) (mg : Str → Option Value) (base : Heap) (C CI CE fII fD : Addr) (fdD : FuncData) : Prop where
  N : OneF K CI fII "value"
  gE : mg "GraphError" = some (.ref CE)
  gN : mg "InvalidSubset" = some (.ref CI)
  xN : PySem.W.exmOne K (.ref CI) (.ref CE) = some true
  nn : PySem.W.kitOne K (.ref CI) (.ref CI) = some true
  me : Meth K C "induced" fD
  F : FnOk P w K mg base (L2.CX P w) 8 fD fdD ["self", "subset"] (spInduced C CI)
  b : Binds K fdD ["self", "subset"] []
  bk : ∀ (s : Shared) (u : Value) (ws : List Value), K.In s.heap → ws.length = (["subset"] : List Str).length → BindsTo s fdD ⟨[u], (["subset"] : List Str).zip ws⟩ ((["self", "subset"] : List Str).zip (u :: id ws))
def t_suite4 (K : PySem.W.Frag) (CI : Addr) : Addr → Value → Option Addr → TS := fun a cls d =>
  tIfS (tB (tCB (rIsX K a cls d) (tCons (tVar 3) (tCons (tC (.ref CI)) tNil)))) (tRet (tTup (tCons (tC (.str "InvalidSubset")) (tCons (tXf a cls d CI "value" (tVar 3)) tNil)))) tNext
def t_body4 (C CI : Addr) (W : WX) : TS :=
  tSeq (tIfS (tB (tVar 2)) (tRet (tTup (tCons (tC (.str "answer")) (tCons (tMethK C "induced" (spInduced C CI) 1 id (WE W) (tVar 0) (tCons (tVar 1) tNil)) tNil)))) tNext)
    (tRet (tTup (tCons (tC (.str "answer")) (tCons (tMethS C "induced" (spInduced C CI) (WE W) (tVar 0) (tCons (tVar 1) tNil)) tNil))))
theorem suiteN4 {P : Program} {w : World} {K : PySem.W.Frag} {mg : Str → Option Value} {base : Heap} {C CI CE fII fD : Addr} {fdD : FuncData} (Z : ToldT P w K mg base C CI CE fII fD fdD) {v : V} {H H' : Hp} {d : Option Addr} {D : Ends} {s0 s1 s2 s3 : Option V}
    (hm : OneMade "value" v H d H') (hq : ∀ H2 t, Same H H2 → H2 t = some (.tup [.str "InvalidSubset", v]) → D.rt (.ref t) H2) (a : Addr) : t_suite4 K CI a (.ref CI) d D ([s0, s1, s2, s3].set 3 (some (.ref a))) H' := by
  obtain ⟨dd, rfl, hdd, s⟩ := hm
  refine ⟨.ref a, rfl, CI, .ref CI, .ref CI, true, dd, [("value", v)], rfl, rfl, rfl, hdd, Z.N.ec, .own _, Z.nn, _, rfl, iteT ?_⟩
  refine ⟨.ref a, rfl, rfl, rfl, dd, [("value", v)], v, rfl, hdd, (by simp [List.lookup]), (by show 2 ≤ sizeLine; decide), fun t ht => ?_⟩
  exact hq _ t (s.trans (same_new ht)) upd_same
section
variable {P : Program} {w : World} {K : PySem.W.Frag} {mg : Str → Option Value} {base : Heap} {C CI CE fII fD : Addr} {fdD : FuncData}
theorem ok_law_induced {f : Addr} {fd : FuncData} (F : Fun K "_law_induced" "_law_induced" s__law_induced f fd) (G : GrT K C) (B : B0 mg) (Z : ToldT P w K mg base C CI CE fII fD fdD) : FnOk P w K mg base CX0 9 f fd ["graph", "value", "named"] (spTold C) := by
  refine F.ok scs__law_induced (fun vs H Q E h => ?_) (fun cdv A outer s H vs Q E hr h => ?_)
  · obtain ⟨g, n, ps, v, b, rfl, _⟩ := h
    rfl
  · obtain ⟨g, n, ps, v, b, rfl, hgr, hG, h24, hpl, hk, q⟩ := h
    refine ⟨_, pss_cons (ps_try_as (i := 3) (tb := t_body4 C CI) (ts := t_suite4 K CI) (Wout := fun _ _ _ _ => False) rfl rfl scs__law_induced.nd rfl rfl ⟨rfl, by decide, Or.inl Z.gE⟩ takes0
          (fun W pn xe tk _ => pss_cons (ps_if (pt_val (pv 2)) (pss_one (ps_ret (pe_tup (pa_cons pe_str (pa_cons (by exact (pe_methK (ks := ["subset"]) (gV := id) (gW := id) (pv 0) G.cl Z.me Z.F Z.bk (fun r => r) hr (fun σ => passAt tk σ) (pk_cons (pv 1) pk_nil))) pa_nil))))) pss_nil)
            (pss_one (ps_ret (pe_tup (pa_cons pe_str (pa_cons (by exact (pe_methS (pv 0) G.cl Z.me Z.F hr Z.b (fun σ => passAt tk σ) (pa_cons (pv 1) pa_nil))) pa_nil))))))
          (fun a oe cls d pn hz hf => pss_one (ps_if (pt_val (by exact pe_callB (call_isX hz hf) (by rfl) B.isi (by decide +kernel) (pa_cons (pv 3) (pa_cons (pe_glob rfl Z.gN rfl) pa_nil)))) (pss_one (ps_ret (pe_tup (pa_cons pe_str (pa_cons (by exact pe_xf Z.N.xf Z.N.no hz hf (pv 3)) pa_nil))))) pss_nil)))
      (pss_one (ps_ret (pe_tup (pa_cons pe_str pa_nil)))), ?_⟩
    obtain ⟨dx, e, vt, r, xs, rs, h1, h2, h3, h4, h5, h6⟩ := hgr.ex
    refine ⟨_, rfl, b, rfl, ?_⟩
    cases b with
    | true =>
      exact iteT ⟨_, rfl, g, dx, _, rfl, h1, rfl, _, rfl, rfl, g, n, ps, v, rfl, hgr, hG, h24, hpl, hk, fun h d H' hm => ⟨true, Z.xN, fun _ a _ => suiteN4 Z hm (fun H2 t s2 ht => q H2 _ s2 ⟨t, rfl, .inl ⟨h, ht⟩⟩) a, fun z => nomatch z⟩,
        fun ms e1 e2 e3 H' g' s1 g1 => ⟨(by show 2 ≤ sizeLine; decide), fun t ht => q _ _ (s1.trans (same_new ht)) ⟨t, rfl, .inr ⟨ms, g', e1, e2, e3, upd_same, g1.kp (p := 0) (.of (same_new ht))⟩⟩⟩⟩
    | false =>
      exact iteF ⟨_, rfl, g, dx, _, rfl, h1, rfl, _, rfl, g, n, ps, v, rfl, hgr, hG, h24, hpl, hk, fun h d H' hm => ⟨true, Z.xN, fun _ a _ => suiteN4 Z hm (fun H2 t s2 ht => q H2 _ s2 ⟨t, rfl, .inl ⟨h, ht⟩⟩) a, fun z => nomatch z⟩,
        fun ms e1 e2 e3 H' g' s1 g1 => ⟨(by show 2 ≤ sizeLine; decide), fun t ht => q _ _ (s1.trans (same_new ht)) ⟨t, rfl, .inr ⟨ms, g', e1, e2, e3, upd_same, g1.kp (p := 0) (.of (same_new ht))⟩⟩⟩⟩
end
end Ev
namespace Ev
open PySem PySem.Spec PyProof.Rows L2
structure DueInv (H : Hp) (D : Addr) (L : List (Int × Int)) (H' : Hp) : Prop where
  s : Same H H'
  ex : ∃ xs, H' D = some (.lst xs) ∧ PrsAt H' xs L
end Ev
namespace Ev
open PySem PySem.Spec PyProof.Rows L2
section
variable {P : Program} {w : World} {K : PySem.W.Frag} {mg : Str → Option Value} {base : Heap} {C : Addr}
theorem ok_law_whole {f : Addr} {fd : FuncData} (F : Fun K "_law_whole" "_law_whole" s__law_whole f fd) (G : GrT K C) (B : B0 mg) : FnOk P w K mg base CX0 1 f fd ["value"] (spInteger C) := by
  refine F.ok scs__law_whole (fun vs H Q E h => ?_) (fun cdv A outer s H vs Q E hr h => ?_)
  · obtain ⟨v, g, rfl, _⟩ := h
    rfl
  · obtain ⟨v, g, rfl, hg, q⟩ := h
    refine ⟨_, pss_one (ps_ret (pe_and (pe_callB call_isi (by rfl) B.isi (by decide +kernel) (pa_cons (pv 0) (pa_cons (pe_bltn (v := .ty "int") (by rfl) B.int (by decide +kernel) rfl) pa_nil)))
      (pe_one (pe_not (pe_callB call_isi (by rfl) B.isi (by decide +kernel) (pa_cons (pv 0) (pa_cons (pe_bltn (v := .ty "bool") (by rfl) B.bool (by decide +kernel) rfl) pa_nil))))))), ?_⟩
    refine ⟨v, rfl, v, .ty "int", _, _, _, rfl, .ty _, tag_ty G hg, kit_tag G g .int (by decide) (by decide), _, rfl, ?_⟩
    cases e : g.is .int with
    | true =>
      refine iteT ⟨v, rfl, v, .ty "bool", _, _, _, rfl, .ty _, tag_ty G hg, kit_tag G g .bl (by decide) (by decide), _, rfl, ?_⟩
      have : (!(g.is .bl)) = decide (g = .int) := by cases g <;> first | rfl | (cases e)
      rw [this]; exact q
    | false =>
      refine iteF ?_
      have : false = decide (g = .int) := by cases g <;> first | rfl | (cases e)
      rw [this]; exact q
end
end Ev
namespace Ev
open PySem PySem.Spec PyProof.Rows L2
section
variable {P : Program} {w : World} {K : PySem.W.Frag} {mg : Str → Option Value} {base : Heap} {C : Addr}
theorem ok_law_is_subset {f : Addr} {fd : FuncData} (F : Fun K "_law_is_subset" "_law_is_subset" s__law_is_subset f fd) (G : GrT K C) (B : B0 mg) (cW : Ca P w K mg base 1 "_law_whole" (spInteger C)) :
    FnOk P w K mg base CX0 2 f fd ["value", "size"] (spSubset C) := by
  refine F.ok scs__law_is_subset (fun vs H Q E h => ?_) (fun cdv A outer s H vs Q E hr h => ?_)
  · obtain ⟨v, g, n, rfl, _⟩ := h
    rfl
  · obtain ⟨v, g, n, rfl, hg, hx, q⟩ := h
    refine ⟨_, pss_cons (ps_if (pt_not (pt_val (pe_callB call_isi (by rfl) B.isi (by decide +kernel) (pa_cons (pv 0) (pa_cons (pe_bltn (v := .ty "tuple") (by rfl) B.tuple (by decide +kernel) rfl) pa_nil))))) (pss_one (ps_ret pe_bl)) pss_nil)
      (pss_cons (ps_for PassesOwn.never rfl (pi_range1 rfl B.range (pa_cons (pe_callB call_len_seq (by rfl) B.len (by decide +kernel) (pa_cons (pv 0) pa_nil)) pa_nil)) (pg_name (i := 2) scs__law_is_subset.nd rfl (Or.inl rfl))
        (pss_cons (ps_if (PW.pt (pw_or (pt_not (pt_val (C8.pe_c cW hr (by decide) (by rfl) (pa_cons (pe_ix ix_tup (pv 0) (pv 2) (fun _ _ => rfl)) pa_nil)))) (pw_or (pt_cmpR op_lt (pe_ix ix_tup (pv 0) (pv 2) (fun _ _ => rfl)) pe_int (nomark _)) (pw_or1 (pt_cmpR op_ge (pe_ix ix_tup (pv 0) (pv 2) (fun _ _ => rfl)) (pv 1) (nomark _)))))) (pss_one (ps_ret pe_bl)) pss_nil)
        (pss_one (ps_if (PW.pt (pw_and (pt_cmpR op_gt (pv 2) pe_int (nomark _)) (pw_and1 (pt_cmpR op_ge (pe_ix ix_tup (pv 0) (pe_op op_sub (pv 2) pe_int) (fun _ _ => rfl)) (pe_ix ix_tup (pv 0) (pv 2) (fun _ _ => rfl)) (nomark _))))) (pss_one (ps_ret pe_bl)) pss_nil))))
      (pss_one (ps_ret pe_bl))), ?_⟩
    refine ⟨v, rfl, v, .ty "tuple", _, _, _, rfl, .ty _, tag_ty G hg, kit_tag G g .tup (by decide) (by decide), _, rfl, ?_⟩
    rcases tag_tupOf hg with ⟨rfl, a, xs, rfl, ha, ht⟩ | ⟨hn, ht⟩
    · have hq : subV H (.ref a) n = subL xs n := by unfold subV; rw [ht]
      rw [hq] at q
      obtain ⟨hl, hxs⟩ := hx xs ht
      refine iteF ⟨_, rfl, a, xs, rfl, .inr (.inl (.inl ha)), (xs.length : Int), rfl, by omega, by omega, ?_⟩
      refine for_range (lo := 0) (n := ((xs.length : Nat) : Int).toNat) (fun i σ H' => H' = H ∧ SubTo xs n i ∧ ∃ y2, σ = [some (.ref a), some (.int n), y2]) ⟨rfl, fun i h => absurd h (Nat.not_lt_zero _), none, rfl⟩ ?_ ?_
      · rintro i σ H2 hi ⟨rfl, hS, y2, rfl⟩
        rw [Int.toNat_natCast] at hi
        rw [Int.zero_add]
        have hxi : xs[i]? = some xs[i] := List.getElem?_eq_getElem hi
        generalize hxe : xs[i] = x at hxi
        obtain ⟨gx, hgx⟩ := hxs x (List.mem_of_getElem? hxi)
        refine ⟨_, rfl, _, rfl, a, xs, (i : Int), x, rfl, rfl, .inl (.inl ha), atI_nat hxi, x, gx, rfl, hgx, _, rfl, ?_⟩
        by_cases e : gx = .int
        · obtain ⟨j, rfl⟩ := tag_int (e ▸ hgx)
          rw [decide_eq_true e]
          refine iteF ⟨_, rfl, _, rfl, a, xs, (i : Int), _, rfl, rfl, .inl (.inl ha), atI_nat hxi, _, _, rfl, rfl, _, rfl, ite2 (fun c => ?_) (fun c => ?_)⟩
          · have c : j < 0 := of_decide_eq_true c
            have := sub_no (n := n) hi hxi (by cases hb : betw (.int j) 0 (n - 1) with | false => rfl | true => obtain ⟨m, e1, e2, e3⟩ := betw_iff.mp hb; cases e1; omega)
            rw [this] at q
            exact q _ (Same.refl _)
          have c : ¬ j < 0 := fun z => c (decide_eq_true z)
          refine ⟨_, rfl, _, rfl, a, xs, (i : Int), _, rfl, rfl, .inl (.inl ha), atI_nat hxi, _, rfl, _, _, rfl, rfl, _, rfl, ite2 (fun c2 => ?_) (fun c2 => ?_)⟩
          · have c2 : n ≤ j := of_decide_eq_true c2
            have := sub_no (n := n) hi hxi (by cases hb : betw (.int j) 0 (n - 1) with | false => rfl | true => obtain ⟨m, e1, e2, e3⟩ := betw_iff.mp hb; cases e1; omega)
            rw [this] at q
            exact q _ (Same.refl _)
          have c2 : ¬ n ≤ j := fun z => c2 (decide_eq_true z)
          refine ⟨_, rfl, _, _, rfl, rfl, _, rfl, ite2 (fun c3 => ?_) (fun c3 => ?_)⟩
          · have c3 : (0 : Int) < (i : Int) := of_decide_eq_true c3
            obtain ⟨m', e1, _⟩ := hS (i - 1) (by omega)
            have ei : (i : Int) - 1 = ((i - 1 : Nat) : Int) := by omega
            refine ⟨_, rfl, _, rfl, _, _, rfl, rfl, a, xs, (i : Int) - 1, _, rfl, rfl, .inl (.inl ha), by rw [ei]; exact atI_nat e1, _, rfl, _, rfl, a, xs, (i : Int), _, rfl, rfl, .inl (.inl ha), atI_nat hxi, _, _, rfl, rfl, _, rfl, ite2 (fun c4 => ?_) (fun c4 => ?_)⟩
            · have c4 : j ≤ m' := of_decide_eq_true c4
              have := sub_no2 (n := n) hi (by omega) hxi e1 (by omega)
              rw [this] at q
              exact q _ (Same.refl _)
            · have c4 : ¬ j ≤ m' := fun z => c4 (decide_eq_true z)
              refine ⟨rfl, fun i' h' => ?_, _, rfl⟩
              rcases Nat.lt_succ_iff_lt_or_eq.mp h' with h' | rfl
              · exact hS i' h'
              · exact ⟨j, hxi, by omega, by omega, fun m2 _ h2 => by rw [e1] at h2; cases h2; omega⟩
          · have c3 : ¬ (0 : Int) < (i : Int) := fun z => c3 (decide_eq_true z)
            refine iteF ⟨rfl, fun i' h' => ?_, _, rfl⟩
            rcases Nat.lt_succ_iff_lt_or_eq.mp h' with h' | rfl
            · exact hS i' h'
            · exact ⟨j, hxi, by omega, by omega, fun m2 h0 _ => by omega⟩
        · rw [decide_eq_false e]
          have := sub_no (n := n) hi hxi (by cases x with
            | int j => exact absurd (Option.some.inj hgx).symm e
            | _ => rfl)
          rw [this] at q
          exact iteT (q _ (Same.refl _))
      · rintro σ H2 ⟨rfl, hS, y2, rfl⟩
        rw [Int.toNat_natCast] at hS
        rw [subL_of hS] at q
        exact q _ (Same.refl _)
    · have hq : subV H v n = false := by unfold subV; rw [ht]
      rw [hq] at q
      have : g.is .tup = false := by cases g <;> first | rfl | exact absurd rfl hn
      rw [this]
      exact iteT (q _ (Same.refl _))
end
end Ev
namespace Ev
open PySem PySem.Spec PyProof.Rows L2
def spDue4 (C : Addr) : Sp := fun vs H Q _ => ∃ (n : Nat) (e : Addr) (exs : List V) (ps : List (Int × Int)) (v : V), vs = [.int (n : Int), .ref e, v] ∧ n ≤ 24 ∧ H e = some (.lst exs) ∧ PrsAt H exs ps ∧ Good n ps ∧ ps.length ≤ 300 ∧ Kd C H v ∧
  ((subV H v n = false ∨ tupOf H v = some []) → ∀ H', Same H H' → Q .non H') ∧
  (∀ ms : List Int, tupOf H v = some (ms.map V.int) → subL (ms.map V.int) n = true → ms ≠ [] → ∀ H' q e' xs, Same H H' → H q = none → H e' = none → H' q = some (.tup [.int (ms.length : Int), .ref e']) → H' e' = some (.tup xs) → PrsAt H' xs (indL ps ms) → Q (.ref q) H')
section
variable {P : Program} {w : World} {K : PySem.W.Frag} {mg : Str → Option Value} {base : Heap} {C : Addr}
theorem ok_law_due4 {f : Addr} {fd : FuncData} (F : Fun K "_law_due" "_law_due" s__law_due f fd) (B : B0 mg) (cS : Ca P w K mg base 2 "_law_is_subset" (spSubset C)) : FnOk P w K mg base CX0 3 f fd ["size", "edges", "value"] (spDue4 C) := by
  refine F.ok scs__law_due (fun vs H Q E h => ?_) (fun cdv A outer s H vs Q E hr h => ?_)
  · obtain ⟨n, e, exs, ps, v, rfl, _⟩ := h
    rfl
  · obtain ⟨n, e, exs, ps, v, rfl, h24, he, hP, hG, hpl, ⟨⟨g, hg⟩, hx⟩, qb, q3⟩ := h
    have q1 : subV H v n = false → ∀ H', Same H H' → Q .non H' := fun h => qb (.inl h)
    have q2 : tupOf H v = some [] → ∀ H', Same H H' → Q .non H' := fun h => qb (.inr h)
    refine ⟨_, pss_cons (ps_if (PW.pt (pw_or (pt_not (pt_val (C8.pe_c cS hr (by decide) (by rfl) (pa_cons (pv 2) (pa_cons (pv 0) pa_nil))))) (pw_or1 (pt_cmpR op_eq (pe_callB call_len_seq (by rfl) B.len (by decide +kernel) (pa_cons (pv 2) pa_nil)) pe_int (nomark _))))) (pss_one (ps_ret pe_non)) pss_nil)
      (pss_cons (ps_set (i := 3) scs__law_due.nd rfl (Or.inl rfl) (pe_op op_rep (pe_lst (pa_cons pe_int pa_nil)) (pv 0)))
      (pss_cons (ps_for PassesOwn.never rfl (pi_list (pv 1)) (pg_name (i := 4) scs__law_due.nd rfl (Or.inl rfl))
        (pss_one (ps_asg (pe_op op_or (pe_ix ix_list (pv 3) (pe_ix ix_tup (pv 4) pe_int (fun _ _ => rfl)) (fun _ _ => rfl)) (pe_op op_shl pe_int (pe_ix ix_tup (pv 4) pe_int (fun _ _ => rfl)))) (pg_sub (pv 3) (pe_ix ix_tup (pv 4) pe_int (fun _ _ => rfl)) set_list))))
      (pss_cons (ps_set (i := 5) scs__law_due.nd rfl (Or.inl rfl) (pe_lst pa_nil))
      (pss_cons (ps_for PassesOwn.never rfl (pi_range1 rfl B.range (pa_cons (pe_callB call_len_seq (by rfl) B.len (by decide +kernel) (pa_cons (pv 2) pa_nil)) pa_nil)) (pg_name (i := 6) scs__law_due.nd rfl (Or.inl rfl))
        (pss_one (ps_for PassesOwn.never rfl (pi_range2 (by rfl) B.range (pa_cons (pe_op op_add (pv 6) pe_int) (pa_cons (pe_callB call_len_seq (by rfl) B.len (by decide +kernel) (pa_cons (pv 2) pa_nil)) pa_nil))) (pg_name (i := 7) scs__law_due.nd rfl (Or.inl rfl))
          (pss_one (ps_if (pt_cmpR op_eq (pe_op op_and (pe_op op_shr (pe_ix ix_list (pv 3) (pe_ix ix_tup (pv 2) (pv 6) (fun _ _ => rfl)) (fun _ _ => rfl)) (pe_ix ix_tup (pv 2) (pv 7) (fun _ _ => rfl))) pe_int) pe_int (nomark _))
            (pss_one (ps_expr (pe_bm PySem.F.plainAttrs_list PySem.F.slot_list_append PySem.F.type_list_append mt_append (pv 5) (pa_cons (pe_tup (pa_cons (pv 6) (pa_cons (pv 7) pa_nil))) pa_nil)))) pss_nil)))))
      (pss_one (ps_ret (pe_tup (pa_cons (pe_callB call_len_seq (by rfl) B.len (by decide +kernel) (pa_cons (pv 2) pa_nil)) (pa_cons (pe_callTy call_tuple_of (by rfl) B.tuple (by decide +kernel) (pa_cons (pv 5) pa_nil)) pa_nil))))))))), ?_⟩
    refine ⟨_, rfl, _, rfl, v, g, (n : Int), rfl, hg, hx, fun H1 s1 => ⟨_, rfl, ?_⟩⟩
    cases hs : subV H v n with
    | false => exact iteT (q1 hs _ s1)
    | true =>
    refine iteF ?_
    unfold subV at hs
    cases ht : tupOf H v with
    | none => rw [ht] at hs; cases hs
    | some xs0 =>
    rw [ht] at hs
    have hs : subL xs0 n = true := hs
    have hto := subL_to hs
    have hall : xs0.all (fun x => betw x 0 ((n : Int) - 1)) = true := by
      unfold subL at hs
      exact (Bool.and_eq_true_iff.mp hs).1
    have ex := all_ints hall
    generalize xs0.filterMap intOf = ms at ex
    subst ex
    obtain ⟨va, rfl, hva⟩ := tupOf_at ht
    have hml : ms.length ≤ n := by have := sub_len hto; rw [List.length_map] at this; exact this
    have hva1 := s1 _ _ hva
    refine ⟨.ref va, rfl, va, _, rfl, .inr (.inl (.inl hva1)), rfl, _, rfl, ?_⟩
    rw [List.length_map]
    cases hms : ms with
    | nil =>
      subst hms
      exact iteT (q2 ht _ s1)
    | cons m0 mr =>
    rw [← hms]
    have hne : ms ≠ [] := by rw [hms]; simp
    have : decide (V.int (ms.length : Int) = V.int 0) = false := decide_eq_false fun z => by
      have := V.int.inj z
      rw [hms, List.length_cons] at this
      omega
    rw [this]
    refine iteF ?_
    -- near = [0] * size
    refine ⟨(by show 1 ≤ sizeLine; decide), fun Z hZ => ?_⟩
    have sZ := same_new (o := .lst [.int 0]) hZ
    refine ⟨.int (n : Int), rfl, Z, (n : Int), _, rfl, rfl, upd_same, by omega, by omega, ?_, fun D hD => ?_⟩
    · rw [Int.toNat_natCast]
      have := small1000 (n := 1 * n) (by omega)
      exact Nat.le_of_lt this
    have sD := sZ.trans (same_new (o := .lst (List.replicate ((n : Int).toNat) [V.int 0]).flatten) hD)
    have hD0 : H D = none := (s1.trans sZ).free hD
    have hDD : (upd (upd H1 Z (.lst [.int 0])) D (.lst (List.replicate ((n : Int).toNat) [V.int 0]).flatten)) D = some (.lst (maskL n ([] : List (Int × Int)))) := by
      rw [upd_same, Int.toNat_natCast, List.flatten_replicate_singleton, maskL_nil]
    generalize upd (upd H1 Z (.lst [.int 0])) D (.lst (List.replicate ((n : Int).toNat) [V.int 0]).flatten) = H2 at sD hDD
    have s2 := s1.trans sD
    refine ⟨_, rfl, e, rfl, ⟨_, .inl (.inl (s2 _ _ he))⟩, for_list (K := K) (a := e) (xs := exs) (fun i σ H' => KP D H2 H' ∧ H' D = some (.lst (maskL n (ps.take i))) ∧ ∃ y4, σ = [some (.int (n : Int)), some (.ref e), some (.ref va), some (.ref D), y4, none, none, none])
      ⟨KP.refl _ _, hDD, none, rfl⟩ (fun i σ H' _ h => .inl (.inl (h.1.ls _ _ (ne_of_none he hD0) (s2 _ _ he)))) ?_ ?_⟩
    · rintro i x σ H3 hi ⟨k3, hD3, y4, rfl⟩
      obtain ⟨⟨qa, qb⟩, hq, te, rfl, hte⟩ := paired_get (hP.kp (p := D) ((KP.of s2).trans k3)) hi
      have hb := hG.bd _ (List.mem_of_getElem? hq)
      obtain ⟨a, rfl⟩ : ∃ a : Nat, qa = a := ⟨qa.toNat, by dsimp only at hb; omega⟩
      have han : a < n := by dsimp only at hb; omega
      have ia : ixN (maskL n (ps.take i)).length (a : Int) = some a := by unfold ixN; rw [maskL_len, if_pos (by omega), if_pos (by omega)]; rfl
      refine ⟨_, rfl, _, rfl, te, _, 0, _, rfl, rfl, .inl (.inl hte), atI_nat (j := 0) rfl, D, _, (a : Int), _, rfl, rfl, SqL.of hD3, atI_nat (maskL_get _ han), ?_⟩
      refine ⟨_, rfl, te, _, 1, _, rfl, rfl, .inl (.inl hte), atI_nat (j := 1) rfl, _, _, rfl, rfl, ⟨by dsimp only at hb; omega, by dsimp only at hb; omega, by decide⟩, _, _, rfl, rfl, ?_⟩
      refine ⟨_, rfl, _, rfl, te, _, 0, _, rfl, rfl, .inl (.inl hte), atI_nat (j := 0) rfl, D, _, (a : Int), a, rfl, rfl, hD3, ia, ?_⟩
      refine ⟨k3.trans (KP.put hD3), ?_, _, rfl⟩
      rw [upd_same, List.take_add_one, hq]
      exact congrArg (fun z => some (HO.lst z)) (maskL_set han (by dsimp only at hb; omega))
    · rintro σ H3 ⟨k3, hD3, y4, rfl⟩
      rw [List.take_of_length_le (by rw [paired_len hP]; exact Nat.le_refl _)] at hD3
      have s3 : Same H H3 := fun b o hbo => by
        have hbD : b ≠ D := ne_of_none hbo hD0
        by_cases hz : ∃ zs, o = .lst zs
        · obtain ⟨zs, rfl⟩ := hz
          exact k3.ls _ _ hbD (s2 _ _ hbo)
        · exact k3.nl _ _ (s2 _ _ hbo) fun zs z => hz ⟨zs, z⟩
      refine ⟨Nat.zero_le _, fun R hR => ?_⟩
      have sR := same_new (o := .lst []) hR
      have hva3 := s3 _ _ hva
      refine ⟨_, rfl, va, _, rfl, .inr (.inl (.inl (sR _ _ hva3))), (ms.length : Int), by rw [List.length_map], by omega, by omega, ?_⟩
      refine for_range (lo := 0) (n := ((ms.length : Nat) : Int).toNat) (fun i σ H' => DueInv H3 R ((prsTo (upto ms.length) i).filter (indP ps ms)) H' ∧ ∃ y6 y7, σ = [some (.int (n : Int)), some (.ref e), some (.ref va), some (.ref D), y4, some (.ref R), y6, y7])
        ⟨⟨sR, [], upd_same, .nil⟩, none, none, rfl⟩ ?_ ?_
      · rintro i σ H4 hi ⟨c, y6, y7, rfl⟩
        rw [Int.toNat_natCast] at hi
        have ei : (0 : Int) + (i : Int) = (i : Int) := by omega
        rw [ei]
        refine ⟨_, rfl, _, _, rfl, rfl, _, rfl, va, _, rfl, .inr (.inl (.inl (c.s _ _ hva3))), _, _, by rw [List.length_map], ⟨by omega, by omega, by omega, by omega⟩, ?_⟩
        have hm : ((ms.length : Int) - ((i : Int) + 1)).toNat = ms.length - (i + 1) := by omega
        refine for_range (lo := (i : Int) + 1) (n := ((ms.length : Int) - ((i : Int) + 1)).toNat) (fun j σ H' => DueInv H3 R ((prsTo (upto ms.length) i ++ (rowP (upto ms.length) i).take j).filter (indP ps ms)) H' ∧ ∃ y7, σ = [some (.int (n : Int)), some (.ref e), some (.ref va), some (.ref D), y4, some (.ref R), some (.int (i : Int)), y7])
          ⟨by rw [List.take_zero, List.append_nil]; exact c, y7, rfl⟩ ?_ ?_
        · rintro j σ H5 hj ⟨c3, y7, rfl⟩
          rw [hm] at hj
          have hg2 := rowP_get (n := ms.length) (i := i) (j := j) (by omega)
          have eL : (prsTo (upto ms.length) i ++ (rowP (upto ms.length) i).take (j + 1)).filter (indP ps ms) = (prsTo (upto ms.length) i ++ (rowP (upto ms.length) i).take j).filter (indP ps ms) ++ (if indP ps ms ((i : Int), ((i + 1 + j : Nat) : Int)) = true then [((i : Int), ((i + 1 + j : Nat) : Int))] else []) := by
            rw [List.take_add_one, hg2, ← List.append_assoc, List.filter_append]
            congr 1
            show List.filter (indP ps ms) [((i : Int), ((i + 1 + j : Nat) : Int))] = _
            rw [List.filter_cons, List.filter_nil]
          have ej : (i : Int) + 1 + (j : Int) = ((i + 1 + j : Nat) : Int) := by omega
          rw [ej]
          obtain ⟨ma, ema, ma0, man, _⟩ := hto i (by rw [List.length_map]; exact hi)
          obtain ⟨mb, emb, mb0, mbn, _⟩ := hto (i + 1 + j) (by rw [List.length_map]; omega)
          obtain ⟨a, rfl⟩ : ∃ a : Nat, ma = a := ⟨ma.toNat, by omega⟩
          obtain ⟨b, rfl⟩ : ∃ b : Nat, mb = b := ⟨mb.toNat, by omega⟩
          have hva5 := c3.s _ _ hva3
          have hD5 := c3.s _ _ hD3
          refine ⟨_, rfl, _, rfl, _, rfl, va, _, (i : Int), _, rfl, rfl, .inl (.inl hva5), atI_nat ema, D, _, (a : Int), _, rfl, rfl, SqL.of hD5, atI_nat (maskL_get _ (by omega)), ?_⟩
          refine ⟨_, rfl, _, rfl, va, _, ((i + 1 + j : Nat) : Int), _, rfl, rfl, .inl (.inl hva5), atI_nat emb, _, _, rfl, rfl, by omega, _, _, rfl, rfl, rfl, _, rfl, ?_⟩
          have eP : indP ps ms ((i : Int), ((i + 1 + j : Nat) : Int)) = decide (((a : Int), (b : Int)) ∈ ps) := by
            unfold indP
            obtain ⟨m1, e1, e2⟩ := ints_get ema
            obtain ⟨m2, e3, e4⟩ := ints_get emb
            cases e2
            cases e4
            dsimp only
            rw [Int.toNat_natCast, Int.toNat_natCast, List.getD_eq_getElem?_getD, List.getD_eq_getElem?_getD, e1, e3]
            rfl
          rw [test_bit hG a b, ← eP]
          refine ite2 (fun c => ?_) (fun c => ?_)
          · rw [if_pos c] at eL
            refine ⟨_, rfl, .inl ⟨rfl, _, .inl (.inl c3.ex.choose_spec.1)⟩, ?_⟩
            obtain ⟨xs, h1, h2⟩ := id c3.ex
            refine ⟨_, rfl, _, rfl, (by show 2 ≤ sizeLine; decide), fun t ht => ?_⟩
            have st := same_new (o := .tup [.int (i : Int), .int ((i + 1 + j : Nat) : Int)]) ht
            refine ⟨R, xs, _, rfl, rfl, st _ _ h1, ?_, ?_⟩
            · rw [paired_len h2]
              have h3 := List.length_filter_le (indP ps ms) (prsTo (upto ms.length) i ++ (rowP (upto ms.length) i).take j)
              rw [List.length_append, List.length_take] at h3
              have h4 := prsTo_len (upto ms.length) i
              rw [upto_len] at h4
              have h5 : i * ms.length ≤ 24 * 24 := Nat.mul_le_mul (by omega) (by omega)
              exact small1000 (by omega)
            · refine ⟨⟨fun b o e => by rw [upd_ne (ne_of_none e hR)]; exact st _ _ (c3.s _ _ e), xs ++ [.ref t], upd_same, ?_⟩, _, rfl⟩
              rw [eL]
              have kp : KP R H5 (upd (upd H5 t (.tup [.int (i : Int), .int ((i + 1 + j : Nat) : Int)])) R (.lst (xs ++ [.ref t]))) := (KP.of st).trans (KP.put (st _ _ h1))
              exact paired_app (h2.kp kp) (.cons ⟨t, rfl, (KP.put (p := R) (st _ _ h1)).tup upd_same⟩ .nil)
          · rw [if_neg c, List.append_nil] at eL
            exact ⟨by rw [eL]; exact c3, _, rfl⟩
        · rintro σ H5 ⟨c3, y7, rfl⟩
          rw [hm] at c3
          have e2 : (rowP (upto ms.length) i).take (ms.length - (i + 1)) = rowP (upto ms.length) i := List.take_of_length_le (by rw [rowP_length hi]; exact Nat.le_refl _)
          rw [e2, ← prsTo_succ] at c3
          exact ⟨c3, _, _, rfl⟩
      · rintro σ H4 ⟨c, y6, y7, rfl⟩
        rw [Int.toNat_natCast] at c
        obtain ⟨xs, h1, h2⟩ := id c.ex
        have e3 : (prsTo (upto ms.length) ms.length).filter (indP ps ms) = indL ps ms := by
          unfold indL prs prsTo
          rw [upto_len]
        rw [e3] at h2
        have hva4 := c.s _ _ hva3
        refine ⟨_, rfl, va, _, rfl, .inr (.inl (.inl hva4)), _, rfl, R, xs, rfl, .inl ⟨.inl (.inl h1), fun e' he' => ⟨(by show 2 ≤ sizeLine; decide), fun p hp => ?_⟩⟩⟩
        have se := same_new (o := .tup xs) he'
        have sp := same_new (o := .tup [.int ((ms.map V.int).length : Int), .ref e']) hp
        have s4 := s3.trans c.s
        refine q3 ms ht hs hne _ p e' xs (s4.trans (se.trans sp)) (s4.free (se.free hp)) (s4.free he') (by rw [upd_same, List.length_map]) (sp _ _ upd_same) (h2.kp (p := 0) (.of (se.trans sp)))
end
end Ev
namespace Ev
open PySem PySem.Spec PyProof.Rows L2
def spRight4 (C : Addr) : Sp := fun vs H Q _ => ∃ (g : Addr) (n : Nat) (e : Addr) (exs : List V) (ps : List (Int × Int)) (v : V) (b : Bool) (S : Addr → Prop), vs = [.ref g, .int (n : Int), .ref e, v, .bl b] ∧ GrAt C H g n ps ∧ n ≤ 24 ∧ H e = some (.lst exs) ∧ PrsAt H exs ps ∧ Good n ps ∧ ps.length ≤ 300 ∧ Trk S H ∧ Alk C S 2 H v v ∧ ∀ H', Same H H' → Q (.bl true) H'
section
variable {P : Program} {w : World} {K : PySem.W.Frag} {mg : Str → Option Value} {base : Heap} {C : Addr}
theorem ok_law_right4 {f : Addr} {fd : FuncData} (F : Fun K "_law_right" "_law_right" s__law_right f fd) (G : GrT K C) (A : GrA K C) (B : B0 mg) (hGr : ∃ u, mg "Graph" = some u ∧ RelV (.ref C) u)
    (cC : Ca P w K mg base 3 "_law_copy" (spCopy C 2)) (cA : Ca P w K mg base 4 "_law_alike" (spAlike C 3)) (cA2 : Ca P w K mg base 3 "_law_alike" (spAlike C 2)) (cT : Ca P w K mg base 9 "_law_induced" (spTold C)) (cD : Ca P w K mg base 3 "_law_due" (spDue4 C)) :
    FnOk P w K mg base CX0 10 f fd ["graph", "size", "edges", "value", "named"] (spRight4 C) := by
  refine F.ok scs__law_right (fun vs H Q E h => ?_) (fun cdv A' outer s H vs Q E hr h => ?_)
  · obtain ⟨g, n, e, exs, ps, v, b, S, rfl, _⟩ := h
    rfl
  · obtain ⟨g, n, e, exs, ps, v, b, S, rfl, hgr, h24, he, hP, hG, hpl, hT, hv, q⟩ := h
    refine ⟨_, pss_cons (ps_set (i := 5) scs__law_right.nd rfl (Or.inl rfl) (C8.pe_c cD hr (by decide) (by rfl) (pa_cons (pv 1) (pa_cons (pv 2) (pa_cons (pv 3) pa_nil)))))
      (pss_cons (ps_set (i := 6) scs__law_right.nd rfl (Or.inl rfl) (C8.pe_c cC hr (by decide) (by rfl) (pa_cons (pv 3) pa_nil)))
      (pss_cons (ps_set (i := 7) scs__law_right.nd rfl (Or.inl rfl) (C8.pe_c cT hr (by decide) (by rfl) (pa_cons (pv 0) (pa_cons (pv 3) (pa_cons (pv 4) pa_nil)))))
      (pss_cons (ps_if (PW.pt (pw_or (pt_not (pt_val (C8.pe_c cA2 hr (by decide) (by rfl) (pa_cons (pv 3) (pa_cons (pv 6) pa_nil))))) (pw_or1 (pt_not (pt_val (C8.pe_c cA hr (by decide) (by rfl) (pa_cons (pe_tup (pa_cons (pe_fld (pv 0) rfl) (pa_cons (pe_fld (pv 0) rfl) pa_nil)))
          (pa_cons (pe_tup (pa_cons (pv 1) (pa_cons (pe_callTy call_tuple_of (by rfl) B.tuple (by decide +kernel) (pa_cons (pv 2) pa_nil)) pa_nil))) pa_nil)))))))) (pss_one (ps_ret pe_bl)) pss_nil)
      (pss_cons (ps_if (pt_cmpR op_isN (pv 5) pe_non (nomark _)) (pss_one (ps_ret (C8.pe_c cA hr (by decide) (by rfl) (pa_cons (pv 7) (pa_cons (pe_tup (pa_cons pe_str (pa_cons (pv 6) pa_nil))) pa_nil))))) pss_nil)
      (pss_cons (ps_if (PW.pt (pw_or (pt_cmpR op_ne (pe_ix ix_tup (pv 7) pe_int (fun _ _ => rfl)) pe_str (nomark _)) (pw_or1 (pt_not (pt_val (pe_callB call_isi (by rfl) B.isi (by decide +kernel) (pa_cons (pe_ix ix_tup (pv 7) pe_int (fun _ _ => rfl)) (pa_cons (C8.pe_gc (v := .ref C) (by rfl) hGr) pa_nil))))))))
        (pss_one (ps_ret pe_bl)) pss_nil)
      (pss_one (ps_ret (C8.pe_c cA hr (by decide) (by rfl) (pa_cons (pe_tup (pa_cons (pe_fld (pe_ix ix_tup (pv 7) pe_int (fun _ _ => rfl)) rfl) (pa_cons (pe_fld (pe_ix ix_tup (pv 7) pe_int (fun _ _ => rfl)) rfl) pa_nil))) (pa_cons (pv 5) pa_nil)))))))))), ?_⟩
    have hkd := alk_kd hv
    obtain ⟨dx, ge, vt, r, xs, rs, g1, g2, g3, g4, g5, g6⟩ := hgr.ex
    refine ⟨_, rfl, _, rfl, _, rfl, n, e, exs, ps, v, rfl, h24, he, hP, hG, hpl, hkd, fun hbad H1 s1 => ?_, fun ms ht hs hne H1 dq de dxs s1 hdq0 hde0 hdq hde hdP => ?_⟩
    · skip
      have hv1 := hv.same s1
      refine ⟨_, rfl, v, S, rfl, (fun s hs => let ⟨o, ho⟩ := hT s hs; ⟨o, s1 _ _ ho⟩), hv1, fun H2 cv s2 av => ?_⟩
      have s02 := s1.trans s2
      have av2 : Alk C NoS 2 H2 v cv := av.bare
      refine ⟨_, rfl, _, rfl, _, rfl, g, n, ps, v, b, rfl, hgr.kp (p := 0) (.of s02), hG, h24, hpl, alk_kd (hv.same s02), fun H3 r s3 hr3 => ?_⟩
      obtain ⟨t, rfl, hr3⟩ := hr3
      rw [subV_eq hkd s02, tupOf_eq hkd s02] at hr3
      have s03 := s02.trans s3
      refine ⟨_, rfl, _, rfl, v, cv, NoS, rfl, av2.same s3, fun H4 s4 => ⟨_, rfl, iteF ?_⟩⟩
      have s04 := s03.trans s4
      have e4 := s04 _ _ g1
      refine ⟨_, rfl, g, C, dx, _, .int (n : Int), rfl, e4, G.cl, A.s, rfl, _, rfl, g, C, dx, _, .ref ge, rfl, e4, G.cl, A.e, rfl, (by show 2 ≤ sizeLine; decide), fun t1 ht1 => ?_⟩
      have s5 := same_new (o := .tup [.int (n : Int), .ref ge]) ht1
      have h15 : (upd H4 t1 (.tup [.int (n : Int), .ref ge])) t1 = some (.tup [.int (n : Int), .ref ge]) := upd_same
      generalize upd H4 t1 (.tup [.int (n : Int), .ref ge]) = H5 at s5 h15 ⊢
      have s05 := s04.trans s5
      refine ⟨_, rfl, _, rfl, e, exs, rfl, .inl ⟨.inl (.inl (s05 _ _ he)), fun te hte => ⟨(by show 2 ≤ sizeLine; decide), fun t2 ht2 => ?_⟩⟩⟩
      have s6 := same_new (o := .tup exs) hte
      have s7 := same_new (o := .tup [.int (n : Int), .ref te]) ht2
      have s57 := s6.trans s7
      have s07 := s05.trans s57
      have hte7 := s7 _ _ (upd_same (H := H5) (a := te) (o := .tup exs))
      have h27 : (upd (upd H5 te (.tup exs)) t2 (.tup [.int (n : Int), .ref te])) t2 = some (.tup [.int (n : Int), .ref te]) := upd_same
      generalize upd (upd H5 te (.tup exs)) t2 (.tup [.int (n : Int), .ref te]) = H7 at s7 s57 s07 hte7 h27 ⊢
      refine ⟨_, _, NoS, rfl, alk_two (.inr ⟨s57 _ _ h15, h27⟩) (alk_int (by omega) (by omega)) (.inr ⟨ge, te, xs, exs, rfl, rfl, id, id, .inr ⟨s07 _ _ g2, hte7⟩, by rw [paired_len g3, paired_len hP], by rw [paired_len g3]; omega, alk_pairs (g3.kp (p := 0) (.of s07)) (hP.kp (p := 0) (.of s07)) hG (by omega)⟩), fun H8 s8 => ⟨_, rfl, iteF ?_⟩⟩
      have s08 := s07.trans s8
      have s38 : Same H3 H8 := s4.trans (s5.trans (s57.trans s8))
      refine ⟨_, rfl, rfl, _, rfl, iteT ?_⟩
      have ht3 : H3 t = some (.tup [.str "InvalidSubset", v]) := by
        rcases hr3 with ⟨_, h⟩ | ⟨ms, g', z1, z2, z3, _⟩
        · exact h
        · exfalso
          rcases hbad with z | z
          · unfold subV at z
            rw [z1] at z
            have z : subL (ms.map V.int) n = false := z
            rw [z2] at z
            cases z
          · rw [z1] at z
            exact z3 (List.map_eq_nil_iff.mp (Option.some.inj z))
      refine ⟨_, rfl, _, rfl, (by show 2 ≤ sizeLine; decide), fun p9 hp9 => ?_⟩
      have s9 := same_new (o := .tup [.str "InvalidSubset", cv]) hp9
      exact ⟨_, _, NoS, rfl, alk_two (.inr ⟨s9 _ _ (s38 _ _ ht3), upd_same⟩) (alk_scal rfl True.intro) (av2.same (s3.trans (s38.trans s9))), fun H' s' => q _ (s08.trans (s9.trans s'))⟩
    · skip
      have hv1 := hv.same s1
      refine ⟨_, rfl, v, S, rfl, (fun s hs => let ⟨o, ho⟩ := hT s hs; ⟨o, s1 _ _ ho⟩), hv1, fun H2 cv s2 av => ?_⟩
      have s02 := s1.trans s2
      have av2 : Alk C NoS 2 H2 v cv := av.bare
      refine ⟨_, rfl, _, rfl, _, rfl, g, n, ps, v, b, rfl, hgr.kp (p := 0) (.of s02), hG, h24, hpl, alk_kd (hv.same s02), fun H3 r s3 hr3 => ?_⟩
      obtain ⟨t, rfl, hr3⟩ := hr3
      rw [subV_eq hkd s02, tupOf_eq hkd s02] at hr3
      have s03 := s02.trans s3
      refine ⟨_, rfl, _, rfl, v, cv, NoS, rfl, av2.same s3, fun H4 s4 => ⟨_, rfl, iteF ?_⟩⟩
      have s04 := s03.trans s4
      have e4 := s04 _ _ g1
      refine ⟨_, rfl, g, C, dx, _, .int (n : Int), rfl, e4, G.cl, A.s, rfl, _, rfl, g, C, dx, _, .ref ge, rfl, e4, G.cl, A.e, rfl, (by show 2 ≤ sizeLine; decide), fun t1 ht1 => ?_⟩
      have s5 := same_new (o := .tup [.int (n : Int), .ref ge]) ht1
      have h15 : (upd H4 t1 (.tup [.int (n : Int), .ref ge])) t1 = some (.tup [.int (n : Int), .ref ge]) := upd_same
      generalize upd H4 t1 (.tup [.int (n : Int), .ref ge]) = H5 at s5 h15 ⊢
      have s05 := s04.trans s5
      refine ⟨_, rfl, _, rfl, e, exs, rfl, .inl ⟨.inl (.inl (s05 _ _ he)), fun te hte => ⟨(by show 2 ≤ sizeLine; decide), fun t2 ht2 => ?_⟩⟩⟩
      have s6 := same_new (o := .tup exs) hte
      have s7 := same_new (o := .tup [.int (n : Int), .ref te]) ht2
      have s57 := s6.trans s7
      have s07 := s05.trans s57
      have hte7 := s7 _ _ (upd_same (H := H5) (a := te) (o := .tup exs))
      have h27 : (upd (upd H5 te (.tup exs)) t2 (.tup [.int (n : Int), .ref te])) t2 = some (.tup [.int (n : Int), .ref te]) := upd_same
      generalize upd (upd H5 te (.tup exs)) t2 (.tup [.int (n : Int), .ref te]) = H7 at s7 s57 s07 hte7 h27 ⊢
      refine ⟨_, _, NoS, rfl, alk_two (.inr ⟨s57 _ _ h15, h27⟩) (alk_int (by omega) (by omega)) (.inr ⟨ge, te, xs, exs, rfl, rfl, id, id, .inr ⟨s07 _ _ g2, hte7⟩, by rw [paired_len g3, paired_len hP], by rw [paired_len g3]; omega, alk_pairs (g3.kp (p := 0) (.of s07)) (hP.kp (p := 0) (.of s07)) hG (by omega)⟩), fun H8 s8 => ⟨_, rfl, iteF ?_⟩⟩
      have s08 := s07.trans s8
      have s38 : Same H3 H8 := s4.trans (s5.trans (s57.trans s8))
      have hdq8 := (s2.trans (s3.trans s38)) _ _ hdq
      have hde8 := (s2.trans (s3.trans s38)) _ _ hde
      have hdP8 := hdP.kp (p := 0) (.of (s2.trans (s3.trans s38)))
      refine ⟨_, rfl, rfl, _, rfl, ?_⟩
      rw [show decide (V.ref dq = V.non) = false from rfl]
      refine iteF ?_
      obtain ⟨g', ht3, hg3⟩ : ∃ g', H3 t = some (.tup [.str "answer", .ref g']) ∧ GrAt C H3 g' ms.length (indL ps ms) := by
        rcases hr3 with ⟨z, _⟩ | ⟨ms', g', z1, z2, z3, z4, z5⟩
        · exfalso
          rcases z with z | z
          · unfold subV at z
            rw [ht] at z
            have z : subL (ms.map V.int) n = false := z
            rw [hs] at z
            cases z
          · rw [ht] at z
            exact hne (List.map_eq_nil_iff.mp (Option.some.inj z))
        · rw [ht] at z1
          have em : ms = ms' := map_int_inj (Option.some.inj z1)
          subst em
          exact ⟨g', z4, z5⟩
      have ht8 := s38 _ _ ht3
      have hg8 : GrAt C H8 g' ms.length (indL ps ms) := hg3.kp (p := 0) (.of s38)
      refine ⟨_, rfl, t, _, 0, _, rfl, rfl, .inl (.inl ht8), atI_nat (j := 0) rfl, rfl, _, rfl, ?_⟩
      refine iteNS rfl ?_
      refine ⟨_, rfl, t, _, 1, .ref g', rfl, rfl, .inl (.inl ht8), atI_nat (j := 1) rfl, .ref g', .ref C, _, _, _, rfl, .own _, tag_ty G hg8.tag, kit_gr G .gr, _, rfl, ?_⟩
      refine iteF ?_
      obtain ⟨dx', e', vt', r', xs', rs', k1, k2, k3, _⟩ := hg8.ex
      refine ⟨_, rfl, t, _, 1, .ref g', rfl, rfl, .inl (.inl ht8), atI_nat (j := 1) rfl, g', C, dx', _, .int (ms.length : Int), rfl, k1, G.cl, A.s, rfl, _, rfl, t, _, 1, .ref g', rfl, rfl, .inl (.inl ht8), atI_nat (j := 1) rfl, g', C, dx', _, .ref e', rfl, k1, G.cl, A.e, rfl, (by show 2 ≤ sizeLine; decide), fun p9 hp9 => ?_⟩
      have s9 := same_new (o := .tup [.int (ms.length : Int), .ref e']) hp9
      have hml : ms.length ≤ 24 := by
        have := sub_len (subL_to hs)
        rw [List.length_map] at this
        omega
      have hil : (indL ps ms).length ≤ 300 := Nat.le_trans (List.length_filter_le _ _) (prs_len hml)
      exact ⟨_, rfl, _, _, NoS, rfl, alk_two (.inr ⟨upd_same, s9 _ _ hdq8⟩) (alk_int (by omega) (by omega)) (.inr ⟨e', de, xs', dxs, rfl, rfl, id, id, .inr ⟨s9 _ _ k2, s9 _ _ hde8⟩, by rw [paired_len k3, paired_len hdP], by rw [paired_len k3]; omega, alk_pairs (k3.kp (p := 0) (.of s9)) (hdP8.kp (p := 0) (.of s9)) ((good_prs _).filter _) (by omega)⟩), fun H' s' => q _ (s08.trans (s9.trans s'))⟩
end
end Ev
namespace Ev
open PySem PySem.Spec PyProof.Rows L2
/-! ### subsets, drawn -/
structure SubN (n : Nat) (ns : List Int) : Prop where
  pw : ns.Pairwise (· < ·)
  bd : ∀ x ∈ ns, 0 ≤ x ∧ x < (n : Int)
  ln : ns.length ≤ 24
theorem SubN.nil (n : Nat) : SubN n [] := ⟨.nil, fun x h => (nomatch h), by decide⟩
theorem SubN.sub {n : Nat} {ns ms : List Int} (h : SubN n ns) (s : ms.Sublist ns) : SubN n ms := ⟨h.pw.sublist s, fun x hx => h.bd x (s.subset hx), Nat.le_trans s.length_le h.ln⟩
theorem SubN.upto {n : Nat} (h : n ≤ 24) : SubN n (upto n) := ⟨upto_pw n, fun x hx => by
  unfold Ev.upto at hx
  obtain ⟨i, hi, rfl⟩ := List.mem_map.mp hx
  have := List.mem_range.mp hi
  show 0 ≤ (i : Int) ∧ (i : Int) < n
  omega, by rw [upto_len]; exact h⟩
theorem SubN.one {n : Nat} {r : Int} (h0 : 0 ≤ r) (h1 : r < n) : SubN n [r] := ⟨List.pairwise_singleton _ _, fun x hx => by rw [List.mem_singleton.mp hx]; exact ⟨h0, h1⟩, by show 1 ≤ 24; decide⟩
theorem SubN.to {n : Nat} {ns : List Int} (h : SubN n ns) : subL (ns.map V.int) n = true := subL_of fun i hi => by
  rw [List.length_map] at hi
  refine ⟨ns[i], by rw [List.getElem?_map, List.getElem?_eq_getElem hi]; rfl, ?_, ?_, fun m' h0 hm' => ?_⟩
  · exact (h.bd _ (List.getElem_mem hi)).1
  · have := (h.bd _ (List.getElem_mem hi)).2; omega
  · obtain ⟨m, e1, e2⟩ := ints_get hm'
    cases e2
    obtain ⟨h3, h4⟩ := List.getElem?_eq_some_iff.mp e1
    rw [← h4]
    exact List.pairwise_iff_getElem.mp h.pw (i - 1) i h3 hi (by omega)
structure SuInv (H : Hp) (p l D : Addr) (n i : Nat) (H' : Hp) : Prop where
  k : KP p H H'
  P : Pool p l H'
  ex : ∃ ns : List Int, H' D = some (.lst (ns.map V.int)) ∧ ns.Sublist ((upto n).take i)
theorem fresh_kp {p D : Addr} {H H' : Hp} {o : HO} (k : KP p H H') (hp : H' p = some o) (h : H' D = none) : H D = none := by
  cases e : H D with
  | none => rfl
  | some o2 =>
    exfalso
    by_cases hz : ∀ zs, o2 ≠ .lst zs
    · rw [k.nl D o2 e hz] at h; cases h
    · obtain ⟨zs, hz⟩ : ∃ zs, o2 = .lst zs := Classical.byContradiction fun z => hz fun zs h => z ⟨zs, h⟩
      subst hz
      rw [k.ls D zs (Ne.symm (ne_of_none hp h)) e] at h; cases h
end Ev
namespace Ev
open PySem PySem.Spec PyProof.Rows L2
structure RowInv (C : Addr) (S : Addr → Prop) (H : Hp) (p l t D : Addr) (n : Nat) (ns : List Int) (at' : Nat) (kind : Int) (m : Nat) (σ : L2.St) (H' : Hp) : Prop where
  k : KP p H H'
  P : Pool p l H'
  ex : ∃ xs, H' D = some (.lst xs) ∧ xs.length ≤ m ∧ at' < xs.length ∧ (∀ x ∈ xs, Alk C (fun s => S s ∨ s = D) 1 H' x x) ∧ (m < 29 → 6 < kind → xs = ns.map V.int)
  st : ∃ y6, σ = [some (.ref p), some (.ref t), some (.int (n : Int)), some (.ref D), some (.int (at' : Int)), some (.int kind), y6]
section
variable {C : Addr} {S : Addr → Prop} {H H' : Hp} {p l t D : Addr} {n : Nat} {ns : List Int} {at' : Nat} {kind : Int} {m : Nat} {σ : L2.St}
theorem RowInv.up (c : RowInv C S H p l t D n ns at' kind m σ H') : RowInv C S H p l t D n ns at' kind (m + 1) σ H' := by
  obtain ⟨xs, h1, h2, h3⟩ := c.ex
  exact ⟨c.k, c.P, ⟨xs, h1, by omega, h3.1, h3.2.1, fun z => h3.2.2 (by omega)⟩, c.st⟩
/-- the row is written anew -/
theorem RowInv.put {H2 : Hp} {xs : List V} {y6 : Option V} (hD0 : H D = none) (hDp : p ≠ D) (hDl : l ≠ D) (k : KP p H H2) (hp : Pool p l H2) (h : ∃ zs, H2 D = some (.lst zs)) (hl : xs.length ≤ m) (ha : at' < xs.length) (hx : ∀ x ∈ xs, Alk C (fun s => S s ∨ s = D) 1 H2 x x) (hk : m < 29 → 6 < kind → xs = ns.map V.int) :
    RowInv C S H p l t D n ns at' kind m [some (.ref p), some (.ref t), some (.int (n : Int)), some (.ref D), some (.int (at' : Int)), some (.int kind), y6] (upd H2 D (.lst xs)) := by
  obtain ⟨zs, h⟩ := h
  exact ⟨k.fresh hD0, hp.put hDp hDl, ⟨xs, upd_same, hl, ha, fun x hx' => Alk.kp (S := fun s => S s ∨ s = D) (p := D) (.inr rfl) (KP.put h) (hx x hx'), hk⟩, y6, rfl⟩
theorem alk_row {xs : List V} (hn : ¬ S t) (h : H t = some (.lst xs) ∨ H t = some (.tup xs)) (hl : xs.length ≤ 1000) (hx : ∀ x ∈ xs, Alk C S 1 H x x) : Alk C S 2 H (.ref t) (.ref t) :=
  .inr ⟨t, t, xs, xs, rfl, rfl, hn, hn, by rcases h with h | h; exact .inl ⟨h, h⟩; exact .inr ⟨h, h⟩, rfl, hl, fun i x y hx' hy => by
    rw [hx'] at hy
    cases hy
    exact hx x (List.mem_of_getElem? hx')⟩
end
theorem ints_alk {C : Addr} {S : Addr → Prop} {H : Hp} {k n : Nat} {ns : List Int} (h : SubN n ns) (hn : n ≤ 24) : ∀ x ∈ ns.map V.int, Alk C S k H x x := fun x hx => by
  obtain ⟨i, hi, rfl⟩ := List.mem_map.mp hx
  have := h.bd i hi
  exact alk_int (by omega) (by omega)
end Ev
namespace Ev
open PySem PySem.Spec PyProof.Rows L2
/-! ### a subset, spoilt -/
def spSpoilt (C : Addr) : Sp := fun vs H Q _ => ∃ (p l t : Addr) (n : Nat) (ns : List Int) (S : Addr → Prop), vs = [.ref p, .ref t, .int (n : Int)] ∧ Pool p l H ∧ S p ∧ Trk S H ∧ H t = some (.tup (ns.map V.int)) ∧ SubN n ns ∧ ns ≠ [] ∧ n ≤ 24 ∧
  ∀ H' v, Pool p l H' → KP p H H' → Alk C S 2 H' v v → Q v H'
section
variable {P : Program} {w : World} {K : PySem.W.Frag} {mg : Str → Option Value} {base : Heap} {C : Addr}
theorem ok_law_spoilt {f : Addr} {fd : FuncData} (F : Fun K "_law_spoilt" "_law_spoilt" s__law_spoilt f fd) (B : B0 mg) (cD : Ca P w K mg base 2 "_law_draw" spDraw) (c1 : Ca P w K mg base 9 "_law_thing" (spThing C 1)) (c2 : Ca P w K mg base 10 "_law_thing" (spThing C 2)) : FnOk P w K mg base CX0 11 f fd ["pool", "subset", "size"] (spSpoilt C) := by
  refine F.ok scs__law_spoilt (fun vs H Q E h => ?_) (fun cdv A outer s H vs Q E hr h => ?_)
  · obtain ⟨p, l, t, n, ns, S, rfl, _⟩ := h
    rfl
  · obtain ⟨p, l, t, n, ns, S, rfl, hp, hSp, hT, ht, hN, hne, h24, q⟩ := h
    refine ⟨_, pss_cons (ps_set (i := 3) scs__law_spoilt.nd rfl (Or.inl rfl) (pe_callTy call_list_of (by rfl) B.list (by decide +kernel) (pa_cons (pv 1) pa_nil)))
      (pss_cons (ps_set (i := 4) scs__law_spoilt.nd rfl (Or.inl rfl) (C8.pe_c cD hr (by decide) (by rfl) (pa_cons (pv 0) (pa_cons (pe_callB call_len_seq (by rfl) B.len (by decide +kernel) (pa_cons (pv 3) pa_nil)) pa_nil))))
      (pss_cons (ps_set (i := 5) scs__law_spoilt.nd rfl (Or.inl rfl) (C8.pe_c cD hr (by decide) (by rfl) (pa_cons (pv 0) (pa_cons pe_int pa_nil))))
      (pss_cons (ps_if (pt_cmpR op_eq (pv 5) pe_int (nomark _)) (pss_one (ps_ret (pv 3))) pss_nil)
      (pss_cons (ps_if (pt_cmpR op_eq (pv 5) pe_int (nomark _)) (pss_one (ps_ret (pe_tup pa_nil))) pss_nil)
      (pss_cons (ps_if (pt_cmpR op_eq (pv 5) pe_int (nomark _)) (pss_one (ps_ret (C8.pe_c c2 hr (by decide) (by rfl) (pa_cons (pv 0) (pa_cons pe_int pa_nil))))) pss_nil)
      (C8.pss_cut (ps_if (pt_cmpR op_eq (pv 5) pe_int (nomark _)) (pss_one (ps_expr (pe_bm PySem.F.plainAttrs_list PySem.F.slot_list_insert PySem.F.type_list_insert mt_insert (pv 3) (pa_cons (pv 4) (pa_cons (pe_ix ix_list (pv 3) (pv 4) (fun _ _ => rfl)) pa_nil))))) pss_nil)
      (C8.pss_cut (ps_if (pt_cmpR op_eq (pv 5) pe_int (nomark _)) (pss_cons (ps_set (i := 6) scs__law_spoilt.nd rfl (Or.inl rfl) (C8.pe_c cD hr (by decide) (by rfl) (pa_cons (pv 0) (pa_cons (pe_callB call_len_seq (by rfl) B.len (by decide +kernel) (pa_cons (pv 3) pa_nil)) pa_nil))))
        (pss_cons (ps_asg (pe_ix ix_list (pv 3) (pv 6) (fun _ _ => rfl)) (pg_sub (pv 3) (pv 4) set_list))
        (pss_one (ps_asg (pe_ix ix_tup (pv 1) (pv 4) (fun _ _ => rfl)) (pg_sub (pv 3) (pv 6) set_list))))) pss_nil)
      (C8.pss_cut (ps_if (pt_cmpR op_eq (pv 5) pe_int (nomark _)) (pss_one (ps_expr (pe_bm PySem.F.plainAttrs_list PySem.F.slot_list_append PySem.F.type_list_append mt_append (pv 3) (pa_cons (pe_op op_add (pv 2) (C8.pe_c cD hr (by decide) (by rfl) (pa_cons (pv 0) (pa_cons pe_int pa_nil)))) pa_nil)))) pss_nil)
      (C8.pss_cut (ps_if (pt_cmpR op_eq (pv 5) pe_int (nomark _)) (pss_one (ps_expr (pe_bm PySem.F.plainAttrs_list PySem.F.slot_list_insert PySem.F.type_list_insert mt_insert (pv 3) (pa_cons pe_int (pa_cons (pe_un un_neg pe_int) pa_nil))))) pss_nil)
      (C8.pss_cut (ps_if (pt_cmpR op_eq (pv 5) pe_int (nomark _)) (pss_one (ps_asg (pe_ix ix_list (pe_lst (pa_cons (pe_cmpR op_eq (pe_ix ix_list (pv 3) (pv 4) (fun _ _ => rfl)) pe_int (nomark _)) (pa_cons (C8.pe_c c1 hr (by decide) (by rfl) (pa_cons (pv 0) (pa_cons pe_int pa_nil))) pa_nil)))
          (pe_callTy call_int1 (by rfl) B.int (by decide +kernel) (pa_cons (pe_cmpR op_gt (pe_ix ix_list (pv 3) (pv 4) (fun _ _ => rfl)) pe_int (nomark _)) pa_nil)) (fun _ _ => rfl)) (pg_sub (pv 3) (pv 4) set_list))) pss_nil)
      (C8.pss_cut (ps_if (pt_cmpR op_eq (pv 5) pe_int (nomark _)) (pss_one (ps_expr (pe_bm PySem.F.plainAttrs_list PySem.F.slot_list_insert PySem.F.type_list_insert mt_insert (pv 3) (pa_cons (pv 4) (pa_cons (C8.pe_c c1 hr (by decide) (by rfl) (pa_cons (pv 0) (pa_cons pe_int pa_nil))) pa_nil))))) pss_nil)
      (pss_one (ps_ret (pe_callTy call_tuple_of (by rfl) B.tuple (by decide +kernel) (pa_cons (pv 3) pa_nil))))))))))))))), ?_⟩
    refine ⟨_, rfl, t, ns.map V.int, rfl, .inr (.inl (.inl ht)), fun D hD0 => ?_⟩
    have hDp : p ≠ D := by obtain ⟨o, ho⟩ := hp.at_; exact ne_of_none ho hD0
    have hDl : l ≠ D := by obtain ⟨o, ho⟩ := hp.atl; exact ne_of_none ho hD0
    have hnD : ¬ S D := hT.ne hD0
    have hS' : (fun s => S s ∨ s = D) p := .inl hSp
    have hl0 : 0 < ns.length := List.length_pos_iff.mpr hne
    have hln := hN.ln
    have hp0 : Pool p l (upd H D (.lst (ns.map V.int))) := hp.put hDp hDl
    have k0 : KP p H (upd H D (.lst (ns.map V.int))) := .of (same_new hD0)
    have hD1 : (upd H D (.lst (ns.map V.int))) D = some (.lst (ns.map V.int)) := upd_same
    generalize upd H D (.lst (ns.map V.int)) = H1 at hp0 k0 hD1
    refine ⟨_, rfl, _, rfl, D, _, rfl, .inl (SqL.of hD1), ?_⟩
    rw [List.length_map]
    refine ⟨p, l, (ns.length : Int), rfl, hp0, by omega, by omega, fun H2 ra hp2 k2 a0 a1 => ?_⟩
    obtain ⟨at', rfl⟩ : ∃ a : Nat, ra = a := ⟨ra.toNat, by omega⟩
    refine ⟨_, rfl, p, l, 9, rfl, hp2, by decide, by decide, fun H3 kind hp3 k3 b0 b1 => ?_⟩
    have k03 := k0.trans (k2.trans k3)
    have hD3 := k3.ls _ _ (Ne.symm hDp) (k2.ls _ _ (Ne.symm hDp) hD1)
    have ht3 : H3 t = some (.tup (ns.map V.int)) := k03.tup ht
    refine ⟨_, rfl, rfl, _, rfl, ite2 (fun _ => ?_) (fun _ => ?_)⟩
    · exact ⟨_, rfl, q _ _ hp3 k03 (alk_row hnD (.inl hD3) (by rw [List.length_map]; omega) (ints_alk hN h24))⟩
    refine ⟨_, rfl, rfl, _, rfl, ite2 (fun _ => ?_) (fun _ => ?_)⟩
    · refine ⟨(by show 0 ≤ sizeLine; decide), fun t2 ht2 => ?_⟩
      have s4 := same_new (o := .tup []) ht2
      exact q _ _ (hp3.same s4) (k03.trans (.of s4)) (alk_row ((hT.kp k03 hp3.at_).ne ht2) (.inr upd_same) (by decide) (fun x h => nomatch h))
    refine ⟨_, rfl, rfl, _, rfl, ite2 (fun _ => ?_) (fun _ => ?_)⟩
    · exact ⟨_, rfl, p, l, S, rfl, hp3, hSp, hT.kp k03 hp3.at_, fun H4 v hp4 k4 a4 => q _ _ hp4 (k03.trans k4) a4⟩
    have c0 : RowInv C S H p l t D n ns at' kind 24 [some (.ref p), some (.ref t), some (.int (n : Int)), some (.ref D), some (.int (at' : Int)), some (.int kind), none] H3 :=
      ⟨k03, hp3, ⟨_, hD3, by rw [List.length_map]; omega, by rw [List.length_map]; omega, ints_alk hN h24, fun _ _ => rfl⟩, none, rfl⟩
    -- kind 3
    refine ⟨RowInv C S H p l t D n ns at' kind 25, ?_, ?_⟩
    · obtain ⟨xs, h1, h2, h3, h4, h5⟩ := c0.ex
      have hxa : xs[at']? = some xs[at'] := List.getElem?_eq_getElem h3
      refine ⟨_, rfl, rfl, _, rfl, ite2 (fun c => ?_) (fun _ => c0.up)⟩
      have hk : kind = 3 := by have := V.int.inj (of_decide_eq_true c); exact this
      refine ⟨_, rfl, .inl ⟨rfl, _, .inl (.inl h1)⟩, _, rfl, _, rfl, _, rfl, D, xs, (at' : Int), _, rfl, rfl, SqL.of h1, atI_nat hxa, ?_⟩
      refine ⟨D, xs, (at' : Int), _, rfl, rfl, h1, small1000 (by omega), by omega, by omega, ?_⟩
      refine RowInv.put hD0 hDp hDl c0.k c0.P ⟨_, h1⟩ (by simp; omega) (by simp; omega) (fun x hx => ?_) (by omega)
      rw [List.mem_append, List.mem_append, List.mem_singleton] at hx
      rcases hx with (hx | rfl) | hx
      · exact h4 x (List.mem_of_mem_take hx)
      · exact h4 _ (List.getElem_mem h3)
      · exact h4 x (List.mem_of_mem_drop hx)
    rintro σ H4 c4
    -- kind 4
    refine ⟨RowInv C S H p l t D n ns at' kind 26, ?_, ?_⟩
    · obtain ⟨y6, rfl⟩ := c4.st
      obtain ⟨xs, h1, h2, h3, h4, h5⟩ := c4.ex
      refine ⟨_, rfl, rfl, _, rfl, ite2 (fun c => ?_) (fun _ => c4.up)⟩
      have hk : kind = 4 := by have := V.int.inj (of_decide_eq_true c); exact this
      refine ⟨_, rfl, _, rfl, D, xs, rfl, .inl (SqL.of h1), p, l, (xs.length : Int), rfl, c4.P, by omega, by omega, fun H5 ro hp5 k5 e0 e1 => ?_⟩
      obtain ⟨ot, rfl⟩ : ∃ a : Nat, ro = a := ⟨ro.toNat, by omega⟩
      have h15 := k5.ls _ _ (Ne.symm hDp) h1
      have hxo : xs[ot]? = some (xs[ot]'(by omega)) := List.getElem?_eq_getElem (by omega)
      have h45 : ∀ x ∈ xs, Alk C (fun s => S s ∨ s = D) 1 H5 x x := fun x hx => Alk.kp (S := fun s => S s ∨ s = D) (p := p) hS' k5 (h4 x hx)
      have ia : ixN xs.length (at' : Int) = some at' := by unfold ixN; rw [if_pos (by omega), if_pos (by omega)]; rfl
      have io : ixN xs.length (ot : Int) = some ot := by unfold ixN; rw [if_pos (by omega), if_pos (by omega)]; rfl
      refine ⟨_, rfl, _, rfl, D, xs, (ot : Int), _, rfl, rfl, SqL.of h15, atI_nat hxo, _, rfl, _, rfl, D, xs, (at' : Int), at', rfl, rfl, h15, ia, ?_⟩
      have kD := KP.put (p := D) (ws := xs.set at' (xs[ot]'(by omega))) h15
      have ht6 : (upd H5 D (.lst (xs.set at' (xs[ot]'(by omega))))) t = some (.tup (ns.map V.int)) := kD.tup ((c4.k.trans k5).tup ht)
      have h16 : (upd H5 D (.lst (xs.set at' (xs[ot]'(by omega))))) D = some (.lst (xs.set at' (xs[ot]'(by omega)))) := upd_same
      have hp6 := hp5.put (o := .lst (xs.set at' (xs[ot]'(by omega)))) hDp hDl
      have k6 := (c4.k.trans k5).fresh (o := .lst (xs.set at' (xs[ot]'(by omega)))) hD0
      have a6 : ∀ x ∈ xs, Alk C (fun s => S s ∨ s = D) 1 (upd H5 D (.lst (xs.set at' (xs[ot]'(by omega))))) x x := fun x hx => Alk.kp (S := fun s => S s ∨ s = D) (p := D) (.inr rfl) kD (h45 x hx)
      have hat : at' < ns.length := by omega
      have hta : (ns.map V.int)[at']? = some (.int ns[at']) := by rw [List.getElem?_map, List.getElem?_eq_getElem hat]; rfl
      refine ⟨_, rfl, _, rfl, t, _, (at' : Int), _, rfl, rfl, .inl (.inl ht6), atI_nat hta, _, rfl, _, rfl, D, _, (ot : Int), ot, rfl, rfl, h16, by rw [List.length_set]; exact io, ?_⟩
      refine RowInv.put hD0 hDp hDl k6 hp6 ⟨_, h16⟩ (by simp; omega) (by simp; omega) (fun y hy => ?_) (by omega)
      rcases List.mem_or_eq_of_mem_set hy with hy | rfl
      · rcases List.mem_or_eq_of_mem_set hy with hy | rfl
        · exact a6 y hy
        · exact a6 _ (List.getElem_mem _)
      · have := hN.bd _ (List.getElem_mem hat)
        exact alk_int (by omega) (by omega)
    rintro σ H4 c4
    -- kind 5
    refine ⟨RowInv C S H p l t D n ns at' kind 27, ?_, ?_⟩
    · obtain ⟨y6, rfl⟩ := c4.st
      obtain ⟨xs, h1, h2, h3, h4, h5⟩ := c4.ex
      refine ⟨_, rfl, rfl, _, rfl, ite2 (fun c => ?_) (fun _ => c4.up)⟩
      have hk : kind = 5 := by have := V.int.inj (of_decide_eq_true c); exact this
      refine ⟨_, rfl, .inl ⟨rfl, _, .inl (.inl h1)⟩, _, rfl, _, rfl, p, l, 2, rfl, c4.P, by decide, by decide, fun H5 r hp5 k5 e0 e1 => ⟨_, _, rfl, rfl, ?_⟩⟩
      have h15 := k5.ls _ _ (Ne.symm hDp) h1
      refine ⟨D, xs, _, rfl, rfl, h15, small1000 (by omega), RowInv.put hD0 hDp hDl (c4.k.trans k5) hp5 ⟨_, h15⟩ (by simp; omega) (by simp; omega) (fun x hx => ?_) (by omega)⟩
      rcases List.mem_append.mp hx with hx | hx
      · exact Alk.kp (S := fun s => S s ∨ s = D) (p := p) hS' k5 (h4 x hx)
      · rw [List.mem_singleton.mp hx]
        exact alk_int (i := (n : Int) + r) (by omega) (by omega)
    rintro σ H4 c4
    -- kind 6
    refine ⟨RowInv C S H p l t D n ns at' kind 28, ?_, ?_⟩
    · obtain ⟨y6, rfl⟩ := c4.st
      obtain ⟨xs, h1, h2, h3, h4, h5⟩ := c4.ex
      refine ⟨_, rfl, rfl, _, rfl, ite2 (fun c => ?_) (fun _ => c4.up)⟩
      have hk : kind = 6 := by have := V.int.inj (of_decide_eq_true c); exact this
      refine ⟨_, rfl, .inl ⟨rfl, _, .inl (.inl h1)⟩, _, rfl, D, xs, 0, _, rfl, rfl, h1, small1000 (by omega), by decide, by decide, ?_⟩
      refine RowInv.put hD0 hDp hDl c4.k c4.P ⟨_, h1⟩ (by simp; omega) (by simp; omega) (fun x hx => ?_) (by omega)
      rw [List.mem_append, List.mem_append, List.mem_singleton] at hx
      rcases hx with (hx | rfl) | hx
      · exact h4 x (List.mem_of_mem_take hx)
      · exact alk_int (i := -1) (by decide) (by decide)
      · exact h4 x (List.mem_of_mem_drop hx)
    rintro σ H4 c4
    -- kind 7
    refine ⟨RowInv C S H p l t D n ns at' kind 29, ?_, ?_⟩
    · obtain ⟨y6, rfl⟩ := c4.st
      obtain ⟨xs, h1, h2, h3, h4, h5⟩ := c4.ex
      refine ⟨_, rfl, rfl, _, rfl, ite2 (fun c => ?_) (fun _ => c4.up)⟩
      have hk : kind = 7 := by have := V.int.inj (of_decide_eq_true c); exact this
      have hxs := h5 (by omega) (by omega)
      subst hxs
      rw [List.length_map] at h3
      have hxa : (ns.map V.int)[at']? = some (.int ns[at']) := by rw [List.getElem?_map, List.getElem?_eq_getElem h3]; rfl
      refine ⟨_, rfl, _, rfl, D, _, (at' : Int), _, rfl, rfl, SqL.of h1, atI_nat hxa, rfl, ?_⟩
      have TS : Trk (fun s => S s ∨ s = D) H4 := fun s hs => by
        rcases hs with hs | rfl
        · exact hT.kp c4.k c4.P.at_ s hs
        · exact ⟨_, h1⟩
      refine ⟨_, rfl, p, l, (fun s => S s ∨ s = D), rfl, c4.P, hS', TS, fun H5 v hp5 k5 a5 => ⟨(by show 2 ≤ sizeLine; decide), fun L hL => ?_⟩⟩
      have sL := same_new (o := .lst [.bl (decide (V.int ns[at'] = V.int 1)), v]) hL
      have h15 := sL _ _ (k5.ls _ _ (Ne.symm hDp) h1)
      have hLL : (upd H5 L (.lst [.bl (decide (V.int ns[at'] = V.int 1)), v])) L = some (.lst [.bl (decide (V.int ns[at'] = V.int 1)), v]) := upd_same
      have k56 := k5.trans (.of sL)
      have hp6 := hp5.same sL
      have a6 := a5.same sL
      generalize upd H5 L (.lst [.bl (decide (V.int ns[at'] = V.int 1)), v]) = H6 at sL h15 hLL k56 hp6 a6 ⊢
      have ia : ixN (ns.map V.int).length (at' : Int) = some at' := by unfold ixN; rw [List.length_map, if_pos (by omega), if_pos (by omega)]; rfl
      have fin : ∀ x, Alk C (fun s => S s ∨ s = D) 1 H6 x x → RowInv C S H p l t D n ns at' kind 29 [some (.ref p), some (.ref t), some (.int (n : Int)), some (.ref D), some (.int (at' : Int)), some (.int kind), y6] (upd H6 D (.lst ((ns.map V.int).set at' x))) := fun x ax => by
        refine RowInv.put hD0 hDp hDl (c4.k.trans k56) hp6 ⟨_, h15⟩ (by simp; omega) (by simp; omega) (fun y hy => ?_) (by omega)
        rcases List.mem_or_eq_of_mem_set hy with hy | rfl
        · exact Alk.kp (S := fun s => S s ∨ s = D) (p := p) hS' k56 (h4 y hy)
        · exact ax
      have hat := hN.bd _ (List.getElem_mem h3)
      refine ⟨_, rfl, _, rfl, D, _, (at' : Int), _, rfl, rfl, SqL.of h15, atI_nat hxa, _, _, rfl, rfl, .inr ⟨_, rfl, ?_⟩⟩
      cases decide ((1 : Int) < ns[at']) with
      | false => exact ⟨L, _, 0, _, rfl, rfl, SqL.of hLL, atI_nat (j := 0) rfl, _, rfl, _, rfl, D, _, (at' : Int), at', rfl, rfl, h15, ia, fin _ (alk_scal rfl True.intro)⟩
      | true => exact ⟨L, _, 1, _, rfl, rfl, SqL.of hLL, atI_nat (j := 1) rfl, _, rfl, _, rfl, D, _, (at' : Int), at', rfl, rfl, h15, ia, fin _ a6⟩
    rintro σ H4 c4
    -- kind 8
    refine ⟨RowInv C S H p l t D n ns at' kind 30, ?_, ?_⟩
    · obtain ⟨y6, rfl⟩ := c4.st
      obtain ⟨xs, h1, h2, h3, h4, h5⟩ := c4.ex
      refine ⟨_, rfl, rfl, _, rfl, ite2 (fun c => ?_) (fun _ => c4.up)⟩
      have TS : Trk (fun s => S s ∨ s = D) H4 := fun s hs => by
        rcases hs with hs | rfl
        · exact hT.kp c4.k c4.P.at_ s hs
        · exact ⟨_, h1⟩
      refine ⟨_, rfl, .inl ⟨rfl, _, .inl (.inl h1)⟩, _, rfl, _, rfl, p, l, (fun s => S s ∨ s = D), rfl, c4.P, hS', TS, fun H5 v hp5 k5 a5 => ?_⟩
      have h15 := k5.ls _ _ (Ne.symm hDp) h1
      refine ⟨D, xs, (at' : Int), _, rfl, rfl, h15, small1000 (by omega), by omega, by omega, ?_⟩
      refine RowInv.put hD0 hDp hDl (c4.k.trans k5) hp5 ⟨_, h15⟩ (by simp; omega) (by simp; omega) (fun x hx => ?_) (by omega)
      rw [List.mem_append, List.mem_append, List.mem_singleton] at hx
      rcases hx with (hx | rfl) | hx
      · exact Alk.kp (S := fun s => S s ∨ s = D) (p := p) hS' k5 (h4 x (List.mem_of_mem_take hx))
      · exact a5
      · exact Alk.kp (S := fun s => S s ∨ s = D) (p := p) hS' k5 (h4 x (List.mem_of_mem_drop hx))
    rintro σ H4 c4
    obtain ⟨y6, rfl⟩ := c4.st
    obtain ⟨xs, h1, h2, h3, h4, h5⟩ := c4.ex
    refine ⟨_, rfl, D, xs, rfl, .inl ⟨.inl (.inl h1), fun t2 ht2 => ?_⟩⟩
    have st := same_new (o := .tup xs) ht2
    exact q _ _ (c4.P.same st) (c4.k.trans (.of st)) (alk_row ((hT.kp c4.k c4.P.at_).ne ht2) (.inr upd_same) (by omega) (fun x hx => ((h4 x hx).same st).more fun s hs => .inl (.inl hs)))
end
end Ev
namespace Ev
open PySem PySem.Spec PyProof.Rows L2
def spSub : Sp := fun vs H Q _ => ∃ (p l : Addr) (n : Nat), vs = [.ref p, .int (n : Int)] ∧ Pool p l H ∧ 1 ≤ n ∧ n ≤ 24 ∧
  ∀ (H' : Hp) (t : Addr) (ns : List Int), Pool p l H' → KP p H H' → H' t = some (.tup (ns.map V.int)) → SubN n ns → ns ≠ [] → Q (.ref t) H'
section
variable {P : Program} {w : World} {K : PySem.W.Frag} {mg : Str → Option Value} {base : Heap} {C : Addr}
theorem ok_law_subset {f : Addr} {fd : FuncData} (F : Fun K "_law_subset" "_law_subset" s__law_subset f fd) (B : B0 mg) (cD : Ca P w K mg base 2 "_law_draw" spDraw) : FnOk P w K mg base CX0 3 f fd ["pool", "size"] spSub := by
  refine F.ok scs__law_subset (fun vs H Q E h => ?_) (fun cdv A outer s H vs Q E hr h => ?_)
  · obtain ⟨p, l, n, rfl, _⟩ := h
    rfl
  · obtain ⟨p, l, n, rfl, hp, h1, h24, q⟩ := h
    refine ⟨_, pss_cons (ps_set (i := 2) scs__law_subset.nd rfl (Or.inr rfl) (pe_op op_add pe_int (C8.pe_c cD hr (by decide) (by rfl) (pa_cons (pv 0) (pa_cons pe_int pa_nil)))))
      (pss_cons (ps_setLc (i := 3) (own := [("v", 4)]) (g := gName 4) rfl scs__law_subset.nd rfl rfl (sw_true rfl rfl rfl (by decide +kernel)) (pi_range1 rfl B.range (pa_cons (pv 1) pa_nil))
        (blkOk_by (N := Ns__law_subset) (sc := defScope s__law_subset) (by decide +kernel)) (fun _ _ _ _ _ => pg_name (i := 4) scs__law_subset.nd rfl (Or.inl rfl))
        (fun _ _ _ _ _ => pts_one (pt_cmpR op_eq (C8.pe_c cD (by exact hr) (by decide) (by rfl) (pa_cons (pv 0) (pa_cons (pv 2) pa_nil))) pe_int (nomark _))) (fun _ _ _ _ _ => pv 4))
      (C8.pss_cut (ps_if (pt_cmpR op_eq (pe_callB call_len_seq (by rfl) B.len (by decide +kernel) (pa_cons (pv 3) pa_nil)) pe_int (nomark _))
        (pss_one (ps_expr (pe_bm PySem.F.plainAttrs_list PySem.F.slot_list_append PySem.F.type_list_append mt_append (pv 3) (pa_cons (C8.pe_c cD hr (by decide) (by rfl) (pa_cons (pv 0) (pa_cons (pv 1) pa_nil))) pa_nil)))) pss_nil)
      (pss_one (ps_ret (pe_callTy call_tuple_of (by rfl) B.tuple (by decide +kernel) (pa_cons (pv 3) pa_nil)))))), ?_⟩
    refine ⟨_, rfl, p, l, 4, rfl, hp, by decide, by decide, fun H1 r1 hp1 k1 a0 a1 => ⟨_, _, rfl, rfl, ?_⟩⟩
    refine ⟨_, rfl, (n : Int), rfl, by omega, by omega, fun D hD => ?_⟩
    have hDp : p ≠ D := by obtain ⟨o, ho⟩ := hp1.at_; exact ne_of_none ho hD
    have hDl : l ≠ D := by obtain ⟨o, ho⟩ := hp1.atl; exact ne_of_none ho hD
    have hD0 : H D = none := by obtain ⟨o, ho⟩ := hp1.at_; exact fresh_kp k1 ho hD
    refine lc_range (lo := 0) (n := ((n : Nat) : Int).toNat) (SuInv H p l D n) ⟨k1.trans (.of (same_new hD)), hp1.put hDp hDl, [], upd_same, List.nil_sublist _⟩ ?_ ?_
    · rintro i H2 hi ⟨k2, hp2, ns, hn1, hn2⟩
      rw [Int.toNat_natCast] at hi
      rw [Int.zero_add]
      have et : (upto n).take (i + 1) = (upto n).take i ++ [(i : Int)] := by rw [List.take_add_one, upto_get hi]; rfl
      refine ⟨rfl, _, rfl, _, rfl, p, l, 1 + r1, rfl, hp2, by omega, by omega, fun H3 r hp3 k3 r0 rl => ⟨rfl, _, rfl, ite2 (fun c => ?_) (fun c => ?_)⟩⟩
      · have h14 := k3.ls _ _ (Ne.symm hDp) hn1
        refine ⟨_, rfl, ns.map V.int, h14, ?_, (k2.trans k3).fresh hD0, hp3.put hDp hDl, ns ++ [(i : Int)], by rw [upd_same, List.map_append]; rfl, by rw [et]; exact hn2.append (List.Sublist.refl _)⟩
        have := hn2.length_le
        rw [List.length_take, upto_len] at this
        rw [List.length_map]
        exact small1000 (by omega)
      · exact ⟨k2.trans k3, hp3, ns, k3.ls _ _ (Ne.symm hDp) hn1, by rw [et]; exact hn2.trans (List.sublist_append_left _ _)⟩
    · rintro H2 ⟨k2, hp2, ns, hn1, hn2⟩
      rw [Int.toNat_natCast, List.take_of_length_le (by rw [upto_len]; exact Nat.le_refl _)] at hn2
      have hS := (SubN.upto h24).sub hn2
      refine ⟨fun σ' H' => ∃ ms : List Int, σ' = [some (.ref p), some (.int (n : Int)), some (.int (1 + r1)), some (.ref D), none] ∧ KP p H H' ∧ Pool p l H' ∧ H' D = some (.lst (ms.map V.int)) ∧ SubN n ms ∧ ms ≠ [], ?_, ?_⟩
      · refine ⟨_, rfl, D, _, rfl, .inl (SqL.of hn1), rfl, _, rfl, ?_⟩
        rw [List.length_map]
        cases e : ns with
        | nil =>
          refine iteT ⟨_, rfl, .inl ⟨rfl, _, .inl (.inl hn1)⟩, ?_⟩
          refine ⟨_, rfl, _, rfl, p, l, (n : Int), rfl, hp2, by omega, by omega, fun H3 r hp3 k3 r0 rl => ?_⟩
          have h14 := k3.ls _ _ (Ne.symm hDp) hn1
          rw [e] at h14
          exact ⟨D, [], _, rfl, rfl, h14, by decide, [r], rfl, (k2.trans k3).fresh hD0, hp3.put hDp hDl, upd_same, SubN.one r0 rl, by simp⟩
        | cons x xs =>
          rw [← e]
          have : decide (V.int (ns.length : Int) = V.int 0) = false := decide_eq_false fun z => by
            have := V.int.inj z
            rw [e, List.length_cons] at this
            omega
          rw [this]
          exact iteF ⟨ns, rfl, k2, hp2, hn1, hS, by rw [e]; simp⟩
      · rintro σ' H' ⟨ms, rfl, k3, hp3, hm1, hm2, hm3⟩
        refine ⟨_, rfl, D, ms.map V.int, rfl, .inl ⟨.inl (.inl hm1), fun t ht => ?_⟩⟩
        have st := same_new (o := .tup (ms.map V.int)) ht
        exact q _ t ms (hp3.same st) (k3.trans (.of st)) upd_same hm2 hm3
end
end Ev
namespace Ev
open PySem PySem.Spec PyProof.Rows L2
def spEdges : Sp := fun vs H Q _ => ∃ (p l : Addr) (n : Nat), vs = [.ref p, .int (n : Int)] ∧ Pool p l H ∧ n ≤ 24 ∧
  ∀ H' D xs ps, Pool p l H' → KP p H H' → H D = none → H' D = some (.lst xs) → PrsAt H' xs ps → Good n ps → ps.length ≤ 300 → Q (.ref D) H'
section
variable {P : Program} {w : World} {K : PySem.W.Frag} {mg : Str → Option Value} {base : Heap} {C : Addr}
theorem ok_law_edges {f : Addr} {fd : FuncData} (F : Fun K "_law_edges" "_law_edges" s__law_edges f fd) (B : B0 mg) (cD : Ca P w K mg base 2 "_law_draw" spDraw) : FnOk P w K mg base CX0 3 f fd ["pool", "size"] spEdges := by
  refine F.ok scs__law_edges (fun vs H Q E h => ?_) (fun cdv A outer s H vs Q E hr h => ?_)
  · obtain ⟨p, l, n, rfl, _⟩ := h
    rfl
  · obtain ⟨p, l, n, rfl, hp, h24, q⟩ := h
    refine ⟨_, pss_cons (ps_set (i := 2) scs__law_edges.nd rfl (Or.inl rfl) (C8.pe_c cD hr (by decide) (by rfl) (pa_cons (pv 0) (pa_cons pe_int pa_nil))))
      (pss_cons (ps_set (i := 3) scs__law_edges.nd rfl (Or.inl rfl) (pe_lst pa_nil))
      (pss_cons (ps_for PassesOwn.never rfl (pi_range1 rfl B.range (pa_cons (pv 1) pa_nil)) (pg_name (i := 4) scs__law_edges.nd rfl (Or.inl rfl))
        (pss_one (ps_for PassesOwn.never rfl (pi_range2 (by rfl) B.range (pa_cons (pe_op op_add (pv 4) pe_int) (pa_cons (pv 1) pa_nil))) (pg_name (i := 5) scs__law_edges.nd rfl (Or.inl rfl))
          (pss_one (ps_if (PW.pt (pw_and (pt_cmpR op_gt (pv 2) pe_int (nomark _)) (pw_and1 (pt_cmpR op_eq (C8.pe_c cD hr (by decide) (by rfl) (pa_cons (pv 0) (pa_cons (pv 2) pa_nil))) pe_int (nomark _)))))
            (pss_one (ps_expr (pe_bm PySem.F.plainAttrs_list PySem.F.slot_list_append PySem.F.type_list_append mt_append (pv 3) (pa_cons (pe_tup (pa_cons (pv 4) (pa_cons (pv 5) pa_nil))) pa_nil)))) pss_nil)))))
      (pss_one (ps_ret (pv 3))))), ?_⟩
    refine ⟨_, rfl, p, l, 5, rfl, hp, by decide, by decide, fun H1 dn hp1 k1 d0 d1 => ⟨Nat.zero_le _, fun D hD => ?_⟩⟩
    have hDp : p ≠ D := by obtain ⟨o, ho⟩ := hp1.at_; exact ne_of_none ho hD
    have hDl : l ≠ D := by obtain ⟨o, ho⟩ := hp1.atl; exact ne_of_none ho hD
    have hD0 : H D = none := by
      cases e : H D with
      | none => rfl
      | some o =>
        exfalso
        by_cases hz : ∀ zs, o ≠ .lst zs
        · rw [k1.nl D o e hz] at hD; cases hD
        · obtain ⟨zs, hz⟩ : ∃ zs, o = .lst zs := Classical.byContradiction fun z => hz fun zs h => z ⟨zs, h⟩
          subst hz
          rw [k1.ls D zs (Ne.symm hDp) e] at hD; cases hD
    have hpD : Pool p l (upd H1 D (.lst [])) := hp1.put hDp hDl
    refine ⟨_, rfl, (n : Int), rfl, by omega, by omega, ?_⟩
    refine for_range (lo := 0) (n := ((n : Nat) : Int).toNat) (fun i σ H' => EdInv H p l D (prsTo (upto n) i) H' ∧ ∃ y4 y5, σ = [some (.ref p), some (.int (n : Int)), some (.int dn), some (.ref D), y4, y5])
      ⟨⟨k1.trans (.of (same_new hD)), hpD, [], [], upd_same, .nil, List.nil_sublist _⟩, none, none, rfl⟩ ?_ ?_
    · rintro i σ H2 hi ⟨c, y4, y5, rfl⟩
      rw [Int.toNat_natCast] at hi
      have ei : (0 : Int) + (i : Int) = (i : Int) := by omega
      rw [ei]
      refine ⟨_, rfl, _, _, rfl, rfl, _, rfl, _, _, rfl, ⟨by omega, by omega, by omega, by omega⟩, ?_⟩
      have hm : ((n : Int) - ((i : Int) + 1)).toNat = n - (i + 1) := by omega
      refine for_range (lo := (i : Int) + 1) (n := ((n : Int) - ((i : Int) + 1)).toNat) (fun j σ H' => EdInv H p l D (prsTo (upto n) i ++ (rowP (upto n) i).take j) H' ∧ ∃ y5, σ = [some (.ref p), some (.int (n : Int)), some (.int dn), some (.ref D), some (.int (i : Int)), y5])
        ⟨by rw [List.take_zero, List.append_nil]; exact c, y5, rfl⟩ ?_ ?_
      · rintro j σ H3 hj ⟨c3, y5, rfl⟩
        rw [hm] at hj
        have hg := rowP_get (n := n) (i := i) (j := j) (by omega)
        have eL : prsTo (upto n) i ++ (rowP (upto n) i).take (j + 1) = (prsTo (upto n) i ++ (rowP (upto n) i).take j) ++ [((i : Int), ((i + 1 + j : Nat) : Int))] := by
          rw [List.take_add_one, hg, List.append_assoc]
          rfl
        have ej : (i : Int) + 1 + (j : Int) = ((i + 1 + j : Nat) : Int) := by omega
        rw [ej]
        obtain ⟨xs, ps, h1, h2, h3⟩ := id c3.ex
        have hskip : ∀ {H4 : Hp}, Pool p l H4 → KP p H3 H4 → EdInv H p l D (prsTo (upto n) i ++ (rowP (upto n) i).take (j + 1)) H4 := fun {H4} hp4 k4 =>
          ⟨c3.k.trans k4, hp4, xs, ps, k4.ls _ _ (Ne.symm hDp) h1, h2.kp k4, by rw [eL]; exact h3.trans (List.sublist_append_left _ _)⟩
        refine ⟨_, rfl, _, _, rfl, rfl, _, rfl, ite2 (fun c => ?_) (fun c => ?_)⟩
        · have c : 0 < dn := of_decide_eq_true c
          refine ⟨_, rfl, _, rfl, p, l, dn, rfl, c3.P, c, by omega, fun H4 r hp4 k4 r0 r1 => ⟨rfl, _, rfl, ite2 (fun c5 => ?_) (fun c5 => ?_)⟩⟩
          · have h14 := k4.ls _ _ (Ne.symm hDp) h1
            refine ⟨_, rfl, .inl ⟨rfl, _, .inl (.inl h14)⟩, _, rfl, _, rfl, (by show 2 ≤ sizeLine; decide), fun t ht => ?_⟩
            have st := same_new (o := .tup [.int (i : Int), .int ((i + 1 + j : Nat) : Int)]) ht
            have hsl := h3.length_le
            refine ⟨D, xs, _, rfl, rfl, st _ _ h14, ?_, ⟨((c3.k.trans k4).trans (.of st)).fresh hD0, (hp4.same st).put hDp hDl, xs ++ [.ref t], ps ++ [((i : Int), ((i + 1 + j : Nat) : Int))], upd_same, ?_, ?_⟩, _, rfl⟩
            · rw [paired_len h2]
              rw [List.length_append, List.length_take] at hsl
              have h4 := prsTo_len (upto n) i
              rw [upto_len] at h4
              have h5 : i * n ≤ 24 * 24 := Nat.mul_le_mul (by omega) h24
              exact small1000 (by omega)
            · have kp : KP D H4 (upd (upd H4 t (.tup [.int (i : Int), .int ((i + 1 + j : Nat) : Int)])) D (.lst (xs ++ [.ref t]))) := (KP.of st).trans (KP.put (st _ _ h14))
              exact paired_app ((h2.kp k4).kp kp) (.cons ⟨t, rfl, (KP.put (p := D) (st _ _ h14)).tup upd_same⟩ .nil)
            · rw [eL]; exact h3.append (List.Sublist.refl _)
          · exact ⟨hskip hp4 k4, _, rfl⟩
        · exact iteF ⟨hskip c3.P (KP.refl _ _), _, rfl⟩
      · rintro σ H3 ⟨c3, y5, rfl⟩
        rw [hm] at c3
        have e2 : (rowP (upto n) i).take (n - (i + 1)) = rowP (upto n) i := List.take_of_length_le (by rw [rowP_length hi]; exact Nat.le_refl _)
        rw [e2, ← prsTo_succ] at c3
        exact ⟨c3, _, _, rfl⟩
    · rintro σ H2 ⟨c, y4, y5, rfl⟩
      rw [Int.toNat_natCast] at c
      obtain ⟨xs, ps, h1, h2, h3⟩ := id c.ex
      have e3 : prsTo (upto n) n = prs (upto n) := by unfold prs prsTo; rw [upto_len]
      rw [e3] at h3
      exact ⟨_, rfl, q _ D xs ps c.P c.k hD0 h1 h2 ((good_prs n).sub h3) (Nat.le_trans h3.length_le (prs_len h24))⟩
end
end Ev
namespace Ev
open PySem PySem.Spec PyProof.Rows L2
def spAsked (K : PySem.W.Frag) : Sp := fun vs H Q _ => ∃ (a : Addr) (ns : List Int), vs = [.ref a] ∧ SqL K H a (ns.map V.int) ∧ ns.length ≤ 63 ∧ ∀ H', Q (.bl true) H'
section
variable {P : Program} {w : World} {K : PySem.W.Frag} {mg : Str → Option Value} {base : Heap} {C : Addr}
theorem ok_law {k : Nat} {f : Addr} {fd : FuncData} (F : Fun K "law" "law" s_law f fd) (cA : C8.Cal P w K mg base k "_law_asked" (spAsked K) []) : FnOk P w K mg base CX0 (k + 1) f fd ["script"] (spAsked K) := by
  refine F.ok scs_law (fun vs H Q E h => ?_) (fun cdv A outer s H vs Q E hr h => ?_)
  · obtain ⟨a, ns, rfl, _⟩ := h
    rfl
  · obtain ⟨a, ns, rfl, hS, hlen, q⟩ := h
    refine ⟨_, pss_one (ps_try_thru0 (pss_one (ps_ret (C8.pe_c cA (by exact hr) (Nat.le_refl _) (by rfl) (pa_cons (pv 0) pa_nil))))), ?_⟩
    exact ⟨_, rfl, a, ns, rfl, hS, hlen, fun H' => q H'⟩
end
end Ev
namespace Ev
open PySem PySem.Spec PyProof.Rows L2
/-- what the law holds all the while -/
structure Rest (C : Addr) (p l g e : Addr) (n : Nat) (exs : List V) (ps : List (Int × Int)) (H : Hp) : Prop where
  P : Pool p l H
  g : GrAt C H g n ps
  e : H e = some (.lst exs)
  x : PrsAt H exs ps
theorem Rest.kp {C p l g e : Addr} {n : Nat} {exs : List V} {ps : List (Int × Int)} {H H' : Hp} (r : Rest C p l g e n exs ps H) (hep : e ≠ p) (k : KP p H H') (hp : Pool p l H') : Rest C p l g e n exs ps H' := ⟨hp, r.g.kp k, k.ls _ _ hep r.e, r.x.kp k⟩
theorem Rest.same {C p l g e : Addr} {n : Nat} {exs : List V} {ps : List (Int × Int)} {H H' : Hp} (r : Rest C p l g e n exs ps H) (hep : e ≠ p) (s : Same H H') : Rest C p l g e n exs ps H' := r.kp hep (.of s) (r.P.same s)
theorem Rest.trk {C p l g e : Addr} {n : Nat} {exs : List V} {ps : List (Int × Int)} {H : Hp} (r : Rest C p l g e n exs ps H) : Trk (fun s => s = p) H := fun s hs => hs ▸ r.P.at_
theorem sub_alk {C p l t : Addr} {H : Hp} {n : Nat} {ns : List Int} (hp : Pool p l H) (h : H t = some (.tup (ns.map V.int))) (hN : SubN n ns) (h24 : n ≤ 24) : Alk C (fun s => s = p) 2 H (.ref t) (.ref t) := by
  refine alk_row (fun z => ?_) (.inr h) (by rw [List.length_map]; have := hN.ln; omega) (ints_alk hN h24)
  obtain ⟨i, j, u, ms, h1, _⟩ := hp
  have z : t = p := z
  rw [z, h1] at h
  cases h
section
variable {P : Program} {w : World} {K : PySem.W.Frag} {mg : Str → Option Value} {base : Heap} {C : Addr}
theorem ok_law_asked4 {f : Addr} {fd : FuncData} (F : Fun K "_law_asked" "_law_asked" s__law_asked f fd) (B : B0 mg) (cD : Ca P w K mg base 2 "_law_draw" spDraw) (cE : Ca P w K mg base 3 "_law_edges" spEdges) (cS : Ca P w K mg base 3 "_law_subset" spSub) (cX : Ca P w K mg base 11 "_law_spoilt" (spSpoilt C)) (cG : C8.Mak P w K mg base 6 "Graph" C (spInit C) []) (cR : Ca P w K mg base 10 "_law_right" (spRight4 C)) :
    FnOk P w K mg base CX0 12 f fd ["script"] (spAsked K) := by
  refine F.ok scs__law_asked (fun vs H Q E h => ?_) (fun cdv A outer s H vs Q E hr h => ?_)
  · obtain ⟨a, ns, rfl, _⟩ := h
    rfl
  · obtain ⟨a, ns, rfl, hS, hlen, q⟩ := h
    refine ⟨_, pss_cons (ps_set (i := 1) scs__law_asked.nd rfl (Or.inl rfl) (pe_lst (pa_cons (pe_callTy call_list_of (by rfl) B.list (by decide +kernel) (pa_cons (pv 0) pa_nil)) (pa_cons pe_int (pa_cons pe_int (pa_cons pe_int pa_nil))))))
      (pss_cons (ps_set (i := 2) scs__law_asked.nd rfl (Or.inl rfl) (pe_op op_add pe_int (C8.pe_c cD hr (by decide) (by rfl) (pa_cons (pv 1) (pa_cons (pe_ix ix_list (pe_lst (pa_cons pe_int (pa_cons pe_int pa_nil))) (C8.pe_c cD hr (by decide) (by rfl) (pa_cons (pv 1) (pa_cons pe_int pa_nil))) (fun _ _ => rfl)) pa_nil)))))
      (pss_cons (ps_set (i := 3) scs__law_asked.nd rfl (Or.inl rfl) (C8.pe_c cE hr (by decide) (by rfl) (pa_cons (pv 1) (pa_cons (pv 2) pa_nil))))
      (pss_cons (ps_set (i := 4) scs__law_asked.nd rfl (Or.inl rfl) (C8.pe_mk cG hr (by decide) (by rfl) (pa_cons (pv 2) (pa_cons (pv 3) pa_nil))))
      (pss_cons (ps_set (i := 5) scs__law_asked.nd rfl (Or.inl rfl) (C8.pe_c cS hr (by decide) (by rfl) (pa_cons (pv 1) (pa_cons (pv 2) pa_nil))))
      (pss_cons (ps_set (i := 6) scs__law_asked.nd rfl (Or.inl rfl) (pe_cmpR op_eq (C8.pe_c cD hr (by decide) (by rfl) (pa_cons (pv 1) (pa_cons pe_int pa_nil))) pe_int (nomark _)))
      (pss_cons (ps_if (pt_not (pt_val (C8.pe_c cR hr (by decide) (by rfl) (pa_cons (pv 4) (pa_cons (pv 2) (pa_cons (pv 3) (pa_cons (pv 5) (pa_cons (pv 6) pa_nil)))))))) (pss_one (ps_ret pe_bl)) pss_nil)
      (pss_cons (ps_for PassesOwn.never rfl (pi_range1 rfl B.range (pa_cons (C8.pe_c cD hr (by decide) (by rfl) (pa_cons (pv 1) (pa_cons pe_int pa_nil))) pa_nil)) (pg_name (i := 7) scs__law_asked.nd rfl (Or.inl rfl))
        (pss_one (ps_if (pt_not (pt_val (C8.pe_c cR hr (by decide) (by rfl) (pa_cons (pv 4) (pa_cons (pv 2) (pa_cons (pv 3) (pa_cons (C8.pe_c cX hr (by decide) (by rfl) (pa_cons (pv 1) (pa_cons (pv 5) (pa_cons (pv 2) pa_nil)))) (pa_cons (pe_not (pv 6)) pa_nil)))))))) (pss_one (ps_ret pe_bl)) pss_nil)))
      (pss_cons (ps_set (i := 8) scs__law_asked.nd rfl (Or.inl rfl) (C8.pe_c cS hr (by decide) (by rfl) (pa_cons (pv 1) (pa_cons (pv 2) pa_nil))))
      (pss_cons (ps_if (PW.pt (pw_or (pt_not (pt_val (C8.pe_c cR hr (by decide) (by rfl) (pa_cons (pv 4) (pa_cons (pv 2) (pa_cons (pv 3) (pa_cons (pv 8) (pa_cons (pv 6) pa_nil)))))))) (pw_or1 (pt_not (pt_val (C8.pe_c cR hr (by decide) (by rfl) (pa_cons (pv 4) (pa_cons (pv 2) (pa_cons (pv 3) (pa_cons (pv 5) (pa_cons (pv 6) pa_nil))))))))))) (pss_one (ps_ret pe_bl)) pss_nil)
      (pss_one (ps_ret (C8.pe_c cR hr (by decide) (by rfl) (pa_cons (pv 4) (pa_cons (pv 2) (pa_cons (pv 3) (pa_cons (pe_callTy call_tuple_of (by rfl) B.tuple (by decide +kernel) (pa_cons (pe_lc (own := [("v", 9)]) (g := gName 9) (tt := tYes) rfl scs__law_asked.nd (pi_range1 rfl B.range (pa_cons (pv 2) pa_nil))
          (blkOk_by (N := Ns__law_asked) (sc := defScope s__law_asked) (by decide +kernel)) (fun _ _ _ _ _ => pg_name (i := 9) scs__law_asked.nd rfl (Or.inl rfl)) (fun _ _ _ _ _ => pts_nil) (fun _ _ _ _ _ => pv 9)) pa_nil)) (pa_cons (pv 6) pa_nil))))))))))))))))), ?_⟩
    refine ⟨_, rfl, a, ns.map V.int, rfl, .inl hS, fun l hl => ⟨(by show 4 ≤ sizeLine; decide), fun p hp => ?_⟩⟩
    have hlp : l ≠ p := fun z => by rw [← z, upd_same] at hp; cases hp
    have P0 : Pool p l (upd (upd H l (.lst (ns.map V.int))) p (.lst [.ref l, .int 0, .int 0, .int 0])) := ⟨0, 0, 0, ns, upd_same, hlp, by rw [upd_ne hlp]; exact upd_same, hlen⟩
    generalize upd (upd H l (.lst (ns.map V.int))) p (.lst [.ref l, .int 0, .int 0, .int 0]) = H1 at P0 ⊢
    refine ⟨_, rfl, (by show 2 ≤ sizeLine; decide), fun L hL => ?_⟩
    have sL := same_new (o := .lst [.int 8, .int 24]) hL
    have P1 := P0.same sL
    have hLp : L ≠ p := fun z => by obtain ⟨o, ho⟩ := P0.at_; exact ne_of_none ho hL z.symm
    refine ⟨_, rfl, p, l, 2, rfl, P1, by decide, by decide, fun H2 r2 P2 k2 a0 a1 => ?_⟩
    have hL2 := k2.ls _ _ hLp (upd_same (H := H1) (a := L) (o := .lst [.int 8, .int 24]))
    obtain ⟨m, hm, m0, m24⟩ : ∃ m : Int, atI [V.int 8, V.int 24] r2 = some (.int m) ∧ 0 < m ∧ m ≤ 24 := by
      obtain rfl | rfl : r2 = 0 ∨ r2 = 1 := by omega
      · exact ⟨8, rfl, by decide, by decide⟩
      · exact ⟨24, rfl, by decide, by decide⟩
    refine ⟨L, _, r2, _, rfl, rfl, SqL.of hL2, hm, p, l, m, rfl, P2, m0, by omega, fun H3 r3 P3 k3 b0 b1 => ⟨_, _, rfl, rfl, ?_⟩⟩
    obtain ⟨n, hn⟩ : ∃ n : Nat, 1 + r3 = (n : Int) := ⟨(1 + r3).toNat, by omega⟩
    have en : (fun i j => V.int (i + j)) 1 r3 = V.int (n : Int) := congrArg V.int hn
    rw [en]
    have h24 : n ≤ 24 := by omega
    refine ⟨_, rfl, _, rfl, p, l, n, rfl, P3, h24, fun H4 e exs ps P4 k4 he0 he hx hG hpl => ?_⟩
    have hep : e ≠ p := fun z => by obtain ⟨o, ho⟩ := P3.at_; rw [z, ho] at he0; cases he0
    refine ⟨_, rfl, _, rfl, fun g dx hg hdx hne => ?_⟩
    have hg5 : (upd H4 dx (.own g)) g = none := by rw [upd_ne hne.symm]; exact hg
    have s6 := same_new (o := .own g) hdx
    have s7 := same_new (o := .ins C dx []) hg5
    refine ⟨g, dx, e, n, exs, ps, rfl, by omega, h24, upd_same, .inl (s7 _ _ (s6 _ _ he)), hx.kp (p := 0) (.of (s6.trans s7)), hpl, hG, fun H5 k5 g5 => ⟨rfl, ?_⟩⟩
    have s45 : Same H4 H5 := fun b o z => k5 b o (fun zz => by
      rw [zz, hg] at z
      cases z) (s7 _ _ (s6 _ _ z))
    have R5 : Rest C p l g e n exs ps H5 := ⟨P4.same s45, g5, s45 _ _ he, hx.kp (p := 0) (.of s45)⟩
    refine ⟨_, rfl, _, rfl, p, l, n, rfl, R5.P, by omega, h24, fun H6 t ms P6 k6 ht hN hne => ?_⟩
    have R6 := R5.kp hep k6 P6
    refine ⟨_, rfl, p, l, 2, rfl, P6, by decide, by decide, fun H7 r7 P7 k7 c0 c1 => ⟨rfl, ?_⟩⟩
    have R7 := R6.kp hep k7 P7
    have ht7 := k7.tup ht
    refine ⟨_, rfl, _, rfl, _, rfl, _, rfl, _, rfl, g, n, e, exs, ps, .ref t, _, (fun s => s = p), rfl, R7.g, h24, R7.e, R7.x, hG, hpl, R7.trk, sub_alk P7 ht7 hN h24, fun H8 s8 => ⟨_, rfl, iteF ?_⟩⟩
    have R8 := R7.same hep s8
    refine ⟨_, rfl, p, l, 3, rfl, R8.P, by decide, by decide, fun H9 r9 P9 k9 d0 d1 => ⟨r9, rfl, by omega, by omega, ?_⟩⟩
    have R9 := R8.kp hep k9 P9
    have ht9 := k9.tup (s8 _ _ ht7)
    refine for_range (lo := 0) (n := r9.toNat) (fun i σ H' => Rest C p l g e n exs ps H' ∧ H' t = some (.tup (ms.map V.int)) ∧ ∃ y7, σ = [some (.ref a), some (.ref p), some (.int (n : Int)), some (.ref e), some (.ref g), some (.ref t), some (.bl (decide (V.int r7 = V.int 1))), y7, none, none]) ⟨R9, ht9, none, rfl⟩ ?_ ?_
    · rintro i σ HA hi ⟨RA, htA, y7, rfl⟩
      refine ⟨_, rfl, _, rfl, _, rfl, _, rfl, _, rfl, _, rfl, p, l, t, n, ms, (fun s => s = p), rfl, RA.P, rfl, RA.trk, htA, hN, hne, h24, fun HB v PB kB aB => ?_⟩
      have RB := RA.kp hep kB PB
      refine ⟨_, rfl, _, rfl, g, n, e, exs, ps, v, _, (fun s => s = p), rfl, RB.g, h24, RB.e, RB.x, hG, hpl, RB.trk, aB, fun HC sC => ⟨_, rfl, iteF ?_⟩⟩
      exact ⟨RB.same hep sC, sC _ _ (kB.tup htA), _, rfl⟩
    · rintro σ HA ⟨RA, htA, y7, rfl⟩
      refine ⟨_, rfl, _, rfl, p, l, n, rfl, RA.P, by omega, h24, fun HB t2 ms2 PB kB ht2 hN2 hne2 => ?_⟩
      have RB := RA.kp hep kB PB
      have htB := kB.tup htA
      refine ⟨_, rfl, _, rfl, _, rfl, _, rfl, _, rfl, g, n, e, exs, ps, .ref t2, _, (fun s => s = p), rfl, RB.g, h24, RB.e, RB.x, hG, hpl, RB.trk, sub_alk PB ht2 hN2 h24, fun HC sC => ⟨_, rfl, iteF ?_⟩⟩
      have RC := RB.same hep sC
      refine ⟨_, rfl, _, rfl, _, rfl, _, rfl, _, rfl, g, n, e, exs, ps, .ref t, _, (fun s => s = p), rfl, RC.g, h24, RC.e, RC.x, hG, hpl, RC.trk, sub_alk RC.P (sC _ _ htB) hN h24, fun HD sD => ⟨_, rfl, iteF ?_⟩⟩
      have RD := RC.same hep sD
      refine ⟨_, rfl, _, rfl, _, rfl, _, rfl, (n : Int), rfl, by omega, by omega, fun D hD => ?_⟩
      refine lc_range (lo := 0) (n := ((n : Nat) : Int).toNat) (fun i H' => Same HD H' ∧ H' D = some (.lst (((upto n).take i).map V.int))) ⟨same_new hD, upd_same⟩ ?_ ?_
      · rintro i HE hi ⟨sE, hDE⟩
        rw [Int.toNat_natCast] at hi
        rw [Int.zero_add]
        refine ⟨rfl, tYes_i ?_⟩
        refine ⟨_, rfl, _, hDE, ?_, fun b o eb => by rw [upd_ne (ne_of_none eb hD)]; exact sE _ _ eb, ?_⟩
        · rw [List.length_map, List.length_take]
          exact small1000 (by omega)
        · rw [upd_same, List.take_add_one, upto_get hi, List.map_append]
          rfl
      · rintro HE ⟨sE, hDE⟩
        rw [Int.toNat_natCast, List.take_of_length_le (by rw [upto_len]; exact Nat.le_refl _)] at hDE
        refine ⟨D, _, rfl, .inl ⟨.inl (.inl hDE), fun t3 ht3 => ?_⟩⟩
        have s3 := same_new (o := .tup ((upto n).map V.int)) ht3
        have RF := RD.same hep (sE.trans s3)
        refine ⟨_, rfl, g, n, e, exs, ps, .ref t3, _, (fun s => s = p), rfl, RF.g, h24, RF.e, RF.x, hG, hpl, RF.trk, sub_alk RF.P upd_same (SubN.upto h24) h24, fun H' s' => q _⟩
end
end Ev
namespace Ev
open PySem PySem.Spec PyProof.Rows L2
/-! ### what is told of an error of one field -/
structure ErrC (K : PySem.W.Frag) (mg : Str → Option Value) (CI CE : Addr) (nm fl : Str) : Prop where
  T : ∃ fI, OneF K CI fI fl
  gE : mg "GraphError" = some (.ref CE)
  gN : mg nm = some (.ref CI)
  xN : PySem.W.exmOne K (.ref CI) (.ref CE) = some true
  nn : PySem.W.kitOne K (.ref CI) (.ref CI) = some true
def t_suiteE (K : PySem.W.Frag) (CI : Addr) (nm fl : Str) (i : Nat) : Addr → Value → Option Addr → TS := fun a cls d =>
  tIfS (tB (tCB (rIsX K a cls d) (tCons (tVar i) (tCons (tC (.ref CI)) tNil)))) (tRet (tTup (tCons (tC (.str nm)) (tCons (tXf a cls d CI fl (tVar i)) tNil)))) tNext
theorem suiteE {K : PySem.W.Frag} {mg : Str → Option Value} {CI CE : Addr} {nm fl : Str} {i : Nat} (Z : ErrC K mg CI CE nm fl) {v : V} {H H' : Hp} {d : Option Addr} {D : Ends} {σ : L2.St} {a : Addr}
    (hm : OneMade fl v H d H') (hσ : σ[i]? = some (some (.ref a))) (hq : ∀ H2 t, Same H H2 → H2 t = some (.tup [.str nm, v]) → D.rt (.ref t) H2) : t_suiteE K CI nm fl i a (.ref CI) d D σ H' := by
  obtain ⟨fI, T⟩ := Z.T
  obtain ⟨dd, rfl, hdd, s⟩ := hm
  refine ⟨.ref a, hσ, CI, .ref CI, .ref CI, true, dd, [(fl, v)], rfl, rfl, rfl, hdd, T.ec, .own _, Z.nn, _, rfl, iteT ?_⟩
  refine ⟨.ref a, hσ, rfl, rfl, dd, [(fl, v)], v, rfl, hdd, (by simp [List.lookup]), (by show 2 ≤ sizeLine; decide), fun t ht => ?_⟩
  exact hq _ t (s.trans (same_new ht)) upd_same
end Ev
namespace EvH
open PySem PySem.Spec PyProof.Rows L2 He Ev
/-! ### facts of a class, as Bools -/
def oexB (K : PySem.W.Frag) (C : Addr) : Bool := (match K.lookup C with
    | some ⟨.type "type", _, .cls cd, sl⟩ => (match cd.mro, sl.toList with
      | .ref D :: bm, [_, _, _, _, some (.builtin n), _] => D == C && (n == "ValueError.__new__" && (!cd.hasDel && (cd.hasDict && PySem.HandSPX.refsVE bm)))
      | _, _ => false)
    | _ => false) && (eqO (PySem.W.findIn K (.ref C) "__setattr__") (some (some (.builtin "object.__setattr__"))) && (decide (PySem.W.subIn K (.ref C) (.type "BaseException") = some true) &&
    (decide (PySem.W.typeIn K (.ref C) = some (.type "type")) && PySem.W.keepIn K (.ref C))))
theorem oexB_ok {K : PySem.W.Frag} {C : Addr} (h : oexB K C = true) : OexC K C := by
  obtain ⟨h1, h⟩ := ba h
  obtain ⟨h2, h⟩ := ba h
  obtain ⟨h3, h⟩ := ba h
  obtain ⟨h4, h5⟩ := ba h
  refine ⟨?_, eqO_ok h2, of_decide_eq_true h3, of_decide_eq_true h4, h5⟩
  clear h h2 h3 h4 h5
  split at h1
  · rename_i dd cd sl ho
    split at h1
    · rename_i D bm k0 k1 k2 k3 n k5 hm hs
      obtain ⟨e1, h1⟩ := ba h1
      obtain ⟨e2, h1⟩ := ba h1
      obtain ⟨e3, h1⟩ := ba h1
      obtain ⟨e4, e5⟩ := ba h1
      obtain rfl : D = C := eq_of_beq e1
      obtain rfl : n = "ValueError.__new__" := eq_of_beq e2
      obtain ⟨nm, bs, mro, ns, qn, hd, sn, sub, ab, col, del⟩ := cd
      dsimp only at hm e3 e4
      subst hm e4
      have e3 : del = false := by cases del with
        | false => rfl
        | true => cases e3
      subst e3
      have hsl : sl = #[k0, k1, k2, k3, some (.builtin "ValueError.__new__"), k5] := by
        obtain ⟨l⟩ := sl
        simp only at hs
        rw [hs]
      subst hsl
      exact ⟨nm, qn, ns, bs, bm, sn, sub, ab, col, dd, k0, k1, k2, k3, k5, ho, e5⟩
    · cases h1
  · cases h1
def gets (K : PySem.W.Frag) (C : Addr) : Bool := eqO (PySem.W.findIn K (.ref C) "__class__") (some (some (.builtin "object.__class__"))) && (decide (PySem.W.specialIn K (.builtin "object.__class__") "__get__" = some (some (.builtin "getset_descriptor.__get__"))) &&
  (decide (PySem.W.takesIn K (.builtin "object.__class__") = some true) && decide (PySem.W.mroIn K C (.type "object") = some true)))
def oneB (K : PySem.W.Frag) (C : Addr) (f : Str) : Bool := oexB K C && (eqO (PySem.W.findIn K (.ref C) f) (some none) && (eqO (PySem.W.findIn K (.ref C) "__init__") (some (some (.ref (ma K C "__init__")))) &&
  (decide (PySem.W.typeIn K (.ref (ma K C "__init__")) = some (.type "function")) && (xfB K C && gets K C))))
theorem oneB_ok {K : PySem.W.Frag} {C : Addr} {f : Str} (h : oneB K C f = true) : OneF K C (ma K C "__init__") f := by
  obtain ⟨h1, h⟩ := ba h
  obtain ⟨h2, h⟩ := ba h
  obtain ⟨h3, h⟩ := ba h
  obtain ⟨h4, h⟩ := ba h
  obtain ⟨h5, h6⟩ := ba h
  have X := xfB_ok h5
  obtain ⟨g1, g⟩ := ba h6
  obtain ⟨g2, g⟩ := ba g
  obtain ⟨g3, g4⟩ := ba g
  exact ⟨oexB_ok h1, eqO_ok h2, eqO_ok h3, of_decide_eq_true h4, X, ⟨X.ga, X.gg, X.exC, X.hdC, eqO_ok g1, of_decide_eq_true g2, of_decide_eq_true g3, of_decide_eq_true g4⟩⟩
def tgs : List Tg := [.non, .bl, .int, .str, .lst, .tup]
def grB (K : PySem.W.Frag) (C : Addr) : Bool := PySem.W.plainGet K C Str.empty && (PySem.W.hasDictIn K C && (PySem.W.plainOver K C && (eqO (PySem.W.findIn K (.ref C) "__setattr__") (some (some (.builtin "object.__setattr__"))) && (gets K C &&
  ((tgs.drop 1).all (fun g => decide (PySem.W.kitOne K (.ref C) (.type g.s) = some false)) && (tgs.all (fun g => decide (PySem.W.kitOne K (.type g.s) (.ref C) = some false)) && decide (PySem.W.kitOne K (.ref C) (.ref C) = some true)))))))
theorem grB_ok {K : PySem.W.Frag} {C : Addr} (h : grB K C = true) : GrT K C := by
  obtain ⟨h1, h⟩ := ba h
  obtain ⟨h2, h⟩ := ba h
  obtain ⟨h3, h⟩ := ba h
  obtain ⟨h4, h⟩ := ba h
  obtain ⟨h5, h⟩ := ba h
  obtain ⟨h6, h⟩ := ba h
  obtain ⟨h7, h8⟩ := ba h
  obtain ⟨g1, g⟩ := ba h5
  obtain ⟨g2, g⟩ := ba g
  obtain ⟨g3, g4⟩ := ba g
  refine ⟨⟨h1, h2, h3, eqO_ok h4⟩, eqO_ok g1, of_decide_eq_true g2, of_decide_eq_true g3, of_decide_eq_true g4, fun g e1 e2 => ?_, fun g e => ?_, of_decide_eq_true h8⟩
  · refine of_decide_eq_true (List.all_eq_true.mp h6 g ?_)
    cases g <;> first | exact absurd rfl e1 | exact absurd rfl e2 | (simp [tgs])
  · refine of_decide_eq_true (List.all_eq_true.mp h7 g ?_)
    cases g <;> first | exact absurd rfl e | (simp [tgs])
def mkB (K : PySem.W.Frag) (C : Addr) : Bool := PySem.W.makesIn K C && (eqO (PySem.W.findIn K (.ref C) "__init__") (some (some (.ref (ma K C "__init__")))) && (PySem.W.isFn K (.ref (ma K C "__init__")) && PySem.W.keepIn K (.ref C)))
theorem mkB_ok {K : PySem.W.Frag} {C : Addr} (h : mkB K C = true) : Mk K C (ma K C "__init__") := by
  obtain ⟨h1, h⟩ := ba h
  obtain ⟨h2, h⟩ := ba h
  obtain ⟨h3, h4⟩ := ba h
  exact ⟨h1, eqO_ok h2, h3, h4⟩
def crB (K : PySem.W.Frag) (C : Addr) : Bool := PySem.W.readsIn K C (.type "type") && decide (PySem.W.specialIn K (.ref C) "__getattribute__" = some (some (.builtin "type.__getattribute__")))
theorem crB_ok {K : PySem.W.Frag} {C : Addr} (h : crB K C = true) : ClX.CRead K C (.type "type") := by
  obtain ⟨h1, h2⟩ := ba h
  exact ⟨h1, of_decide_eq_true h2⟩
def cmB (K : PySem.W.Frag) (C : Addr) (m : Str) : Bool := He5.wrapB K C "classmethod" "classmethod.__get__" m && PySem.W.fnIn K (He5.wf K C "classmethod" m)
theorem cmB_ok {K : PySem.W.Frag} {C : Addr} {m : Str} (h : cmB K C m = true) : ClX.CMet K C (.type "type") m (ma K C m) (He5.wf K C "classmethod" m) := by
  obtain ⟨h1, h2⟩ := ba h
  exact He5.cmet_of h1 h2
def exmB (K : PySem.W.Frag) (a b : Addr) (v : Bool) : Bool := decide (PySem.W.exmOne K (.ref a) (.ref b) = some v)
def kitB (K : PySem.W.Frag) (a b : Addr) (v : Bool) : Bool := decide (PySem.W.kitOne K (.ref a) (.ref b) = some v)
/-! ### the Hook: facts, any Bool, defs at any address -/
def obsEv (fa : List Fa) (ex : PySem.W.Frag → Bool) (fn : List He5.DefA) (K : PySem.W.Frag) : He.AlD := ((fa.all fun f => f.ok K) && (ex K && fn.all fun d => d.ok K), fn.map fun d => He5.fnA K (d.at_ K))
def valEv (fn : List He5.DefA) : He.AlD := (true, fn.map He5.DefA.val)
def SaysEv (fa : List Fa) (ex : PySem.W.Frag → Bool) (fn : List He5.DefA) (K : PySem.W.Frag) : Prop := obsEv fa ex fn K = valEv fn
def obsEvG (n : Nat) (fa : List Fa) (ex : PySem.W.Frag → Bool) (fn : List He5.DefA) (g : Addr → Option Obj) : He.AlD := obsEv fa ex fn (frG g (He5.asA g n))
def hookEv (n : Nat) (fa : List Fa) (ex : PySem.W.Frag → Bool) (fn : List He5.DefA) : PySem.W.Hook where
  α := He.AlD
  obs := fun s => obsEvG n fa ex fn s.heap.get?
  val := fun _ => valEv fn
  says := fun _ h => ∃ K : PySem.W.Frag, K.In h ∧ SaysEv fa ex fn K
  of := fun _ _ e => ⟨_, frG_in, e⟩
  keeps := fun _ _ _ ⟨K, hK, c⟩ k => ⟨K, PySem.W.Frag.In.keeps hK k, c⟩
theorem obsEvG_eq {n : Nat} {fa : List Fa} {ex : PySem.W.Frag → Bool} {fn : List He5.DefA} {g : Addr → Option Obj} {s : Shared} (h : ∀ a, g a = s.heap.get? a) : obsEvG n fa ex fn g = (hookEv n fa ex fn).obs s := by
  have e : g = s.heap.get? := funext h
  rw [e] <;> rfl
section
variable {fa : List Fa} {ex : PySem.W.Frag → Bool} {fn : List He5.DefA} {K : PySem.W.Frag}
theorem SaysEv.more (c : SaysEv fa ex fn K) : ex K = true := (ba (ba (show ((fa.all fun f => f.ok K) && (ex K && fn.all fun d => d.ok K)) = true from congrArg (fun z : He.AlD => z.1) c)).2).1
theorem SaysEv.fact (c : SaysEv fa ex fn K) (i : Nat) {f : Fa} (h : fa[i]? = some f := by rfl) : f.ok K = true := by
  have c1 := (ba (show ((fa.all fun f => f.ok K) && (ex K && fn.all fun d => d.ok K)) = true from congrArg (fun z : He.AlD => z.1) c)).1
  exact List.all_eq_true.mp c1 f (List.mem_of_getElem? h)
theorem SaysEv.def_ (c : SaysEv fa ex fn K) (i : Nat) {d : He5.DefA} (h : fn[i]? = some d := by rfl) : ∃ fd, L2.FunD K d.name d.qual d.params d.body d.scope (d.dvs K) (d.kws K) (d.at_ K) fd := by
  have c2 := (ba (ba (show ((fa.all fun f => f.ok K) && (ex K && fn.all fun d => d.ok K)) = true from congrArg (fun z : He.AlD => z.1) c)).2).2
  have e : fn.map (fun d => He5.fnA K (d.at_ K)) = fn.map He5.DefA.val := congrArg (fun z : He.AlD => z.2) c
  have e2 : (fn.map fun d => He5.fnA K (d.at_ K))[i]? = (fn.map He5.DefA.val)[i]? := by rw [e]
  rw [List.getElem?_map, List.getElem?_map, h] at e2
  exact He5.DefA.funD (Option.some.inj e2) (List.all_eq_true.mp c2 d (List.mem_of_getElem? h))
end
/-- a def of the module -/
def dG (x : Str) (st : Stmt) : He5.DefA := ⟨fun K => ga K x, x, x, defArgs st, defBody st, defScope st, [], []⟩
/-- a method of a class -/
def dM (c m qual : Str) (st : Stmt) : He5.DefA := ⟨fun K => ma K (ga K c) m, m, qual, defArgs st, defBody st, defScope st, [], []⟩
/-- a classmethod -/
def dC (c m qual : Str) (st : Stmt) : He5.DefA := ⟨fun K => He5.wf K (ga K c) "classmethod" m, m, qual, defArgs st, defBody st, defScope st, [], []⟩
theorem SaysEv.fun_ {fa : List Fa} {ex : PySem.W.Frag → Bool} {fn : List He5.DefA} {K : PySem.W.Frag} (c : SaysEv fa ex fn K) (i : Nat) {at_ : PySem.W.Frag → Addr} {x q : Str} {st : Stmt} (h : fn[i]? = some ⟨at_, x, q, defArgs st, defBody st, defScope st, [], []⟩ := by rfl) : ∃ fd, L2.Fun K x q st (at_ K) fd := by
  obtain ⟨fd, F⟩ := c.def_ i h
  exact ⟨fd, He5.fun_of F⟩
end EvH
namespace Ev
open PySem PySem.Spec PyProof.Rows L2
section
variable {P : Program} {w : World} {K : PySem.W.Frag} {mg : Str → Option Value} {base : Heap}
theorem ok_init_InvalidSubset {f : Addr} {fd : FuncData} (F : Fun K "__init__" "InvalidSubset.__init__" s_InvalidSubset___init__ f fd) : FnOk P w K mg base CX0 1 f fd ["self", "value"] (spOne K "value") := by
  refine F.ok scs_InvalidSubset___init__ (fun vs H Q E h => ?_) (fun cdv A outer s H vs Q E hr h => ?_)
  · obtain ⟨a, C, v, rfl, _⟩ := h
    rfl
  · obtain ⟨a, C, v, rfl, h1, T, hno, q⟩ := h
    exact ⟨_, pss_one (ps_ost (pv 0) (pv 1)), _, rfl, _, rfl, a, C, rfl, T, hno, .inl ⟨h1, fun dx n ne => q dx n ne⟩⟩
end
end Ev
namespace EvH
open PySem PySem.Spec PyProof.Rows L2 He Ev
def opB (K : PySem.W.Frag) (C : Addr) (m : Str) : Bool := eqO (PySem.W.findIn K (.ref C) m) (some (some (.ref (ma K C m)))) && PySem.W.isFn K (.ref (ma K C m))
theorem opB_ok {K : PySem.W.Frag} {C : Addr} {m : Str} (h : opB K C m = true) : PySem.W.findIn K (.ref C) m = some (some (.ref (ma K C m))) ∧ PySem.W.isFn K (.ref (ma K C m)) = true := by
  obtain ⟨h1, h2⟩ := ba h
  exact ⟨eqO_ok h1, h2⟩
def fn : List He5.DefA := [dG "is_integer" s_is_integer, dG "is_between" s_is_between, dG "is_sequence" s_is_sequence, dG "is_pair" s_is_pair, dG "is_ascending" s_is_ascending, dG "is_subset" s_is_subset, dM "Graph" "__init__" "Graph.__init__" s_Graph___init__, dM "Graph" "induced" "Graph.induced" s_Graph_induced, dG "first_fault" s_first_fault, dG "first_wrong_edge" s_first_wrong_edge, dG "is_edge" s_is_edge, dG "neighbor_rows" s_neighbor_rows, dG "_law_mixed" s__law_mixed, dG "_law_draw" s__law_draw, dG "_law_thing" s__law_thing, dG "_law_copy" s__law_copy, dG "_law_alike" s__law_alike, dG "_law_whole" s__law_whole, dG "_law_edges" s__law_edges, dG "_law_subset" s__law_subset, dG "_law_spoilt" s__law_spoilt, dG "_law_is_subset" s__law_is_subset, dG "_law_due" s__law_due, dG "_law_induced" s__law_induced, dG "_law_right" s__law_right, dG "_law_asked" s__law_asked, dM "InvalidSubset" "__init__" "InvalidSubset.__init__" s_InvalidSubset___init__, dG "law" s_law]
def fa : List He.Fa := ([.glo "is_integer", .glo "is_between", .glo "is_sequence", .glo "is_pair", .glo "is_ascending", .glo "is_subset", .glo "first_fault", .glo "first_wrong_edge", .glo "is_edge", .glo "neighbor_rows", .glo "_law_mixed", .glo "_law_draw", .glo "_law_thing", .glo "_law_copy", .glo "_law_alike", .glo "_law_whole", .glo "_law_edges", .glo "_law_subset", .glo "_law_spoilt", .glo "_law_is_subset", .glo "_law_due", .glo "_law_induced", .glo "_law_right", .glo "_law_asked", .glo "law", .glo "Graph", .glo "InvalidSubset", .glo "GraphError", .free "isinstance", .free "int"] : List He.Fa) ++ ([.free "bool", .free "len", .free "list", .free "tuple", .free "str", .free "all", .free "zip", .free "range", .free "enumerate", .free "abs", .free "min", .int "MOST_VERTICES" 24, .noat "Graph" "size", .noat "Graph" "edges", .noat "Graph" "_vertices", .noat "Graph" "_rows", .meth "Graph" "induced"] : List He.Fa)
def ex (K : PySem.W.Frag) : Bool := grB K (ga K "Graph") && (mkB K (ga K "Graph") && (oneB K (ga K "InvalidSubset") "value" && (exmB K (ga K "InvalidSubset") (ga K "GraphError") true && (kitB K (ga K "InvalidSubset") (ga K "InvalidSubset") true))))
theorem facts {P : Program} {w : World} {K : PySem.W.Frag} {h : Heap} {mg : Str → Option Value} (X : K.In h) (G : h.Ns mainGlobals mg) (c : SaysEv fa ex fn K) :
    ∃ fd : FuncData, (∀ (s : Shared) (v : Value), BindsTo s fd ⟨[v], []⟩ [("script", v)]) ∧ ∀ base : Heap, K.In base → base.Ns mainGlobals mg → FnOk P w K mg base CX0 13 (ga K "law") fd ["script"] (spAsked K) := by
  obtain ⟨fd_is_integer, F_is_integer⟩ := c.fun_ 0 (at_ := fun K => ga K "is_integer") (x := "is_integer") (q := "is_integer") (st := s_is_integer) rfl
  have b_is_integer : Binds K fd_is_integer ["value"] [] := F_is_integer.binds fun _ _ _ _ _ _ us hl => match us, hl with | [_], _ => rfl
  obtain ⟨fd_is_between, F_is_between⟩ := c.fun_ 1 (at_ := fun K => ga K "is_between") (x := "is_between") (q := "is_between") (st := s_is_between) rfl
  have b_is_between : Binds K fd_is_between ["value", "least", "greatest"] [] := F_is_between.binds fun _ _ _ _ _ _ us hl => match us, hl with | [_, _, _], _ => rfl
  obtain ⟨fd_is_sequence, F_is_sequence⟩ := c.fun_ 2 (at_ := fun K => ga K "is_sequence") (x := "is_sequence") (q := "is_sequence") (st := s_is_sequence) rfl
  have b_is_sequence : Binds K fd_is_sequence ["value"] [] := F_is_sequence.binds fun _ _ _ _ _ _ us hl => match us, hl with | [_], _ => rfl
  obtain ⟨fd_is_pair, F_is_pair⟩ := c.fun_ 3 (at_ := fun K => ga K "is_pair") (x := "is_pair") (q := "is_pair") (st := s_is_pair) rfl
  have b_is_pair : Binds K fd_is_pair ["value"] [] := F_is_pair.binds fun _ _ _ _ _ _ us hl => match us, hl with | [_], _ => rfl
  obtain ⟨fd_is_ascending, F_is_ascending⟩ := c.fun_ 4 (at_ := fun K => ga K "is_ascending") (x := "is_ascending") (q := "is_ascending") (st := s_is_ascending) rfl
  have b_is_ascending : Binds K fd_is_ascending ["values"] [] := F_is_ascending.binds fun _ _ _ _ _ _ us hl => match us, hl with | [_], _ => rfl
  obtain ⟨fd_is_subset, F_is_subset⟩ := c.fun_ 5 (at_ := fun K => ga K "is_subset") (x := "is_subset") (q := "is_subset") (st := s_is_subset) rfl
  have b_is_subset : Binds K fd_is_subset ["value", "size"] [] := F_is_subset.binds fun _ _ _ _ _ _ us hl => match us, hl with | [_, _], _ => rfl
  obtain ⟨fd_Graph___init, F_Graph___init⟩ := c.fun_ 6 (at_ := fun K => ma K (ga K "Graph") "__init__") (x := "__init__") (q := "Graph.__init__") (st := s_Graph___init__) rfl
  have b_Graph___init : Binds K fd_Graph___init ["self", "size", "edges"] [] := F_Graph___init.binds fun _ _ _ _ _ _ us hl => match us, hl with | [_, _, _], _ => rfl
  obtain ⟨fd_Graph_induced, F_Graph_induced⟩ := c.fun_ 7 (at_ := fun K => ma K (ga K "Graph") "induced") (x := "induced") (q := "Graph.induced") (st := s_Graph_induced) rfl
  have b_Graph_induced : Binds K fd_Graph_induced ["self", "subset"] [] := F_Graph_induced.binds fun _ _ _ _ _ _ us hl => match us, hl with | [_, _], _ => rfl
  obtain ⟨fd_first_fault, F_first_fault⟩ := c.fun_ 8 (at_ := fun K => ga K "first_fault") (x := "first_fault") (q := "first_fault") (st := s_first_fault) rfl
  have b_first_fault : Binds K fd_first_fault ["values", "are_right"] [] := F_first_fault.binds fun _ _ _ _ _ _ us hl => match us, hl with | [_, _], _ => rfl
  obtain ⟨fd_first_wrong_edge, F_first_wrong_edge⟩ := c.fun_ 9 (at_ := fun K => ga K "first_wrong_edge") (x := "first_wrong_edge") (q := "first_wrong_edge") (st := s_first_wrong_edge) rfl
  have b_first_wrong_edge : Binds K fd_first_wrong_edge ["size", "edges"] [] := F_first_wrong_edge.binds fun _ _ _ _ _ _ us hl => match us, hl with | [_, _], _ => rfl
  obtain ⟨fd_is_edge, F_is_edge⟩ := c.fun_ 10 (at_ := fun K => ga K "is_edge") (x := "is_edge") (q := "is_edge") (st := s_is_edge) rfl
  have b_is_edge : Binds K fd_is_edge ["value", "size"] [] := F_is_edge.binds fun _ _ _ _ _ _ us hl => match us, hl with | [_, _], _ => rfl
  obtain ⟨fd_neighbor_rows, F_neighbor_rows⟩ := c.fun_ 11 (at_ := fun K => ga K "neighbor_rows") (x := "neighbor_rows") (q := "neighbor_rows") (st := s_neighbor_rows) rfl
  have b_neighbor_rows : Binds K fd_neighbor_rows ["size", "edges"] [] := F_neighbor_rows.binds fun _ _ _ _ _ _ us hl => match us, hl with | [_, _], _ => rfl
  obtain ⟨fd_law_mixed, F_law_mixed⟩ := c.fun_ 12 (at_ := fun K => ga K "_law_mixed") (x := "_law_mixed") (q := "_law_mixed") (st := s__law_mixed) rfl
  have b_law_mixed : Binds K fd_law_mixed ["cell", "turn"] [] := F_law_mixed.binds fun _ _ _ _ _ _ us hl => match us, hl with | [_, _], _ => rfl
  obtain ⟨fd_law_draw, F_law_draw⟩ := c.fun_ 13 (at_ := fun K => ga K "_law_draw") (x := "_law_draw") (q := "_law_draw") (st := s__law_draw) rfl
  have b_law_draw : Binds K fd_law_draw ["pool", "limit"] [] := F_law_draw.binds fun _ _ _ _ _ _ us hl => match us, hl with | [_, _], _ => rfl
  obtain ⟨fd_law_thing, F_law_thing⟩ := c.fun_ 14 (at_ := fun K => ga K "_law_thing") (x := "_law_thing") (q := "_law_thing") (st := s__law_thing) rfl
  have b_law_thing : Binds K fd_law_thing ["pool", "deep"] [] := F_law_thing.binds fun _ _ _ _ _ _ us hl => match us, hl with | [_, _], _ => rfl
  obtain ⟨fd_law_copy, F_law_copy⟩ := c.fun_ 15 (at_ := fun K => ga K "_law_copy") (x := "_law_copy") (q := "_law_copy") (st := s__law_copy) rfl
  have b_law_copy : Binds K fd_law_copy ["value"] [] := F_law_copy.binds fun _ _ _ _ _ _ us hl => match us, hl with | [_], _ => rfl
  obtain ⟨fd_law_alike, F_law_alike⟩ := c.fun_ 16 (at_ := fun K => ga K "_law_alike") (x := "_law_alike") (q := "_law_alike") (st := s__law_alike) rfl
  have b_law_alike : Binds K fd_law_alike ["found", "due"] [] := F_law_alike.binds fun _ _ _ _ _ _ us hl => match us, hl with | [_, _], _ => rfl
  obtain ⟨fd_law_whole, F_law_whole⟩ := c.fun_ 17 (at_ := fun K => ga K "_law_whole") (x := "_law_whole") (q := "_law_whole") (st := s__law_whole) rfl
  have b_law_whole : Binds K fd_law_whole ["value"] [] := F_law_whole.binds fun _ _ _ _ _ _ us hl => match us, hl with | [_], _ => rfl
  obtain ⟨fd_law_edges, F_law_edges⟩ := c.fun_ 18 (at_ := fun K => ga K "_law_edges") (x := "_law_edges") (q := "_law_edges") (st := s__law_edges) rfl
  have b_law_edges : Binds K fd_law_edges ["pool", "size"] [] := F_law_edges.binds fun _ _ _ _ _ _ us hl => match us, hl with | [_, _], _ => rfl
  obtain ⟨fd_law_subset, F_law_subset⟩ := c.fun_ 19 (at_ := fun K => ga K "_law_subset") (x := "_law_subset") (q := "_law_subset") (st := s__law_subset) rfl
  have b_law_subset : Binds K fd_law_subset ["pool", "size"] [] := F_law_subset.binds fun _ _ _ _ _ _ us hl => match us, hl with | [_, _], _ => rfl
  obtain ⟨fd_law_spoilt, F_law_spoilt⟩ := c.fun_ 20 (at_ := fun K => ga K "_law_spoilt") (x := "_law_spoilt") (q := "_law_spoilt") (st := s__law_spoilt) rfl
  have b_law_spoilt : Binds K fd_law_spoilt ["pool", "subset", "size"] [] := F_law_spoilt.binds fun _ _ _ _ _ _ us hl => match us, hl with | [_, _, _], _ => rfl
  obtain ⟨fd_law_is_subset, F_law_is_subset⟩ := c.fun_ 21 (at_ := fun K => ga K "_law_is_subset") (x := "_law_is_subset") (q := "_law_is_subset") (st := s__law_is_subset) rfl
  have b_law_is_subset : Binds K fd_law_is_subset ["value", "size"] [] := F_law_is_subset.binds fun _ _ _ _ _ _ us hl => match us, hl with | [_, _], _ => rfl
  obtain ⟨fd_law_due, F_law_due⟩ := c.fun_ 22 (at_ := fun K => ga K "_law_due") (x := "_law_due") (q := "_law_due") (st := s__law_due) rfl
  have b_law_due : Binds K fd_law_due ["size", "edges", "value"] [] := F_law_due.binds fun _ _ _ _ _ _ us hl => match us, hl with | [_, _, _], _ => rfl
  obtain ⟨fd_law_induced, F_law_induced⟩ := c.fun_ 23 (at_ := fun K => ga K "_law_induced") (x := "_law_induced") (q := "_law_induced") (st := s__law_induced) rfl
  have b_law_induced : Binds K fd_law_induced ["graph", "value", "named"] [] := F_law_induced.binds fun _ _ _ _ _ _ us hl => match us, hl with | [_, _, _], _ => rfl
  obtain ⟨fd_law_right, F_law_right⟩ := c.fun_ 24 (at_ := fun K => ga K "_law_right") (x := "_law_right") (q := "_law_right") (st := s__law_right) rfl
  have b_law_right : Binds K fd_law_right ["graph", "size", "edges", "value", "named"] [] := F_law_right.binds fun _ _ _ _ _ _ us hl => match us, hl with | [_, _, _, _, _], _ => rfl
  obtain ⟨fd_law_asked, F_law_asked⟩ := c.fun_ 25 (at_ := fun K => ga K "_law_asked") (x := "_law_asked") (q := "_law_asked") (st := s__law_asked) rfl
  have b_law_asked : Binds K fd_law_asked ["script"] [] := F_law_asked.binds fun _ _ _ _ _ _ us hl => match us, hl with | [_], _ => rfl
  obtain ⟨fd_InvalidSubset___init, F_InvalidSubset___init⟩ := c.fun_ 26 (at_ := fun K => ma K (ga K "InvalidSubset") "__init__") (x := "__init__") (q := "InvalidSubset.__init__") (st := s_InvalidSubset___init__) rfl
  have b_InvalidSubset___init : Binds K fd_InvalidSubset___init ["self", "value"] [] := F_InvalidSubset___init.binds fun _ _ _ _ _ _ us hl => match us, hl with | [_, _], _ => rfl
  obtain ⟨fd_law, D_law⟩ : ∃ fd, FunD K "law" "law" (defArgs s_law) (defBody s_law) (defScope s_law) [] [] (ga K "law") fd := c.def_ 27 (d := dG "law" s_law) rfl
  have F_law := He5.fun_of D_law
  have g_is_integer : mg "is_integer" = some (.ref (ga K "is_integer")) := He.glo_ok X G (c.fact 0 (f := .glo "is_integer") rfl)
  have g_is_between : mg "is_between" = some (.ref (ga K "is_between")) := He.glo_ok X G (c.fact 1 (f := .glo "is_between") rfl)
  have g_is_sequence : mg "is_sequence" = some (.ref (ga K "is_sequence")) := He.glo_ok X G (c.fact 2 (f := .glo "is_sequence") rfl)
  have g_is_pair : mg "is_pair" = some (.ref (ga K "is_pair")) := He.glo_ok X G (c.fact 3 (f := .glo "is_pair") rfl)
  have g_is_ascending : mg "is_ascending" = some (.ref (ga K "is_ascending")) := He.glo_ok X G (c.fact 4 (f := .glo "is_ascending") rfl)
  have g_is_subset : mg "is_subset" = some (.ref (ga K "is_subset")) := He.glo_ok X G (c.fact 5 (f := .glo "is_subset") rfl)
  have g_first_fault : mg "first_fault" = some (.ref (ga K "first_fault")) := He.glo_ok X G (c.fact 6 (f := .glo "first_fault") rfl)
  have g_first_wrong_edge : mg "first_wrong_edge" = some (.ref (ga K "first_wrong_edge")) := He.glo_ok X G (c.fact 7 (f := .glo "first_wrong_edge") rfl)
  have g_is_edge : mg "is_edge" = some (.ref (ga K "is_edge")) := He.glo_ok X G (c.fact 8 (f := .glo "is_edge") rfl)
  have g_neighbor_rows : mg "neighbor_rows" = some (.ref (ga K "neighbor_rows")) := He.glo_ok X G (c.fact 9 (f := .glo "neighbor_rows") rfl)
  have g_law_mixed : mg "_law_mixed" = some (.ref (ga K "_law_mixed")) := He.glo_ok X G (c.fact 10 (f := .glo "_law_mixed") rfl)
  have g_law_draw : mg "_law_draw" = some (.ref (ga K "_law_draw")) := He.glo_ok X G (c.fact 11 (f := .glo "_law_draw") rfl)
  have g_law_thing : mg "_law_thing" = some (.ref (ga K "_law_thing")) := He.glo_ok X G (c.fact 12 (f := .glo "_law_thing") rfl)
  have g_law_copy : mg "_law_copy" = some (.ref (ga K "_law_copy")) := He.glo_ok X G (c.fact 13 (f := .glo "_law_copy") rfl)
  have g_law_alike : mg "_law_alike" = some (.ref (ga K "_law_alike")) := He.glo_ok X G (c.fact 14 (f := .glo "_law_alike") rfl)
  have g_law_whole : mg "_law_whole" = some (.ref (ga K "_law_whole")) := He.glo_ok X G (c.fact 15 (f := .glo "_law_whole") rfl)
  have g_law_edges : mg "_law_edges" = some (.ref (ga K "_law_edges")) := He.glo_ok X G (c.fact 16 (f := .glo "_law_edges") rfl)
  have g_law_subset : mg "_law_subset" = some (.ref (ga K "_law_subset")) := He.glo_ok X G (c.fact 17 (f := .glo "_law_subset") rfl)
  have g_law_spoilt : mg "_law_spoilt" = some (.ref (ga K "_law_spoilt")) := He.glo_ok X G (c.fact 18 (f := .glo "_law_spoilt") rfl)
  have g_law_is_subset : mg "_law_is_subset" = some (.ref (ga K "_law_is_subset")) := He.glo_ok X G (c.fact 19 (f := .glo "_law_is_subset") rfl)
  have g_law_due : mg "_law_due" = some (.ref (ga K "_law_due")) := He.glo_ok X G (c.fact 20 (f := .glo "_law_due") rfl)
  have g_law_induced : mg "_law_induced" = some (.ref (ga K "_law_induced")) := He.glo_ok X G (c.fact 21 (f := .glo "_law_induced") rfl)
  have g_law_right : mg "_law_right" = some (.ref (ga K "_law_right")) := He.glo_ok X G (c.fact 22 (f := .glo "_law_right") rfl)
  have g_law_asked : mg "_law_asked" = some (.ref (ga K "_law_asked")) := He.glo_ok X G (c.fact 23 (f := .glo "_law_asked") rfl)
  have g_law : mg "law" = some (.ref (ga K "law")) := He.glo_ok X G (c.fact 24 (f := .glo "law") rfl)
  have g_Graph : mg "Graph" = some (.ref (ga K "Graph")) := He.glo_ok X G (c.fact 25 (f := .glo "Graph") rfl)
  have g_InvalidSubset : mg "InvalidSubset" = some (.ref (ga K "InvalidSubset")) := He.glo_ok X G (c.fact 26 (f := .glo "InvalidSubset") rfl)
  have g_GraphError : mg "GraphError" = some (.ref (ga K "GraphError")) := He.glo_ok X G (c.fact 27 (f := .glo "GraphError") rfl)
  have B : B0 mg := ⟨He.free_ok X G (c.fact 28 (f := .free "isinstance") rfl), He.free_ok X G (c.fact 29 (f := .free "int") rfl), He.free_ok X G (c.fact 30 (f := .free "bool") rfl), He.free_ok X G (c.fact 31 (f := .free "len") rfl), He.free_ok X G (c.fact 32 (f := .free "list") rfl), He.free_ok X G (c.fact 33 (f := .free "tuple") rfl), He.free_ok X G (c.fact 34 (f := .free "str") rfl), He.free_ok X G (c.fact 35 (f := .free "all") rfl), He.free_ok X G (c.fact 36 (f := .free "zip") rfl), He.free_ok X G (c.fact 37 (f := .free "range") rfl), He.free_ok X G (c.fact 38 (f := .free "enumerate") rfl), He.free_ok X G (c.fact 39 (f := .free "abs") rfl), He.free_ok X G (c.fact 40 (f := .free "min") rfl)⟩
  obtain ⟨t_MOST_VERTICES, e_MOST_VERTICES⟩ := He.int_ok X G (c.fact 41 (f := .int "MOST_VERTICES" 24) rfl)
  have h_MOST_VERTICES : ∃ u, mg "MOST_VERTICES" = some u ∧ RelV (.int 24) u := ⟨_, e_MOST_VERTICES, t_MOST_VERTICES, rfl⟩
  have A : GrA K (ga K "Graph") := ⟨He.noat_ok (c.fact 42 (f := .noat "Graph" "size") rfl), He.noat_ok (c.fact 43 (f := .noat "Graph" "edges") rfl), He.noat_ok (c.fact 44 (f := .noat "Graph" "_vertices") rfl), He.noat_ok (c.fact 45 (f := .noat "Graph" "_rows") rfl)⟩
  have ME_induced := He.meth_ok (c.fact 46 (f := .meth "Graph" "induced") rfl)
  have x_0 := c.more
  obtain ⟨y_0, x_1⟩ := He.ba x_0
  obtain ⟨y_1, x_2⟩ := He.ba x_1
  obtain ⟨y_2, x_3⟩ := He.ba x_2
  obtain ⟨y_3, x_4⟩ := He.ba x_3
  have GR := grB_ok y_0
  have MG := mkB_ok y_1
  have ON_InvalidSubset := oneB_ok y_2
  have xm_InvalidSubset := of_decide_eq_true y_3
  have kt_InvalidSubset := of_decide_eq_true x_4
  have hGr : ∃ u, mg "Graph" = some u ∧ RelV (.ref (ga K "Graph")) u := ⟨_, g_Graph, rfl⟩
  refine ⟨fd_law, fun s v => FunD.bindsA (ps := ["script"]) D_law (fun _ _ _ _ _ _ us hl => match us, hl with | [_], _ => rfl) s [v] rfl, fun base hK hN => ?_⟩
  have e_InvalidSubset : ErrT P w K mg base "InvalidSubset" "value" (ga K "InvalidSubset") := ⟨⟨_, _, ON_InvalidSubset, ok_init_InvalidSubset F_InvalidSubset___init, b_InvalidSubset___init⟩, g_InvalidSubset⟩
  have z_InvalidSubset : ErrC K mg (ga K "InvalidSubset") (ga K "GraphError") "InvalidSubset" "value" := ⟨⟨_, ON_InvalidSubset⟩, g_GraphError, g_InvalidSubset, xm_InvalidSubset, kt_InvalidSubset⟩
  have c_is_integer : Ca P w K mg base 1 "is_integer" (spInteger (ga K "Graph")) := ⟨⟨_, _, _, [], ok_is_integer (x := "is_integer") (st := s_is_integer) F_is_integer GR B, g_is_integer, F_is_integer.kp, b_is_integer, .nil⟩⟩
  have c_is_between : Ca P w K mg base 2 "is_between" (spBetween (ga K "Graph")) := ⟨⟨_, _, _, [], ok_is_between F_is_between c_is_integer, g_is_between, F_is_between.kp, b_is_between, .nil⟩⟩
  have c_is_sequence : Ca P w K mg base 1 "is_sequence" (spSequence (ga K "Graph")) := ⟨⟨_, _, _, [], ok_is_sequence F_is_sequence GR B, g_is_sequence, F_is_sequence.kp, b_is_sequence, .nil⟩⟩
  have c_is_pair : Ca P w K mg base 1 "is_pair" (spPair (ga K "Graph")) := ⟨⟨_, _, _, [], ok_is_pair F_is_pair GR B, g_is_pair, F_is_pair.kp, b_is_pair, .nil⟩⟩
  have c_is_ascending : Ca P w K mg base 1 "is_ascending" (spAscending) := ⟨⟨_, _, _, [], ok_is_ascending F_is_ascending B, g_is_ascending, F_is_ascending.kp, b_is_ascending, .nil⟩⟩
  have c_is_subset : Ca P w K mg base 3 "is_subset" (spSubset (ga K "Graph")) := ⟨⟨_, _, _, [], ok_is_subset F_is_subset GR B c_is_between c_is_ascending, g_is_subset, F_is_subset.kp, b_is_subset, .nil⟩⟩
  have c_is_edge : Ca P w K mg base 4 "is_edge" (spEdge (ga K "Graph")) := ⟨⟨_, _, _, [], ok_is_edge F_is_edge c_is_pair c_is_subset, g_is_edge, F_is_edge.kp, b_is_edge, .nil⟩⟩
  have c_first_fault : Ca P w K mg base 1 "first_fault" (spFF) := ⟨⟨_, _, _, [], ok_first_fault F_first_fault B, g_first_fault, F_first_fault.kp, b_first_fault, .nil⟩⟩
  have c_first_wrong_edge : Ca P w K mg base 5 "first_wrong_edge" (spFwe) := ⟨⟨_, _, _, [], ok_first_wrong_edge F_first_wrong_edge B c_is_sequence c_is_edge c_first_fault, g_first_wrong_edge, F_first_wrong_edge.kp, b_first_wrong_edge, .nil⟩⟩
  have c_neighbor_rows : Ca P w K mg base 1 "neighbor_rows" (spRows) := ⟨⟨_, _, _, [], ok_neighbor_rows F_neighbor_rows B, g_neighbor_rows, F_neighbor_rows.kp, b_neighbor_rows, .nil⟩⟩
  have c_law_mixed : Ca P w K mg base 1 "_law_mixed" (spMixed) := ⟨⟨_, _, _, [], ok_law_mixed F_law_mixed B, g_law_mixed, F_law_mixed.kp, b_law_mixed, .nil⟩⟩
  have c_law_draw : Ca P w K mg base 2 "_law_draw" (spDraw) := ⟨⟨_, _, _, [], ok_law_draw F_law_draw B c_law_mixed, g_law_draw, F_law_draw.kp, b_law_draw, .nil⟩⟩
  have IG := ok_init (P := P) (w := w) (base := base) F_Graph___init GR A B h_MOST_VERTICES c_is_between c_first_wrong_edge c_neighbor_rows
  have cG : C8.Mak P w K mg base 6 "Graph" (ga K "Graph") (spInit (ga K "Graph")) [] := ⟨⟨_, _, _, [], MG, IG, g_Graph, b_Graph___init, .nil⟩⟩
  have c_t0 : Ca P w K mg base (8 + 0) "_law_thing" (spThing (ga K "Graph") 0) := ⟨⟨_, _, _, [], ok_law_thing0 F_law_thing B c_law_draw cG 0 (.inl rfl), g_law_thing, F_law_thing.kp, b_law_thing, .nil⟩⟩
  have c_t1 : Ca P w K mg base (8 + 1) "_law_thing" (spThing (ga K "Graph") 1) := ⟨⟨_, _, _, [], ok_law_thing0 F_law_thing B c_law_draw cG 1 (.inr ⟨0, rfl, c_t0⟩), g_law_thing, F_law_thing.kp, b_law_thing, .nil⟩⟩
  have c_t2 : Ca P w K mg base (8 + 2) "_law_thing" (spThing (ga K "Graph") 2) := ⟨⟨_, _, _, [], ok_law_thing0 F_law_thing B c_law_draw cG 2 (.inr ⟨1, rfl, c_t1⟩), g_law_thing, F_law_thing.kp, b_law_thing, .nil⟩⟩
  have c_a0 : Ca P w K mg base (1 + 0) "_law_alike" (spAlike (ga K "Graph") 0) := ⟨⟨_, _, _, [], ok_law_alike0 F_law_alike GR A B hGr 0 (.inl rfl), g_law_alike, F_law_alike.kp, b_law_alike, .nil⟩⟩
  have c_a1 : Ca P w K mg base (1 + 1) "_law_alike" (spAlike (ga K "Graph") 1) := ⟨⟨_, _, _, [], ok_law_alike0 F_law_alike GR A B hGr 1 (.inr ⟨0, rfl, c_a0⟩), g_law_alike, F_law_alike.kp, b_law_alike, .nil⟩⟩
  have c_a2 : Ca P w K mg base (1 + 2) "_law_alike" (spAlike (ga K "Graph") 2) := ⟨⟨_, _, _, [], ok_law_alike0 F_law_alike GR A B hGr 2 (.inr ⟨1, rfl, c_a1⟩), g_law_alike, F_law_alike.kp, b_law_alike, .nil⟩⟩
  have c_a3 : Ca P w K mg base (1 + 3) "_law_alike" (spAlike (ga K "Graph") 3) := ⟨⟨_, _, _, [], ok_law_alike0 F_law_alike GR A B hGr 3 (.inr ⟨2, rfl, c_a2⟩), g_law_alike, F_law_alike.kp, b_law_alike, .nil⟩⟩
  have c_p0 : Ca P w K mg base (1 + 0) "_law_copy" (spCopy (ga K "Graph") 0) := ⟨⟨_, _, _, [], ok_law_copy0 F_law_copy GR B, g_law_copy, F_law_copy.kp, b_law_copy, .nil⟩⟩
  have c_p1 : Ca P w K mg base (1 + (0 + 1)) "_law_copy" (spCopy (ga K "Graph") (0 + 1)) := ⟨⟨_, _, _, [], ok_law_copy1 F_law_copy GR B 0 c_p0, g_law_copy, F_law_copy.kp, b_law_copy, .nil⟩⟩
  have c_p2 : Ca P w K mg base (1 + (1 + 1)) "_law_copy" (spCopy (ga K "Graph") (1 + 1)) := ⟨⟨_, _, _, [], ok_law_copy1 F_law_copy GR B 1 c_p1, g_law_copy, F_law_copy.kp, b_law_copy, .nil⟩⟩
  have c_law_whole : Ca P w K mg base 1 "_law_whole" (spInteger (ga K "Graph")) := ⟨⟨_, _, _, [], ok_law_whole F_law_whole GR B, g_law_whole, F_law_whole.kp, b_law_whole, .nil⟩⟩
  have c_lsub : Ca P w K mg base 2 "_law_is_subset" (spSubset (ga K "Graph")) := ⟨⟨_, _, _, [], ok_law_is_subset F_law_is_subset GR B c_law_whole, g_law_is_subset, F_law_is_subset.kp, b_law_is_subset, .nil⟩⟩
  have c_due : Ca P w K mg base 3 "_law_due" (spDue4 (ga K "Graph")) := ⟨⟨_, _, _, [], ok_law_due4 F_law_due B c_lsub, g_law_due, F_law_due.kp, b_law_due, .nil⟩⟩
  have c_edges : Ca P w K mg base 3 "_law_edges" (spEdges) := ⟨⟨_, _, _, [], ok_law_edges F_law_edges B c_law_draw, g_law_edges, F_law_edges.kp, b_law_edges, .nil⟩⟩
  have c_sub : Ca P w K mg base 3 "_law_subset" (spSub) := ⟨⟨_, _, _, [], ok_law_subset F_law_subset B c_law_draw, g_law_subset, F_law_subset.kp, b_law_subset, .nil⟩⟩
  have c_spoilt : Ca P w K mg base 11 "_law_spoilt" (spSpoilt (ga K "Graph")) := ⟨⟨_, _, _, [], ok_law_spoilt F_law_spoilt B c_law_draw c_t1 c_t2, g_law_spoilt, F_law_spoilt.kp, b_law_spoilt, .nil⟩⟩
  have IN := ok_induced (P := P) (w := w) (base := base) F_Graph_induced GR A B ON_InvalidSubset F_InvalidSubset___init b_InvalidSubset___init g_InvalidSubset c_is_subset cG
  have bk : ∀ (s : Shared) (u : Value) (ws : List Value), K.In s.heap → ws.length = (["subset"] : List Str).length → BindsTo s fd_Graph_induced ⟨[u], (["subset"] : List Str).zip ws⟩ ((["self", "subset"] : List Str).zip (u :: id ws)) := by
    obtain ⟨oc, od, kV, doc, pm, an, cdv, ct, osl, rfl, lk, hcd⟩ := F_Graph_induced.ex
    intro s u ws _ hl
    match ws, hl with
    | [a], _ => exact BindsTo.of_eq rfl
  have TO : ToldT P w K mg base (ga K "Graph") (ga K "InvalidSubset") (ga K "GraphError") _ _ fd_Graph_induced := ⟨ON_InvalidSubset, g_GraphError, g_InvalidSubset, xm_InvalidSubset, kt_InvalidSubset, ME_induced, IN, b_Graph_induced, bk⟩
  have c_told : Ca P w K mg base 9 "_law_induced" (spTold (ga K "Graph")) := ⟨⟨_, _, _, [], ok_law_induced F_law_induced GR B TO, g_law_induced, F_law_induced.kp, b_law_induced, .nil⟩⟩
  have c_right : Ca P w K mg base 10 "_law_right" (spRight4 (ga K "Graph")) := ⟨⟨_, _, _, [], ok_law_right4 F_law_right GR A B hGr c_p2 c_a3 c_a2 c_told c_due, g_law_right, F_law_right.kp, b_law_right, .nil⟩⟩
  have c_law_asked : Ca P w K mg base 12 "_law_asked" (spAsked K) := ⟨⟨_, _, _, [], ok_law_asked4 F_law_asked B c_law_draw c_edges c_sub c_spoilt cG c_right, g_law_asked, F_law_asked.kp, b_law_asked, .nil⟩⟩
  exact ok_law F_law c_law_asked
end EvH
set_option maxHeartbeats 0
namespace EvH
open PySem PySem.Spec PyProof.Rows L2
def looseN : List PySem.Str := (["_wall", "GraphError", "InvalidGraph", "InvalidSubset", "TooLarge", "is_integer", "is_between", "is_sequence", "is_pair", "is_ascending", "first_fault", "MOST_VERTICES", "require_vertices", "is_subset", "vertex_pairs", "Graph", "first_wrong_edge", "is_edge", "neighbor_rows", "common_size", "moved_edges", "_law_mixed", "_law_draw", "_law_thing", "_law_copy", "_law_alike", "_law_whole", "_law_edges", "_law_subset", "_law_spoilt"] : List PySem.Str) ++ (["_law_is_subset", "_law_due", "_law_induced", "_law_right", "_law_asked"] : List PySem.Str)
abbrev R : PySem.W.OpenRow := PySem.W.OpenLaw.row PySem.Challenge.rw_everypart_k04_induced_graphs
abbrev hk : PySem.W.Hook := hookEv 5 fa ex fn
def ob (s : PySem.W.SharedT) : He.AlD := obsEvG 5 fa ex fn (HandSHeadRun.getT s)
theorem ob_eq (s : PySem.W.SharedT) : ob s = hk.obs s.abs := obsEvG_eq (HandSHeadRun.getT_eq s)
theorem run (w : World) : HandSHeadRun.RunEq R (PySem.W.view R.prog [41]) hk ob 6000 looseN w := by
  intro os
  kernel_rfl
end EvH
open PySem PySem.W PySem.Calls PyProof.Rows
theorem PySem.Challenge.cw_everypart_k04_induced_graphs_holds : PySem.Challenge.rw_everypart_k04_induced_graphs.Holds := by
  w_on; o_law
  refine HandSHeadRun.head_any (r := OpenLaw.row PySem.Challenge.rw_everypart_k04_induced_graphs) (q := view (OpenLaw.row PySem.Challenge.rw_everypart_k04_induced_graphs).prog [41]) (H := EvH.hk) (ob := EvH.ob) (M := 6000) (loose := EvH.looseN) (d := HandSHeadRun.topDef (OpenLaw.row PySem.Challenge.rw_everypart_k04_induced_graphs).prog 41) (kwd := []) EvH.ob_eq
    (by kernel_rfl) (fun s => by kernel_rfl) EvH.run (by kernel_rfl) (by kernel_rfl) (by kernel_rfl) (by rfl) (by first | assumption | decide +kernel) (by decide +kernel) ⟨rfl, rfl, rfl, rfl, rfl, by decide +kernel⟩ ?hw ?hc
  case hw => w_witness2
  case hc =>
    refine L2.walk_ofE (l := PySem.Challenge.rw_everypart_k04_induced_graphs) (n := 63) (k := 13) (x := "script") (CX := L2.CX0) rfl (by decide) (by kernel_rfl) ⟨rfl, by decide, by decide⟩ ?F (fun _ _ _ _ z => z)
    intro w mg fa h Y G hmg0
    obtain ⟨K, KX, c⟩ := Y
    have hmg : mg ("law" : PySem.Str) = some (.ref fa) := by
      have e : (HandSHeadRun.topDef (OpenLaw.row PySem.Challenge.rw_everypart_k04_induced_graphs).prog 41).name = ("law" : PySem.Str) := by kernel_rfl
      rw [← e]
      exact hmg0
    obtain ⟨fd, hb, hF⟩ := EvH.facts (P := (PySem.Challenge.rw_everypart_k04_induced_graphs).prog) (w := w) KX G c
    have e2 : fa = He.ga K "law" := by
      have z := hmg.symm.trans (He.glo_ok KX G (c.fact 24 (f := .glo "law") rfl))
      cases z
      rfl
    subst e2
    exact ⟨K, fd, Ev.spAsked K, KX, hb, fun H a ns hl _ hS => ⟨a, ns, rfl, hS, hl, fun _ => rfl⟩, hF⟩
