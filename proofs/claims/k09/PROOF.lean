import PyProof.Rows.All
import Wide.All
import OpenK.AllK
import Wide.FinOn
import PySem.Challenge.RW_slipleaf_k09_kinds_and_contents
import HandS.ForMost
import HandS.ForExc
import HandS.IsInst
import HandS.ExcIs
import HandS.Conv
import HandS.Style
import HandS.Flow
import HandS.Zip
set_option Elab.async false
set_option linter.all false
set_option maxRecDepth 100000
/-! MI1: a small interpreter over the syntax: data, mutable objects, results. -/
namespace MI
open PySem

/-- what does not change -/
inductive D where
  | non | bl (b : Bool) | int (i : Int) | str (s : Str) | tup (xs : List D) | lst (xs : List D) | edict
  deriving Inhabited
/-- a raised error of the text: its class's name, its fields -/
structure Exc where
  cls : Str
  fs : List (Str × D)
/-- a value: data, a mutable object by its number, the script, the caught error -/
inductive Val where
  | d (x : D) | m (i : Nat) | scr (ns : List Int) | exc (e : Exc)
  deriving Inhabited
/-- a mutable object -/
inductive O where
  | lst (xs : List D) | dict (kvs : List (D × D))
abbrev MH := List O
abbrev Env := List (Option Val)
inductive Res (α : Type) where
  | ok (a : α) (h : MH) | exc (e : Exc) (h : MH) | stuck
abbrev M (α : Type) := MH → Res α
def ret {α : Type} (a : α) : M α := fun h => .ok a h
def bnd {α β : Type} (x : M α) (f : α → M β) : M β := fun h => match x h with
  | .ok a h' => f a h'
  | .exc e h' => .exc e h'
  | .stuck => .stuck
instance : Monad M where
  pure := ret
  bind := bnd
def stk {α : Type} : M α := fun _ => .stuck
/-- from an answer that reads the objects and changes none -/
def rd {α : Type} (f : MH → Option α) : M α := fun h => match f h with
  | some a => .ok a h
  | none => .stuck

/-! ### operations -/
/-- the items of a list or a tuple -/
def items : Val → MH → Option (List D)
  | .d (.tup xs), _ => some xs
  | .d (.lst xs), _ => some xs
  | .scr ns, _ => some (ns.map .int)
  | .m i, h => match h[i]? with | some (.lst xs) => some xs | _ => none
  | _, _ => none
def truth : Val → MH → Option Bool
  | .d .non, _ => some false
  | .d (.bl b), _ => some b
  | .d (.int i), _ => some (i != 0)
  | .d (.str s), _ => if s.length ≤ 16777216 then some (s.length != 0) else none
  | .d (.tup xs), _ => some (!xs.isEmpty)
  | .d (.lst xs), _ => some (!xs.isEmpty)
  | .d .edict, _ => some false
  | .m i, h => match h[i]? with | some (.lst xs) => some (!xs.isEmpty) | some (.dict kvs) => some (!kvs.isEmpty) | _ => none
  | _, _ => none
def gd {α : Type} (b : Bool) (a : α) : Option α := if b then some a else none
def big (i : Int) : Bool := decide (-(2 ^ 64) < i) && decide (i < 2 ^ 64)
def pBin (op : Operator) (x y : Val) (h : MH) : Option Val := match op, x, y with
  | .Add, .d (.int i), .d (.int j) => some (.d (.int (i + j)))
  | .Add, .d (.str i), .d (.str j) => gd (decide (i.length + j.length ≤ 16777216)) (.d (.str (i ++ j)))
  | .Add, .d (.tup (a :: xs)), .d (.tup ys) => gd (decide (xs.length + 1 + ys.length ≤ 16777216)) (.d (.tup (a :: (xs ++ ys))))
  | .Add, .d (.lst xs), .d (.lst ys) => gd (decide (xs.length + ys.length ≤ 16777216)) (.d (.lst (xs ++ ys)))
  | .Sub, .d (.int i), .d (.int j) => some (.d (.int (i - j)))
  | .Mult, .d (.int i), .d (.int j) => gd (big i || big j) (.d (.int (i * j)))
  | .FloorDiv, .d (.int i), .d (.int j) => gd (decide (0 < j) && decide (j < 1073741824)) (.d (.int (i / j)))
  | .Mod, .d (.int i), .d (.int j) => gd (decide (0 < j)) (.d (.int (i % j)))
  | .LShift, .d (.int i), .d (.int j) => gd (decide (0 ≤ j) && decide (j ≤ 1000000) && decide (i.natAbs < 2 ^ 64)) (.d (.int (i * 2 ^ j.toNat)))
  | .RShift, .d (.int i), .d (.int j) => gd (decide (0 ≤ j)) (.d (.int (i / 2 ^ j.toNat)))
  | .Pow, .d (.int i), .d (.int j) => gd (decide (0 ≤ j) && decide (j ≤ 1000000) && decide (i.natAbs < 2 ^ 64)) (.d (.int (i ^ j.toNat)))
  | .BitAnd, .d (.int i), .d (.int j) => some (.d (.int (Builtin.bitAnd i j)))
  | .BitOr, .d (.int i), .d (.int j) => some (.d (.int (Builtin.bitOr i j)))
  | .BitXor, .d (.int i), .d (.int j) => some (.d (.int (Builtin.bitXor i j)))
  | _, _, _ => none
/-- == of flat data -/
def D.flat : D → Bool
  | .non => true | .bl _ => true | .int _ => true | .str _ => true | _ => false
def eqD : D → D → Bool
  | .non, .non => true
  | .bl a, .bl b => a == b
  | .int a, .int b => a == b
  | .str a, .str b => a == b
  | _, _ => false
/-- as the layer's == of flat items: a bool is an int -/
def eqF : D → D → Bool
  | .non, .non => true
  | .bl a, .bl b => a == b
  | .bl a, .int b => (if a then 1 else 0) == b
  | .int a, .bl b => a == (if b then 1 else 0)
  | .int a, .int b => a == b
  | .str a, .str b => a == b
  | _, _ => false
/-- the pairs that == serves -/
def scalD : D → D → Bool
  | .non, .non => true | .non, .int _ => true | .int _, .non => true | .non, .bl _ => true | .bl _, .non => true | .non, .str _ => true | .str _, .non => true
  | .int _, .int _ => true | .bl _, .bl _ => true | .str _, .str _ => true
  | .int _, .str _ => true | .str _, .int _ => true | .bl _, .str _ => true | .str _, .bl _ => true
  | _, _ => false
def inD (x : D) (xs : List D) : Bool := xs.any fun y => eqF y x
def isB (b : Bool) : D → Bool
  | .bl c => c == b
  | _ => false
def bl (b : Bool) : Val := .d (.bl b)
def pCmp (op : CmpOp) (x y : Val) (h : MH) : Option Val := match op, x, y with
  | .Eq, .d a, .d b => gd (scalD a b) (bl (eqD a b))
  | .NotEq, .d a, .d b => gd (scalD a b) (bl (!eqD a b))
  | .Lt, .d (.int i), .d (.int j) => some (bl (decide (i < j)))
  | .LtE, .d (.int i), .d (.int j) => some (bl (decide (i ≤ j)))
  | .Gt, .d (.int i), .d (.int j) => some (bl (decide (j < i)))
  | .GtE, .d (.int i), .d (.int j) => some (bl (decide (j ≤ i)))
  | .Is, .d a, .d .non => some (bl (match a with | .non => true | _ => false))
  | .Is, .d a, .d (.bl b) => some (bl (isB b a))
  | .IsNot, .d a, .d .non => some (bl (match a with | .non => false | _ => true))
  | .In, .d (.str a), .d (.str b) => some (bl (!(Builtin.Str.occurrences b a 0 b.length 1).isEmpty))
  | .NotIn, .d (.str a), .d (.str b) => some (bl (!(!(Builtin.Str.occurrences b a 0 b.length 1).isEmpty)))
  | .In, .d a, y => match items y h with
    | some xs => gd (a.flat && xs.all D.flat) (bl (inD a xs))
    | none => none
  | .NotIn, .d a, y => match items y h with
    | some xs => gd (a.flat && xs.all D.flat) (bl (!inD a xs))
    | none => none
  | _, _, _ => none
/-- x[i] -/
def pIx (x y : Val) (h : MH) : Option Val := match x, y with
  | .d (.str s), .d (.int i) => if s.length ≤ 16777216 then (L2.atI s.cps.toList i).map fun c => .d (.str ⟨#[c]⟩) else none
  | x, .d (.int i) => match items x h with
    | some xs => (L2.atI xs i).map .d
    | none => none
  | _, _ => none
def cutL {α : Type} (xs : List α) (lo hi : Option Int) : List α := (xs.drop (HT.sIx xs.length 0 lo)).take (HT.sIx xs.length xs.length hi - HT.sIx xs.length 0 lo)
end MI
set_option maxRecDepth 100000
namespace MI
open PySem PySem.Spec PyProof.Rows L2

/-! ### what a value stands for -/
mutual
def Rep (K : PySem.W.Frag) (Z : L2.Hp) : D → V → Prop
  | .non, v => v = .non
  | .bl b, v => v = .bl b
  | .int i, v => v = .int i
  | .str s, v => v = .str s
  | .tup xs, v => ∃ a vs, v = .ref a ∧ SqT K Z a vs ∧ RepL K Z xs vs
  | .lst xs, v => ∃ a vs, v = .ref a ∧ Z a = some (.lst vs) ∧ RepL K Z xs vs
  | .edict, v => ∃ a, v = .ref a ∧ Z a = some (.dK [])
def RepL (K : PySem.W.Frag) (Z : L2.Hp) : List D → List V → Prop
  | [], vs => vs = []
  | x :: xs, vs => ∃ v r, vs = v :: r ∧ Rep K Z x v ∧ RepL K Z xs r
end
def ExH (Z Z' : L2.Hp) : Prop := ∀ a o, Z a = some o → Z' a = some o
theorem ExH.refl (Z : L2.Hp) : ExH Z Z := fun _ _ h => h
theorem ExH.trans {A B C : L2.Hp} (h : ExH A B) (k : ExH B C) : ExH A C := fun a o e => k a o (h a o e)
theorem ExH.new {Z : L2.Hp} {p : Addr} {o : HO} (h : Z p = none) : ExH Z (upd Z p o) := fun a u e => by
  rw [upd_ne (ne_of_none e h)]
  exact e
theorem exRd {H H' : L2.Hp} {a : Addr} {u : HO} (e : ExH H H') (h : Rd H a u) : Rd H' a u := by
  rcases h with h | ⟨o, h⟩
  · exact Or.inl (e a _ h)
  · exact Or.inr ⟨o, e a _ h⟩
theorem exL {K : PySem.W.Frag} {H H' : L2.Hp} {a : Addr} {xs : List V} (e : ExH H H') (h : SqL K H a xs) : SqL K H' a xs := by
  rcases h with h | h
  · exact Or.inl (exRd e h)
  · exact Or.inr h
theorem exT {K : PySem.W.Frag} {H H' : L2.Hp} {a : Addr} {xs : List V} (e : ExH H H') (h : SqT K H a xs) : SqT K H' a xs := by
  rcases h with h | h
  · exact Or.inl (exRd e h)
  · exact Or.inr h
section
variable {K : PySem.W.Frag} {Z Z' : L2.Hp}
mutual
theorem Rep.mono (e : ExH Z Z') : ∀ (x : D) (v : V), Rep K Z x v → Rep K Z' x v
  | .non, v, h => by unfold Rep at h ⊢; exact h
  | .bl b, v, h => by unfold Rep at h ⊢; exact h
  | .int i, v, h => by unfold Rep at h ⊢; exact h
  | .str s, v, h => by unfold Rep at h ⊢; exact h
  | .tup xs, v, h => by
    unfold Rep at h ⊢
    obtain ⟨a, vs, e1, e2, e3⟩ := h
    exact ⟨a, vs, e1, exT e e2, RepL.mono e xs vs e3⟩
  | .lst xs, v, h => by
    unfold Rep at h ⊢
    obtain ⟨a, vs, e1, e2, e3⟩ := h
    exact ⟨a, vs, e1, e _ _ e2, RepL.mono e xs vs e3⟩
  | .edict, v, h => by
    unfold Rep at h ⊢
    obtain ⟨a, e1, e2⟩ := h
    exact ⟨a, e1, e _ _ e2⟩
theorem RepL.mono (e : ExH Z Z') : ∀ (xs : List D) (vs : List V), RepL K Z xs vs → RepL K Z' xs vs
  | [], vs, h => by unfold RepL at h ⊢; exact h
  | x :: xs, vs, h => by
    unfold RepL at h ⊢
    obtain ⟨v, r, e1, e2, e3⟩ := h
    exact ⟨v, r, e1, Rep.mono e x v e2, RepL.mono e xs r e3⟩
end
theorem RepL.nil : RepL K Z [] [] := by unfold RepL; rfl
theorem RepL.cons {x : D} {xs : List D} {v : V} {vs : List V} (h : Rep K Z x v) (t : RepL K Z xs vs) : RepL K Z (x :: xs) (v :: vs) := by unfold RepL; exact ⟨v, vs, rfl, h, t⟩
theorem RepL.nil_inv {vs : List V} (h : RepL K Z [] vs) : vs = [] := by unfold RepL at h; exact h
theorem RepL.cons_inv {x : D} {xs : List D} {vs : List V} (h : RepL K Z (x :: xs) vs) : ∃ v r, vs = v :: r ∧ Rep K Z x v ∧ RepL K Z xs r := by unfold RepL at h; exact h
theorem RepL.len : ∀ {xs : List D} {vs : List V}, RepL K Z xs vs → vs.length = xs.length
  | [], vs, h => by rw [h.nil_inv] <;> rfl
  | x :: xs, vs, h => by
    obtain ⟨v, r, rfl, _, t⟩ := h.cons_inv
    simp [t.len]
theorem RepL.get : ∀ {xs : List D} {vs : List V} {i : Nat} {x : D}, RepL K Z xs vs → xs[i]? = some x → ∃ v, vs[i]? = some v ∧ Rep K Z x v
  | [], _, _, _, _, e => by simp at e
  | y :: xs, vs, 0, x, h, e => by
    obtain ⟨v, r, rfl, h1, t⟩ := h.cons_inv
    have e : y = x := by simpa using e
    subst e
    exact ⟨v, rfl, h1⟩
  | y :: xs, vs, i + 1, x, h, e => by
    obtain ⟨v, r, rfl, h1, t⟩ := h.cons_inv
    obtain ⟨u, h2, h3⟩ := t.get (i := i) (x := x) (by simpa using e)
    exact ⟨u, by simpa using h2, h3⟩
theorem RepL.getV : ∀ {xs : List D} {vs : List V} {i : Nat} {v : V}, RepL K Z xs vs → vs[i]? = some v → ∃ x, xs[i]? = some x ∧ Rep K Z x v
  | [], vs, i, v, h, e => by rw [h.nil_inv] at e; simp at e
  | y :: xs, vs, 0, x, h, e => by
    obtain ⟨v, r, rfl, h1, t⟩ := h.cons_inv
    have e : v = x := by simpa using e
    subst e
    exact ⟨y, rfl, h1⟩
  | y :: xs, vs, i + 1, x, h, e => by
    obtain ⟨v, r, rfl, h1, t⟩ := h.cons_inv
    obtain ⟨u, h2, h3⟩ := t.getV (i := i) (v := x) (by simpa using e)
    exact ⟨u, by simpa using h2, h3⟩
theorem RepL.append : ∀ {xs ys : List D} {vs ws : List V}, RepL K Z xs vs → RepL K Z ys ws → RepL K Z (xs ++ ys) (vs ++ ws)
  | [], ys, vs, ws, h, k => by rw [h.nil_inv]; exact k
  | x :: xs, ys, vs, ws, h, k => by
    obtain ⟨v, r, rfl, h1, t⟩ := h.cons_inv
    exact .cons h1 (t.append k)
theorem RepL.take : ∀ (n : Nat) {xs : List D} {vs : List V}, RepL K Z xs vs → RepL K Z (xs.take n) (vs.take n)
  | 0, _, _, _ => .nil
  | n + 1, [], vs, h => by rw [h.nil_inv]; exact .nil
  | n + 1, x :: xs, vs, h => by
    obtain ⟨v, r, rfl, h1, t⟩ := h.cons_inv
    exact .cons h1 (t.take n)
theorem RepL.drop : ∀ (n : Nat) {xs : List D} {vs : List V}, RepL K Z xs vs → RepL K Z (xs.drop n) (vs.drop n)
  | 0, _, _, h => h
  | n + 1, [], vs, h => by rw [h.nil_inv]; exact .nil
  | n + 1, x :: xs, vs, h => by
    obtain ⟨v, r, rfl, h1, t⟩ := h.cons_inv
    exact t.drop n
theorem RepL.set : ∀ (n : Nat) {x : D} {v : V} {xs : List D} {vs : List V}, Rep K Z x v → RepL K Z xs vs → RepL K Z (xs.set n x) (vs.set n v)
  | n, x, v, [], vs, h, k => by rw [k.nil_inv]; exact .nil
  | 0, x, v, y :: xs, vs, h, k => by
    obtain ⟨u, r, rfl, h1, t⟩ := k.cons_inv
    exact .cons h t
  | n + 1, x, v, y :: xs, vs, h, k => by
    obtain ⟨u, r, rfl, h1, t⟩ := k.cons_inv
    exact .cons h1 (t.set n h)
theorem RepL.ints : ∀ ns : List Int, RepL K Z (ns.map .int) (ns.map V.int)
  | [] => .nil
  | n :: ns => .cons (by unfold Rep; rfl) (RepL.ints ns)
theorem RepL.ints_inv : ∀ {ns : List Int} {vs : List V}, RepL K Z (ns.map .int) vs → vs = ns.map V.int
  | [], vs, h => h.nil_inv
  | n :: ns, vs, h => by
    obtain ⟨v, r, rfl, h1, t⟩ := RepL.cons_inv (x := .int n) (xs := ns.map .int) h
    unfold Rep at h1
    rw [h1, t.ints_inv] <;> rfl
theorem RepL.isEmpty {xs : List D} {vs : List V} (h : RepL K Z xs vs) : vs.isEmpty = xs.isEmpty := by
  cases xs with
  | nil => rw [h.nil_inv] <;> rfl
  | cons x xs => obtain ⟨v, r, rfl, _, _⟩ := h.cons_inv; rfl
/-- flat data and their values -/
theorem Rep.flat {x : D} {v : V} (h : Rep K Z x v) (f : x.flat = true) : flatV v = true := by
  cases x with
  | non => unfold Rep at h; subst h; rfl
  | bl b => unfold Rep at h; subst h; rfl
  | int i => unfold Rep at h; subst h; rfl
  | str s => unfold Rep at h; subst h; rfl
  | tup xs => cases f
  | lst xs => cases f
  | edict => cases f
theorem RepL.flat : ∀ {xs : List D} {vs : List V}, RepL K Z xs vs → xs.all D.flat = true → vs.all flatV = true
  | [], vs, h, _ => by rw [h.nil_inv]; rfl
  | x :: xs, vs, h, f => by
    obtain ⟨v, r, rfl, h1, t⟩ := h.cons_inv
    rw [List.all_cons, Bool.and_eq_true] at f
    rw [List.all_cons, h1.flat f.1, t.flat f.2] <;> rfl
theorem Rep.eqF {x y : D} {v u : V} (h : Rep K Z x v) (k : Rep K Z y u) (fx : x.flat = true) (fy : y.flat = true) : eqV u v = eqF y x := by
  cases x <;> cases y <;> first
    | exact absurd (show false = true from fx) Bool.false_ne_true
    | exact absurd (show false = true from fy) Bool.false_ne_true
    | (unfold Rep at h k; subst h; subst k; rfl)
theorem RepL.inD {x : D} {v : V} (h : Rep K Z x v) (fx : x.flat = true) : ∀ {xs : List D} {vs : List V}, RepL K Z xs vs → xs.all D.flat = true → inV v vs = inD x xs
  | [], vs, t, _ => by rw [t.nil_inv]; rfl
  | y :: xs, vs, t, f => by
    obtain ⟨u, r, rfl, h1, t⟩ := t.cons_inv
    rw [List.all_cons, Bool.and_eq_true] at f
    have ih := RepL.inD h fx t f.2
    unfold L2.inV MI.inD at *
    rw [List.any_cons, List.any_cons, h.eqF h1 fx f.1, ih]
end

/-! ### the state -/
structure S where
  m : Nat → Addr
  Z : L2.Hp
  h : MH
  /-- what stands beside, and is left alone -/
  F : L2.Hp
structure Ext (s s' : S) : Prop where
  m : ∀ i, i < s.h.length → s'.m i = s.m i
  z : ExH s.Z s'.Z
  n : s.h.length ≤ s'.h.length
  f : s'.F = s.F
theorem Ext.refl (s : S) : Ext s s := ⟨fun _ _ => rfl, ExH.refl _, Nat.le_refl _, rfl⟩
theorem Ext.trans {a b c : S} (h : Ext a b) (k : Ext b c) : Ext a c := ⟨fun i hi => (k.m i (Nat.lt_of_lt_of_le hi h.n)).trans (h.m i hi), h.z.trans k.z, Nat.le_trans h.n k.n, k.f.trans h.f⟩
theorem Ext.ofZ {s : S} {Z' : L2.Hp} (e : ExH s.Z Z') : Ext s ⟨s.m, Z', s.h, s.F⟩ := ⟨fun _ _ => rfl, e, Nat.le_refl _, rfl⟩
/-- an entry of a dict: its key is a text or an int -/
def keyD : D → Option Key
  | .int i => some (.inl i)
  | .str s => some (.inr s)
  | _ => none
def KvR (K : PySem.W.Frag) (Z : L2.Hp) : List (D × D) → List (Key × V) → Prop
  | [], ws => ws = []
  | p :: r, ws => ∃ q t, ws = q :: t ∧ keyD p.1 = some q.1 ∧ Rep K Z p.2 q.2 ∧ KvR K Z r t
theorem KvR.mono {K : PySem.W.Frag} {Z Z' : L2.Hp} (e : ExH Z Z') : ∀ {kvs : List (D × D)} {ws : List (Key × V)}, KvR K Z kvs ws → KvR K Z' kvs ws
  | [], ws, h => h
  | p :: r, ws, h => by
    obtain ⟨q, t, e1, e2, e3, e4⟩ := h
    exact ⟨q, t, e1, e2, e3.mono e, KvR.mono e e4⟩
def ObjR (K : PySem.W.Frag) (Z : L2.Hp) : O → Option HO → Prop
  | .lst xs, u => ∃ vs, u = some (.lst vs) ∧ RepL K Z xs vs
  | .dict kvs, u => ∃ ws, u = some (.dK ws) ∧ KvR K Z kvs ws
theorem ObjR.mono {K : PySem.W.Frag} {Z Z' : L2.Hp} (e : ExH Z Z') {o : O} {u : Option HO} (h : ObjR K Z o u) : ObjR K Z' o u := by
  cases o with
  | lst xs => obtain ⟨vs, e1, e2⟩ := h; exact ⟨vs, e1, e2.mono e⟩
  | dict kvs => obtain ⟨ws, e1, e2⟩ := h; exact ⟨ws, e1, e2.mono e⟩
structure Good (K : PySem.W.Frag) (s : S) (H : L2.Hp) : Prop where
  ex : ExH s.Z H
  obj : ∀ (i : Nat) (o : O), s.h[i]? = some o → s.Z (s.m i) = none ∧ ObjR K s.Z o (H (s.m i))
  inj : ∀ i j, i < s.h.length → j < s.h.length → s.m i = s.m j → i = j
  fr : ∀ a o, s.F a = some o → H a = some o ∧ s.Z a = none ∧ ∀ i, i < s.h.length → s.m i ≠ a
theorem ObjR.some_of {K : PySem.W.Frag} {Z : L2.Hp} {o : O} {u : Option HO} (h : ObjR K Z o u) : ∃ x, u = some x := by
  cases o with
  | lst xs => obtain ⟨vs, e1, _⟩ := h; exact ⟨_, e1⟩
  | dict kvs => obtain ⟨ws, e1, _⟩ := h; exact ⟨_, e1⟩
/-- a fresh thing is laid, and stays -/
theorem Good.laid {K : PySem.W.Frag} {s : S} {H : L2.Hp} {p : Addr} {o : HO} (g : Good K s H) (hp : H p = none) : Good K ⟨s.m, upd s.Z p o, s.h, s.F⟩ (upd H p o) ∧ ExH s.Z (upd s.Z p o) ∧ s.Z p = none := by
  have hz : s.Z p = none := by
    cases e : s.Z p with
    | none => rfl
    | some u => rw [g.ex p u e] at hp; cases hp
  have ez := ExH.new (o := o) hz
  refine ⟨⟨fun a u e => ?_, fun i ob e => ?_, g.inj, fun a u e => ?_⟩, ez, hz⟩
  · have e : upd s.Z p o a = some u := e
    by_cases ha : a = p
    · subst ha; rw [upd_same] at e ⊢; exact e
    · rw [upd_ne ha] at e ⊢; exact g.ex a u e
  · obtain ⟨h1, h2⟩ := g.obj i ob e
    obtain ⟨x, hx⟩ := h2.some_of
    have ne : s.m i ≠ p := fun q => by rw [q, hp] at hx; cases hx
    refine ⟨?_, ?_⟩
    · show upd s.Z p o (s.m i) = none
      rw [upd_ne ne]; exact h1
    · show ObjR K (upd s.Z p o) ob (upd H p o (s.m i))
      rw [upd_ne ne]; exact h2.mono ez
  · obtain ⟨h1, h2, h3⟩ := g.fr a u e
    have ne := ne_of_none h1 hp
    exact ⟨by rw [upd_ne ne]; exact h1, by show upd s.Z p o a = none; rw [upd_ne ne]; exact h2, h3⟩
/-- garbage is laid -/
theorem Good.junk {K : PySem.W.Frag} {s : S} {H : L2.Hp} {p : Addr} {o : HO} (g : Good K s H) (hp : H p = none) : Good K s (upd H p o) := by
  refine ⟨fun a u e => ?_, fun i ob e => ?_, g.inj, fun a u e => let ⟨h1, h2, h3⟩ := g.fr a u e; ⟨by rw [upd_ne (ne_of_none h1 hp)]; exact h1, h2, h3⟩⟩
  · have := g.ex a u e
    rw [upd_ne (ne_of_none this hp)]
    exact this
  · obtain ⟨h1, h2⟩ := g.obj i ob e
    obtain ⟨x, hx⟩ := h2.some_of
    have ne : s.m i ≠ p := fun q => by rw [q, hp] at hx; cases hx
    exact ⟨h1, by rw [upd_ne ne]; exact h2⟩
/-- a mutable object is written -/
theorem Good.write {K : PySem.W.Frag} {s : S} {H : L2.Hp} {i : Nat} {o : O} {u : HO} (g : Good K s H) (hi : i < s.h.length) (h : ObjR K s.Z o (some u)) : Good K ⟨s.m, s.Z, s.h.set i o, s.F⟩ (upd H (s.m i) u) := by
  obtain ⟨z, hz⟩ := g.obj i s.h[i] (List.getElem?_eq_getElem hi)
  refine ⟨fun a w e => ?_, fun j ob e => ?_, fun j k hj hk => g.inj j k (by simpa using hj) (by simpa using hk), fun a w e => ?_⟩
  · have ne : a ≠ s.m i := fun q => by
      have e : s.Z a = some w := e
      rw [q, z] at e; cases e
    rw [upd_ne ne]
    exact g.ex a w e
  · by_cases hj : j = i
    · subst hj
      have e : (s.h.set j o)[j]? = some ob := e
      rw [List.getElem?_set_self hi] at e
      cases e
      exact ⟨z, by show ObjR K s.Z o (upd H (s.m j) u (s.m j)); rw [upd_same]; exact h⟩
    · have e : (s.h.set i o)[j]? = some ob := e
      rw [List.getElem?_set_ne (Ne.symm hj)] at e
      obtain ⟨h1, h2⟩ := g.obj j ob e
      have ne : s.m j ≠ s.m i := fun q => hj (g.inj j i (List.getElem?_eq_some_iff.mp e).1 hi q)
      exact ⟨h1, by show ObjR K s.Z ob (upd H (s.m i) u (s.m j)); rw [upd_ne ne]; exact h2⟩
  · obtain ⟨h1, h2, h3⟩ := g.fr a w e
    exact ⟨by rw [upd_ne (Ne.symm (h3 i hi))]; exact h1, h2, fun j hj => h3 j (by simpa using hj)⟩
/-- a mutable object is made -/
theorem Good.make {K : PySem.W.Frag} {s : S} {H : L2.Hp} {p : Addr} {o : O} {u : HO} (g : Good K s H) (hp : H p = none) (h : ObjR K s.Z o (some u)) :
    Good K ⟨fun i => if i = s.h.length then p else s.m i, s.Z, s.h ++ [o], s.F⟩ (upd H p u) := by
  have hz : s.Z p = none := by
    cases e : s.Z p with
    | none => rfl
    | some w => rw [g.ex p w e] at hp; cases hp
  have old : ∀ (j : Nat) (ob : O), s.h[j]? = some ob → s.m j ≠ p := fun j ob e q => by
    obtain ⟨_, h2⟩ := g.obj j ob e
    obtain ⟨x, hx⟩ := h2.some_of
    rw [q, hp] at hx; cases hx
  refine ⟨fun a w e => ?_, fun j ob e => ?_, fun j k hj hk q => ?_, fun a w e => ?_⟩
  · have := g.ex a w e
    rw [upd_ne (ne_of_none this hp)]
    exact this
  · have e : (s.h ++ [o])[j]? = some ob := e
    show s.Z (if j = s.h.length then p else s.m j) = none ∧ ObjR K s.Z ob (upd H p u (if j = s.h.length then p else s.m j))
    by_cases hj : j = s.h.length
    · subst hj
      rw [List.getElem?_append_right (Nat.le_refl _)] at e
      simp at e
      subst e
      rw [if_pos rfl, upd_same]
      exact ⟨hz, h⟩
    · have hl : j < s.h.length := by
        have := (List.getElem?_eq_some_iff.mp e).1
        rw [List.length_append, List.length_singleton] at this
        omega
      rw [List.getElem?_append_left hl] at e
      obtain ⟨h1, h2⟩ := g.obj j ob e
      rw [if_neg hj, upd_ne (old j ob e)]
      exact ⟨h1, h2⟩
  · have hj : j < (s.h ++ [o]).length := hj
    have hk : k < (s.h ++ [o]).length := hk
    rw [List.length_append, List.length_singleton] at hj hk
    have q : (if j = s.h.length then p else s.m j) = (if k = s.h.length then p else s.m k) := q
    by_cases h1 : j = s.h.length <;> by_cases h2 : k = s.h.length
    · omega
    · rw [if_pos h1, if_neg h2] at q
      exact absurd q.symm (old k s.h[k] (List.getElem?_eq_getElem (by omega)))
    · rw [if_neg h1, if_pos h2] at q
      exact absurd q (old j s.h[j] (List.getElem?_eq_getElem (by omega)))
    · rw [if_neg h1, if_neg h2] at q
      exact g.inj j k (by omega) (by omega) q
  · obtain ⟨h1, h2, h3⟩ := g.fr a w e
    refine ⟨by rw [upd_ne (ne_of_none h1 hp)]; exact h1, h2, fun j hj => ?_⟩
    have hj : j < (s.h ++ [o]).length := hj
    rw [List.length_append, List.length_singleton] at hj
    show (if j = s.h.length then p else s.m j) ≠ a
    by_cases h4 : j = s.h.length
    · rw [if_pos h4]
      exact (ne_of_none h1 hp).symm
    · rw [if_neg h4]
      exact h3 j (by omega)
theorem Ext.make {s : S} {p : Addr} {o : O} : Ext s ⟨fun i => if i = s.h.length then p else s.m i, s.Z, s.h ++ [o], s.F⟩ :=
  ⟨fun i hi => if_neg (Nat.ne_of_lt hi), ExH.refl _, by simp, rfl⟩
theorem Ext.write {s : S} {i : Nat} {o : O} : Ext s ⟨s.m, s.Z, s.h.set i o, s.F⟩ := ⟨fun _ _ => rfl, ExH.refl _, by simp, rfl⟩

abbrev XA := Exc → V → Prop
def RepV (K : PySem.W.Frag) (xa : XA) (s : S) : Val → V → Prop
  | .d x, v => Rep K s.Z x v
  | .m i, v => v = .ref (s.m i) ∧ i < s.h.length
  | .scr ns, v => ∃ a, v = .ref a ∧ SqL K s.Z a (ns.map V.int)
  | .exc e, v => xa e v
theorem RepV.mono {K : PySem.W.Frag} {xa : XA} {s s' : S} (e : Ext s s') {x : Val} {v : V} (h : RepV K xa s x v) : RepV K xa s' x v := by
  cases x with
  | d x => exact Rep.mono e.z x v h
  | m i => exact ⟨by rw [e.m i h.2]; exact h.1, Nat.lt_of_lt_of_le h.2 e.n⟩
  | scr ns => obtain ⟨a, e1, e2⟩ := h; exact ⟨a, e1, exL e.z e2⟩
  | exc x => exact h
structure EnvR (K : PySem.W.Frag) (xa : XA) (s : S) (σ' : Env) (σ : L2.St) : Prop where
  len : σ'.length = σ.length
  get : ∀ (i : Nat) (x : Val), σ'[i]? = some (some x) → ∃ v, σ[i]? = some (some v) ∧ RepV K xa s x v
theorem EnvR.mono {K : PySem.W.Frag} {xa : XA} {s s' : S} (e : Ext s s') {σ' : Env} {σ : L2.St} (h : EnvR K xa s σ' σ) : EnvR K xa s' σ' σ :=
  ⟨h.len, fun i x k => let ⟨v, h1, h2⟩ := h.get i x k; ⟨v, h1, h2.mono e⟩⟩
theorem EnvR.set {K : PySem.W.Frag} {xa : XA} {s : S} {σ' : Env} {σ : L2.St} (h : EnvR K xa s σ' σ) {i : Nat} {x : Val} {v : V} (r : RepV K xa s x v) : EnvR K xa s (σ'.set i (some x)) (σ.set i (some v)) := by
  refine ⟨by simp [h.len], fun j y e => ?_⟩
  by_cases hj : i = j
  · subst hj
    have hl : i < σ'.length := by
      have := (List.getElem?_eq_some_iff.mp e).1
      simpa using this
    rw [List.getElem?_set_self hl] at e
    cases e
    exact ⟨v, List.getElem?_set_self (by rw [← h.len]; exact hl), r⟩
  · rw [List.getElem?_set_ne hj] at e
    obtain ⟨u, h1, h2⟩ := h.get j y e
    exact ⟨u, by rw [List.getElem?_set_ne hj]; exact h1, h2⟩
theorem EnvR.unset {K : PySem.W.Frag} {xa : XA} {s : S} {σ' : Env} {σ : L2.St} (h : EnvR K xa s σ' σ) {i : Nat} : EnvR K xa s (σ'.set i none) (σ.set i none) := by
  refine ⟨by simp [h.len], fun j y e => ?_⟩
  by_cases hj : i = j
  · subst hj
    have hl : i < σ'.length := by
      have := (List.getElem?_eq_some_iff.mp e).1
      simpa using this
    rw [List.getElem?_set_self hl] at e
    cases e
  · rw [List.getElem?_set_ne hj] at e
    obtain ⟨u, h1, h2⟩ := h.get j y e
    exact ⟨u, by rw [List.getElem?_set_ne hj]; exact h1, h2⟩

/-! ### outcomes -/
def Out {α : Type} (s : S) (r : Res α) (P : α → S → Prop) (X : Exc → S → Prop) : Prop := match r with
  | .ok a h' => ∀ m' Z', Ext s ⟨m', Z', h', s.F⟩ → P a ⟨m', Z', h', s.F⟩
  | .exc e h' => ∀ m' Z', Ext s ⟨m', Z', h', s.F⟩ → X e ⟨m', Z', h', s.F⟩
  | .stuck => False
theorem Out.bnd {α β : Type} {s : S} {x : M α} {f : α → M β} {P : β → S → Prop} {X : Exc → S → Prop} (h : Out s (bnd x f s.h) P X) :
    Out s (x s.h) (fun a s1 => Out s1 (f a s1.h) P X) X := by
  unfold MI.bnd at h
  cases e : x s.h with
  | stuck => rw [e] at h; exact h
  | exc e' h' => rw [e] at h; exact h
  | ok a h1 =>
    rw [e] at h
    intro m1 Z1 x1
    show Out ⟨m1, Z1, h1, s.F⟩ (f a h1) P X
    have h : Out s (f a h1) P X := h
    cases e2 : f a h1 with
    | stuck => rw [e2] at h; exact h
    | ok b h2 => rw [e2] at h; exact fun m2 Z2 x2 => h m2 Z2 (x1.trans x2)
    | exc b h2 => rw [e2] at h; exact fun m2 Z2 x2 => h m2 Z2 (x1.trans x2)
theorem Out.imp {α : Type} {s : S} {r : Res α} {P P' : α → S → Prop} {X X' : Exc → S → Prop} (h : Out s r P X) (hp : ∀ a s', Ext s s' → P a s' → P' a s') (hx : ∀ e s', Ext s s' → X e s' → X' e s') : Out s r P' X' := by
  cases r with
  | stuck => exact h
  | ok a h' => exact fun m' Z' e => hp a _ e (h m' Z' e)
  | exc a h' => exact fun m' Z' e => hx a _ e (h m' Z' e)
/-- the frame is widened for a part -/
theorem Out.frame {α : Type} {s : S} {r : Res α} {P : α → S → Prop} {X : Exc → S → Prop} (F' : L2.Hp) (h : Out s r P X) :
    Out ⟨s.m, s.Z, s.h, F'⟩ r (fun a s' => P a ⟨s'.m, s'.Z, s'.h, s.F⟩) (fun a s' => X a ⟨s'.m, s'.Z, s'.h, s.F⟩) := by
  cases r with
  | stuck => exact h
  | ok a h' => exact fun m' Z' e => h m' Z' ⟨e.m, e.z, e.n, rfl⟩
  | exc a h' => exact fun m' Z' e => h m' Z' ⟨e.m, e.z, e.n, rfl⟩
theorem Good.unframe {K : PySem.W.Frag} {s : S} {F' : L2.Hp} {H : L2.Hp} (g : Good K s H) (h : ∀ a o, F' a = some o → s.F a = some o) : Good K ⟨s.m, s.Z, s.h, F'⟩ H :=
  ⟨g.ex, g.obj, g.inj, fun a o e => g.fr a o (h a o e)⟩
end MI
set_option maxRecDepth 100000
namespace MI
open PySem

/-! ### the text -/
structure Fd where
  N : List Str
  ps : List Str
  body : List Stmt
  sc : Scope
  /-- it hands back an object that its caller may change -/
  keep : Bool
structure G where
  fns : List (Str × Fd)
  consts : List (Str × D)
  /-- an error's class: the classes that it is an instance of -/
  excs : List (Str × List Str)
  /-- where displays stand that are changed later -/
  chg : List Pos
  /-- further classes of errors that are asked for -/
  more : List Str
structure Ctx where
  N : List Str
  sc : Scope
  calm : Bool

def slot (N : List Str) (x : Str) : Option Nat := N.findIdx? (· == x)
def visB (sc : Scope) (x : Str) : Bool := match sc.names.lookup x with
  | some .local => true | some .cell => true | some .free => true | _ => false
def glB (sc : Scope) (x : Str) : Bool := match sc.names.lookup x with
  | some .globalImplicit => true | _ => false
def plainN (x : Str) : Bool := !(x == ("__debug__" : Str)) && !(x == ("__classdict__" : Str)) && !(x == ("__name__" : Str))
def alloc (o : O) : M Val := fun h => .ok (.m h.length) (h ++ [o])
def toDs : List Val → Option (List D)
  | [] => some []
  | .d x :: r => (toDs r).map (x :: ·)
  | _ => none
def getV (σ : Env) (i : Nat) : Option Val := match σ[i]? with
  | some (some v) => some v
  | _ => none
def nameE (g : G) (C : Ctx) (x : Str) (σ : Env) : M Val := fun h =>
  if plainN x then
    if visB C.sc x then match slot C.N x with
      | some i => match getV σ i with
        | some v => .ok v h
        | none => .stuck
      | none => .stuck
    else if glB C.sc x then match g.consts.lookup x with
      | some d => .ok (.d d) h
      | none => .stuck
    else .stuck
  else .stuck
def constE (c : Const) : M Val := match c with
  | .none => ret (.d .non)
  | .bool b => ret (.d (.bl b))
  | .int i => ret (.d (.int i))
  | .str s => ret (.d (.str s))
  | _ => stk
def seqE (ev : Expr → M Val) : List Expr → M (List Val)
  | [] => ret []
  | e :: es => bnd (ev e) fun x => bnd (seqE ev es) fun xs => ret (x :: xs)
/-- the class of a value, by name -/
def tyD : Val → MH → Option Str
  | .d .non, _ => some "NoneType"
  | .d (.bl _), _ => some "bool"
  | .d (.int _), _ => some "int"
  | .d (.str _), _ => some "str"
  | .d (.tup _), _ => some "tuple"
  | .d (.lst _), _ => some "list"
  | .d .edict, _ => some "dict"
  | .m i, h => match h[i]? with | some (.lst _) => some "list" | some (.dict _) => some "dict" | _ => none
  | _, _ => none
def instB (t c : Str) : Bool := t == c || (t == ("bool" : Str) && c == ("int" : Str))
def kinds : List Str := ["int", "str", "tuple", "list", "bool", "dict"]
/-- the classes of errors that are asked for -/
def clsOf (g : G) (c : Str) : Bool := ((g.excs.lookup c).isSome || g.more.contains c) || c == ("ValueError" : Str)
/-- isinstance(x, c) -/
def isInst (g : G) (x : Val) (c : Str) (h : MH) : Option Bool := match x with
  | .exc e => match g.excs.lookup e.cls with
    | some l => if clsOf g c then some (l.contains c) else none
    | none => none
  | x => match tyD x h with
    | some t => if kinds.contains c then some (instB t c) else none
    | none => none
def orAll : List (Option Bool) → Option Bool
  | [] => some false
  | some b :: r => (orAll r).map (b || ·)
  | none :: _ => none
def nameOf : Expr → Option Str
  | .Name x _ => some x
  | _ => none
def intsD : List D → Option (List Int)
  | [] => some []
  | .int i :: r => (intsD r).map (i :: ·)
  | _ => none
def blsD : List D → Option (List Bool)
  | [] => some []
  | .bl i :: r => (blsD r).map (i :: ·)
  | _ => none
def lenV (x : Val) (h : MH) : Option Nat := match x with
  | .d (.str s) => if s.length ≤ 16777216 then some s.length else none
  | x => (items x h).map (·.length)
/-- built-in functions by values -/
def pCall (f : Str) (vs : List Val) (h : MH) : Option Val :=
  if f == ("len" : Str) then match vs with | [x] => (lenV x h).map fun (n : Nat) => Val.d (D.int (n : Int)) | _ => none
  else if f == ("int" : Str) then match vs with | [.d (.int i)] => some (.d (.int i)) | [.d (.bl b)] => some (.d (.int (if b then 1 else 0))) | _ => none
  else if f == ("abs" : Str) then match vs with | [.d (.int i)] => some (.d (.int (if i < 0 then -i else i))) | _ => none
  else if f == ("max" : Str) then match vs with | [.d (.int i), .d (.int j)] => some (.d (.int (if j > i then j else i))) | _ => none
  else if f == ("min" : Str) then match vs with | [.d (.int i), .d (.int j)] => some (.d (.int (if j < i then j else i))) | _ => none
  else if f == ("sum" : Str) then match vs with | [.d (.tup _)] => none | [x] => (items x h).bind fun l => (intsD l).map fun l => .d (.int l.sum) | _ => none
  else if f == ("all" : Str) then match vs with | [.d (.lst l)] => (blsD l).map fun l => bl (l.all id) | _ => none
  else if f == ("any" : Str) then match vs with | [.d (.lst l)] => (blsD l).map fun l => bl (l.any id) | _ => none
  else if f == ("list" : Str) then match vs with | [x] => (items x h).map fun l => .d (.lst l) | _ => none
  else if f == ("tuple" : Str) then match vs with | [x] => (items x h).map fun l => .d (.tup l) | _ => none
  else if f == ("str" : Str) then match vs with | [.d (.int i)] => gd (decide (i.natAbs.log2 < 1920)) (.d (.str (toString i : String))) | _ => none
  else none
def bltins : List Str := ["len", "int", "abs", "max", "min", "sum", "all", "any", "list", "tuple", "str"]
def rgD (a b : Int) : List D := (List.range (b - a).toNat).map fun i => .int (a + (i : Nat))
def okRg (a b : Int) : Bool := decide (-(2 ^ 62) ≤ a) && decide (a < 2 ^ 62) && decide (-(2 ^ 62) ≤ b) && decide (b < 2 ^ 62) && decide ((b - a).toNat ≤ 16777216)
def zipD : List D → List D → List D
  | x :: xs, y :: ys => .tup [x, y] :: zipD xs ys
  | _, _ => []
/-- own names of a comprehension, with their places -/
def ownOf (N : List Str) (scope : Scope) : List (Str × Nat) := scope.names.filterMap fun (x, k) => match k with
  | .local => (slot N x).map fun i => (x, i)
  | .cell => (slot N x).map fun i => (x, i)
  | _ => none
def wipeE (σ : Env) : List Nat → Env
  | [] => σ
  | v :: vs => (wipeE σ vs).set v none
def locB (sc : Scope) (x : Str) : Bool := match sc.names.lookup x with
  | some .local => true | some .cell => true | _ => false
/-- the places of a target's names (true: a tuple of names) -/
def slotsT (N : List Str) (sc : Scope) : Expr → Option (Bool × List Nat)
  | .Name x _ => if locB sc x && plainN x then (slot N x).map fun i => (false, [i]) else none
  | .Tuple [.Name x _, .Name y _] _ _ => if locB sc x && plainN x && locB sc y && plainN y then match slot N x, slot N y with
    | some i, some j => some (true, [i, j])
    | _, _ => none
    else none
  | .Tuple [.Name x _, .Name y _, .Name z _] _ _ => if locB sc x && plainN x && locB sc y && plainN y && locB sc z && plainN z then match slot N x, slot N y, slot N z with
    | some i, some j, some k => some (true, [i, j, k])
    | _, _, _ => none
    else none
  | _ => none
/-- an item goes to a target -/
def bindS : Bool × List Nat → D → Env → Option Env
  | (false, [i]), v, σ => some (σ.set i (some (.d v)))
  | (true, [i, j]), .tup [a, b], σ => some ((σ.set i (some (.d a))).set j (some (.d b)))
  | (true, [i, j, k]), .tup [a, b, c], σ => some (((σ.set i (some (.d a))).set j (some (.d b))).set k (some (.d c)))
  | _, _, _ => none
def loopC (f : D → M (Option D)) : List D → M (List D)
  | [] => ret []
  | x :: xs => bnd (f x) fun r => bnd (loopC f xs) fun ys => ret (match r with | some y => y :: ys | none => ys)
/-- an error within is not served -/
def noexc {α : Type} (x : M α) : M α := fun h => match x h with
  | .ok a h' => .ok a h'
  | _ => .stuck
def oneD : Val → Option D
  | .d x => some x
  | _ => none
def cutD (x : Val) (lo hi : Option Int) (h : MH) : Option Val := match x with
  | .d (.str s) => if s.length ≤ 16777216 then some (.d (.str (L2.cutS s lo hi))) else none
  | .d (.tup xs) => if HT.sIx xs.length 0 lo = 0 ∧ HT.sIx xs.length xs.length hi = xs.length then none else some (.d (.tup (cutL xs lo hi)))
  | x => (items x h).map fun xs => .d (.lst (cutL xs lo hi))
def intV : Val → Option Int
  | .d (.int i) => some i
  | _ => none
def boolV : Val → Option Bool
  | .d (.bl b) => some b
  | _ => none
def partE (ev : Expr → M Val) : Option Expr → M (Option Int)
  | none => ret none
  | some e => bnd (ev e) fun x => rd fun _ => (intV x).map some
/-- the tests of a comprehension: none or one -/
def evalFs (ev : Expr → M Bool) : List Expr → M Bool
  | [] => ret true
  | [t] => ev t
  | _ => stk
def mlst : Val → MH → Option (List D)
  | .m i, h => items (.m i) h
  | _, _ => none
def notSet : Expr → Bool
  | .Set _ _ _ => false
  | _ => true
def okBase : Expr → Bool
  | .Call _ _ _ _ => false
  | _ => true
def notStar : Expr → Bool
  | .Starred _ _ => false
  | _ => true
def noStar (es : List Expr) : Bool := es.all notStar
def rangeE (ev : Expr → M Val) : List Expr → M (Int × Int)
  | [a] => bnd (ev a) fun x => rd fun _ => (intV x).bind fun i => gd (okRg 0 i) (0, i)
  | [a, b] => bnd (ev a) fun x => bnd (ev b) fun y => rd fun _ => (intV x).bind fun i => (intV y).bind fun j => gd (okRg i j) (i, j)
  | _ => stk
/-- the items of what is gone through, which does not change -/
def frozen : Val → Option (List D)
  | .d (.lst l) => some l
  | .d (.tup l) => some l
  | _ => none
def isTup : Expr → Bool
  | .Tuple _ _ _ => true
  | _ => false
def optM {α β : Type} (o : Option α) (f : α → M β) : M β := match o with
  | some a => f a
  | none => stk
/-- one item of a comprehension -/
def itemC (sl : Bool × List Nat) (vs : List Nat) (ft : Env → M Bool) (fe : Env → M Val) (σ : Env) (v : D) : M (Option D) := match bindS sl v (wipeE σ vs) with
  | some σ1 => bnd (ft σ1) fun k => if k = true then bnd (fe σ1) fun y => rd fun _ => (oneD y).map some else ret none
  | none => stk
/-- isinstance(x, c) -/
def isN2 (g : G) (C : Ctx) (ev : Expr → Env → M Val) (a b : Expr) (σ : Env) : M Val := match b with
  | .Name c _ => if glB C.sc c && plainN c && notStar a && (kinds.contains c || clsOf g c) then bnd (ev a σ) fun x => rd fun h => (isInst g x c h).map bl else stk
  | _ => stk
def isN (g : G) (C : Ctx) (ev : Expr → Env → M Val) (args : List Expr) (σ : Env) : M Val := match args with
  | [a, b] => isN2 g C ev a b σ
  | _ => stk
def plainCall (C : Ctx) (ev : Expr → Env → M Val) (f : Str) (args : List Expr) (σ : Env) : M Val :=
  if C.calm && noStar args then bnd (seqE (fun e => ev e σ) args) fun vs => rd (pCall f vs) else stk
/-- a built-in's call -/
def bltN1 (C : Ctx) (ev : Expr → Env → M Val) (f : Str) (a : Expr) (σ : Env) : M Val := match a with
  | .Call (.Name r _) ras [] _ =>
    if (r == ("range" : Str)) && (f == ("list" : Str) || f == ("tuple" : Str)) then
      if glB C.sc ("range" : Str) && C.calm && noStar ras then bnd (rangeE (fun e => ev e σ) ras) fun p => ret (.d (if f == ("list" : Str) then .lst (rgD p.1 p.2) else .tup (rgD p.1 p.2))) else stk
    else plainCall C ev f [a] σ
  | _ => plainCall C ev f [a] σ
def bltN (C : Ctx) (ev : Expr → Env → M Val) (f : Str) (args : List Expr) (σ : Env) : M Val := match args with
  | [a] => bltN1 C ev f a σ
  | _ => plainCall C ev f args σ
def callN (g : G) (cf : Str → List Val → M Val) (C : Ctx) (ev : Expr → Env → M Val) (f : Str) (args : List Expr) (σ : Env) : M Val :=
  if plainN f && glB C.sc f then
    if f == ("isinstance" : Str) then isN g C ev args σ
    else if bltins.contains f then bltN C ev f args σ
    else if C.calm && noStar args then optM (g.fns.lookup f) fun fd => bnd (seqE (fun e => ev e σ) args) fun vs => if vs.length = fd.ps.length then cf f vs else stk
    else stk
  else stk
def uppN (ev : Expr → Env → M Val) (o : Expr) (args : List Expr) (σ : Env) : M Val := match args with
  | [] => bnd (ev o σ) fun x => rd fun _ => match x with | .d (.str s) => gd (decide (s.length ≤ 5592405)) (.d (.str (Txt.upper s))) | _ => none
  | _ => stk
def appN (ev : Expr → Env → M Val) (o : Expr) (args : List Expr) (σ : Env) : M Val := match args with
  | [a] => if notStar a then bnd (ev o σ) fun x => bnd (rd fun h => mlst x h) fun _ => bnd (ev a σ) fun y => fun h => match x, y with
    | .m i, .d v => match h[i]? with
      | some (.lst xs) => if xs.length < 16777216 then .ok (.d .non) (h.set i (.lst (xs ++ [v]))) else .stuck
      | _ => .stuck
    | _, _ => .stuck
    else stk
  | _ => stk
def methN (ev : Expr → Env → M Val) (o : Expr) (m : Str) (apos pos : Pos) (args : List Expr) (σ : Env) : M Val :=
  if (apos.endLine == pos.line) && okBase o then
    if m == ("upper" : Str) then uppN ev o args σ
    else if m == ("append" : Str) then appN ev o args σ
    else stk
  else stk
def zipN (ev : Expr → Env → M Val) (tup : Bool) (args : List Expr) (σ : Env) : M (List D) := match args with
  | [a, b] => if tup then bnd (seqE (fun e => ev e σ) [a, b]) fun vs => rd fun _ => match vs with
    | [.d (.lst l), .d (.lst k)] => some (zipD l k)
    | [.d (.tup l), .d (.tup k)] => some (zipD l k)
    | _ => none
    else stk
  | _ => stk
def iterN (C : Ctx) (ev : Expr → Env → M Val) (tup : Bool) (f : Str) (q p : Pos) (args : List Expr) (σ : Env) : M (List D) :=
  if plainN f && glB C.sc f && C.calm && noStar args then
    if f == ("range" : Str) then bnd (rangeE (fun e => ev e σ) args) fun p => ret (rgD p.1 p.2)
    else if f == ("zip" : Str) then zipN ev tup args σ
    else bnd (ev (.Call (.Name f q) args [] p) σ) fun x => rd fun _ => frozen x
  else stk
section
variable (g : G) (cf : Str → List Val → M Val)
mutual
def evalE : Nat → Ctx → Expr → Env → M Val
  | 0, _, _, _ => stk
  | n + 1, C, e, σ => match e with
    | .Name x _ => nameE g C x σ
    | .Constant c _ _ => constE c
    | .BinOp a op b _ => bnd (evalE n C a σ) fun x => bnd (evalE n C b σ) fun y => rd (pBin op x y)
    | .UnaryOp .Not a _ => bnd (evalE n C a σ) fun x => rd fun h => (truth x h).map fun b => bl (!b)
    | .UnaryOp .USub a _ => bnd (evalE n C a σ) fun x => rd fun _ => (intV x).map fun i => .d (.int (-i))
    | .BoolOp _ [a] _ => evalE n C a σ
    | .BoolOp .And (a :: b :: r) p => bnd (evalE n C a σ) fun x => bnd (rd (truth x)) fun k => if k = true then evalE n C (.BoolOp .And (b :: r) p) σ else ret x
    | .BoolOp .Or (a :: b :: r) p => bnd (evalE n C a σ) fun x => bnd (rd (truth x)) fun k => if k = true then ret x else evalE n C (.BoolOp .Or (b :: r) p) σ
    | .Compare a [op] [b] _ => if behindInMarks op b = true then stk else bnd (evalE n C a σ) fun x => bnd (evalE n C b σ) fun y => rd (pCmp op x y)
    | .Compare a [op, op2] [b, c] _ => if lastMarks [op, op2] [b, c] = true then stk else bnd (evalE n C a σ) fun x => bnd (evalE n C b σ) fun y => bnd (rd fun h => (pCmp op x y h).bind boolV) fun k =>
        if k = true then bnd (evalE n C c σ) fun z => rd (pCmp op2 y z) else ret (bl false)
    | .Compare a [op, op2, op3] [b, c, d] _ => if lastMarks [op, op2, op3] [b, c, d] = true then stk else bnd (evalE n C a σ) fun x => bnd (evalE n C b σ) fun y => bnd (rd fun h => (pCmp op x y h).bind boolV) fun k =>
        if k = true then bnd (evalE n C c σ) fun z => bnd (rd fun h => (pCmp op2 y z h).bind boolV) fun k2 => if k2 = true then bnd (evalE n C d σ) fun w => rd (pCmp op3 z w) else ret (bl false) else ret (bl false)
    | .IfExp t a b _ => bnd (evalT n C t σ) fun k => if k = true then evalE n C a σ else evalE n C b σ
    | .Tuple es _ _ => bnd (seqE (fun e => evalE n C e σ) es) fun vs => rd fun _ => gd (decide (vs.length ≤ 16777216)) () |>.bind fun _ => (toDs vs).map fun l => .d (.tup l)
    | .List es p => bnd (seqE (fun e => evalE n C e σ) es) fun vs => bnd (rd fun _ => gd (decide (vs.length ≤ 16777216)) () |>.bind fun _ => toDs vs) fun l => if g.chg.contains p = true then alloc (.lst l) else ret (.d (.lst l))
    | .Dict [] [] p => if g.chg.contains p = true then alloc (.dict []) else ret (.d .edict)
    | .Subscript a (.Slice lo hi none _) _ => bnd (evalE n C a σ) fun x => bnd (partE (fun e => evalE n C e σ) lo) fun l => bnd (partE (fun e => evalE n C e σ) hi) fun u => rd (cutD x l u)
    | .Subscript a b _ => bnd (evalE n C a σ) fun x => bnd (evalE n C b σ) fun y => rd (pIx x y)
    | .Call (.Name f _) args [] _ => callN g cf C (fun e σ => evalE n C e σ) f args σ
    | .Call (.Attribute o m apos) args [] pos => methN (fun e σ => evalE n C e σ) o m apos pos args σ
    | .ListComp elt [⟨tg, iter, ifs, asy⟩] scope p =>
      if (asy == 0) && C.calm && L2.blkC C.N C.sc scope (ownOf C.N scope) && notSet iter then
        optM (slotsT C.N scope tg) fun sl => if (sl.2.all fun i => ((ownOf C.N scope).map (·.2)).contains i) = true then
          bnd (evalI n C (isTup tg) iter σ) fun its => bnd (rd fun _ => gd (decide (its.length ≤ 16777216)) ()) fun _ =>
            bnd (noexc (loopC (itemC sl ((ownOf C.N scope).map (·.2)) (fun σ1 => evalFs (fun t => evalT n ⟨C.N, L2.relS scope C.sc, C.calm⟩ t σ1) ifs) (fun σ1 => evalE n ⟨C.N, L2.relS scope C.sc, C.calm⟩ elt σ1) σ) its)) fun xs =>
              if g.chg.contains p = true then alloc (.lst xs) else ret (.d (.lst xs))
          else stk
      else stk
    | _ => stk
def evalT : Nat → Ctx → Expr → Env → M Bool
  | 0, _, _, _ => stk
  | n + 1, C, e, σ => match e with
    | .UnaryOp .Not a _ => bnd (evalT n C a σ) fun b => ret (!b)
    | .BoolOp .And [a] _ => evalT n C a σ
    | .BoolOp .Or [a] _ => evalT n C a σ
    | .BoolOp .And (a :: b :: r) p => bnd (evalT n C a σ) fun k => if k = true then evalT n C (.BoolOp .And (b :: r) p) σ else ret false
    | .BoolOp .Or (a :: b :: r) p => bnd (evalT n C a σ) fun k => if k = true then ret true else evalT n C (.BoolOp .Or (b :: r) p) σ
    | .IfExp _ _ _ _ => stk
    | e => bnd (evalE n C e σ) fun x => rd (truth x)
/-- what a for or a comprehension goes through (tup: to a target of two names) -/
def evalI : Nat → Ctx → Bool → Expr → Env → M (List D)
  | 0, _, _, _, _ => stk
  | n + 1, C, tup, e, σ => match e with
    | .Call (.Name f q) args [] p => iterN C (fun e σ => evalE n C e σ) tup f q p args σ
    | e => bnd (evalE n C e σ) fun x => rd fun _ => frozen x
end

/-! ### statements -/
def notComp : Expr → Bool
  | .ListComp _ _ _ _ => false
  | .SetComp _ _ _ _ => false
  | .DictComp _ _ _ _ _ => false
  | _ => true
/-- name = e: what is asked of a comprehension there -/
def swapOk (sc : Scope) (x : Str) (py : Pos) (e : Expr) : Bool := match e with
  | .ListComp _ _ sc2 p2 => match sc.names.lookup x with
    | some .local => (py.line == p2.line) && !(sc2.names.any fun (n, k) => n == x && (k == .local || k == .cell))
    | _ => true
  | .SetComp _ _ _ _ => false
  | .DictComp _ _ _ _ _ => false
  | _ => true
def notSl : Expr → Bool
  | .Slice _ _ _ _ => false
  | _ => true
def isExc : Val → Bool
  | .exc _ => true
  | _ => false
/-- a caught error is forgotten -/
def scrub (σ : Env) : Env := σ.map fun o => match o with
  | some (.exc _) => none
  | o => o
inductive ResS where
  | nx (σ : Env) (h : MH) | rt (v : Val) (h : MH) | bk (σ : Env) (h : MH) | ct (σ : Env) (h : MH) | exc (e : Exc) (σ : Env) (h : MH) | stuck
abbrev MS := Env → MH → ResS
def ofE {α : Type} (x : M α) (σ : Env) (h : MH) (k : α → MH → ResS) : ResS := match x h with
  | .ok a h' => k a h'
  | .exc e h' => .exc e σ h'
  | .stuck => .stuck
def loopF (bd : D → Env → Option Env) (body : MS) : List D → MS
  | [], σ, h => .nx σ h
  | x :: xs, σ, h => match bd x σ with
    | some σ1 => match body σ1 h with
      | .nx σ2 h2 => loopF bd body xs σ2 h2
      | .ct σ2 h2 => loopF bd body xs σ2 h2
      | .bk σ2 h2 => .nx σ2 h2
      | .rt v h2 => .rt v h2
      | .exc e σ2 h2 => .exc e σ2 h2
      | .stuck => .stuck
    | none => .stuck
mutual
def evalS : Nat → Ctx → Stmt → Env → MH → ResS
  | 0, _, _, _, _ => .stuck
  | n + 1, C, st, σ, h => match st with
    | .Expr (.Constant (.str _) _ _) _ => .nx σ h
    | .Expr e _ => if notComp e then ofE (evalE g cf n C e σ) σ h fun _ h' => .nx σ h' else .stuck
    | .Pass _ => .nx σ h
    | .Break _ => .bk σ h
    | .Continue _ => .ct σ h
    | .Return none _ => .rt (.d .non) h
    | .Return (some e) _ => ofE (evalE g cf n C e σ) σ h fun v h' => .rt v h'
    | .Assign [.Name x py] e p => if plainN x && locB C.sc x && swapOk C.sc x py e then match slot C.N x with
        | some i => ofE (evalE g cf n C e σ) σ h fun v h' => .nx (σ.set i (some v)) h'
        | none => .stuck
      else .stuck
    | .Assign [.Tuple es k p] (.Tuple es2 k2 p2) _ => .stuck
    | .Assign [.Tuple es k p] e _ => if C.calm then ofE (evalE g cf n C e σ) σ h fun v h' => match v with
        | .d v => match (slotsT C.N C.sc (.Tuple es k p)).bind fun sl => bindS sl v σ with
          | some σ1 => .nx σ1 h'
          | none => .stuck
        | _ => .stuck
      else .stuck
    | .Assign [.Subscript o i _] e _ => if notSl i then ofE (evalE g cf n C e σ) σ h fun v h1 => ofE (evalE g cf n C o σ) σ h1 fun x h2 => ofE (evalE g cf n C i σ) σ h2 fun y h3 => match x, y, v with
        | .m a, .d (.int j), .d v => match h3[a]? with
          | some (.lst xs) => match L2.ixN xs.length j with
            | some k => .nx σ (h3.set a (.lst (xs.set k v)))
            | none => .stuck
          | _ => .stuck
        | _, _, _ => .stuck
      else .stuck
    | .If t a b _ => ofE (evalT g cf n C t σ) σ h fun k h' => if k = true then evalB n C a σ h' else evalB n C b σ h'
    | .For tg iter body [] _ => if C.calm && notSet iter then match slotsT C.N C.sc tg with
        | some sl => ofE (evalI g cf n C (isTup tg) iter σ) σ h fun its h' => loopF (bindS sl) (evalB n C body) its σ h'
        | none => .stuck
      else .stuck
    | .Raise (some (.Call (.Name x _) [] [] _)) none _ => if C.calm && plainN x && glB C.sc x && (g.excs.lookup x).isSome then .exc ⟨x, []⟩ σ h else .stuck
    | .Try body [.ExceptHandler (some (.Name c _)) (some nm) (b₀ :: suite) _] [] [] _ =>
      if C.calm && (C.sc.names.lookup nm == some .local) && plainN c && glB C.sc c && clsOf g c then match slot C.N nm with
        | some i => match evalB n C body σ h with
          | .exc e σ1 h1 => match isInst g (.exc e) c h1 with
            | some true => match evalB n ⟨C.N, C.sc, false⟩ (b₀ :: suite) (σ1.set i (some (.exc e))) h1 with
              | .nx σ2 h2 => .nx (scrub (σ2.set i none)) h2
              | .bk σ2 h2 => .bk (scrub (σ2.set i none)) h2
              | .ct σ2 h2 => .ct (scrub (σ2.set i none)) h2
              | .rt v h2 => if isExc v then .stuck else .rt v h2
              | _ => .stuck
            | some false => .exc e σ1 h1
            | none => .stuck
          | r => r
        | none => .stuck
      else .stuck
    | _ => .stuck
def evalB : Nat → Ctx → List Stmt → Env → MH → ResS
  | 0, _, _, _, _ => .stuck
  | n + 1, C, ss, σ, h => match ss with
    | [] => .nx σ h
    | [s] => evalS n C s σ h
    | s :: r => match evalS n C s σ h with
      | .nx σ1 h1 => evalB n C r σ1 h1
      | x => x
end
end

/-! ### calls -/
/-- a call's end: what is not handed back is let go -/
def fin (keep : Bool) (L : Nat) (v : Val) (h : MH) : Res Val :=
  if keep then .ok v h
  else match v with
    | .m i => if i < L then .ok v (h.take L) else match h[i]? with
      | some (.lst xs) => .ok (.d (.lst xs)) (h.take L)
      | _ => .stuck
    | .d x => .ok (.d x) (h.take L)
    | .scr ns => .ok (.scr ns) (h.take L)
    | .exc _ => .stuck
def startE (N : List Str) (vs : List Val) : Env := vs.map some ++ List.replicate (N.length - vs.length) none
def fuel : Nat := 200
def callF (g : G) : Nat → Str → List Val → M Val
  | 0, _, _ => stk
  | d + 1, f, vs => fun h => match g.fns.lookup f with
    | none => .stuck
    | some fd => if vs.length = fd.ps.length then match evalB g (callF g d) fuel ⟨fd.N, fd.sc, true⟩ fd.body (startE fd.N vs) h with
        | .rt v h' => fin fd.keep h.length v h'
        | .nx _ h' => fin fd.keep h.length (.d .non) h'
        | .exc e _ h' => .exc e (h'.take h.length)
        | _ => .stuck
      else .stuck
end MI
set_option maxRecDepth 100000
namespace MI
open PySem PySem.Spec PyProof.Rows L2
variable {X : Cx} {K : PySem.W.Frag} {xa : XA}

/-! ### readings -/
theorem PE.imp {e : Expr} {t t' : TE} (h : PE X e t) (k : ∀ σ H Q, t' σ H Q → t σ H Q) : PE X e t' := ⟨fun pins s σ H Q I q => h.run pins s σ H Q I (k σ H Q q)⟩
theorem PT.imp {e : Expr} {t t' : TT} (h : PT X e t) (k : ∀ σ H Q, t' σ H Q → t σ H Q) : PT X e t' := ⟨fun pins s σ H Q I q => h.run pins s σ H Q I (k σ H Q q)⟩
theorem PA.imp {e : List Expr} {t t' : TA} (h : PA X e t) (k : ∀ σ H Q, t' σ H Q → t σ H Q) : PA X e t' := ⟨fun pos pins s σ H Q I q => h.run pos pins s σ H Q I (k σ H Q q)⟩
theorem PSs.imp {e : List Stmt} {t t' : TS} (h : PSs X e t) (k : ∀ D σ H, t' D σ H → t D σ H) : PSs X e t' := ⟨fun pins s σ H D I q => h.run pins s σ H D I (k D σ H q)⟩
theorem PS.imp {e : Stmt} {t t' : TS} (h : PS X e t) (k : ∀ D σ H, t' D σ H → t D σ H) : PS X e t' := ⟨fun pins s σ H D I q => h.run pins s σ H D I (k D σ H q)⟩
theorem PE.no {e : Expr} {t : TE} (k : ∀ σ H Q, ¬ t σ H Q) : PE X e t := ⟨fun pins s σ H Q I q => (k σ H Q q).elim⟩
theorem PT.no {e : Expr} {t : TT} (k : ∀ σ H Q, ¬ t σ H Q) : PT X e t := ⟨fun pins s σ H Q I q => (k σ H Q q).elim⟩

/-- an error that flies, as the layer tells it -/
def ExcV (mg : Str → Option Value) (Z : L2.Hp) (e : Exc) (c : Value) (d : Option Addr) : Prop := mg e.cls = some c ∧ e.fs = [] ∧ d = none
def PQ (K : PySem.W.Frag) (xa : XA) (Q : VK) : Val → S → Prop := fun v' s' => ∀ v H', Good K s' H' → RepV K xa s' v' v → Q v H'
def PXE (K : PySem.W.Frag) (mg : Str → Option Value) (E : XK) : Exc → S → Prop := fun e s' => ∀ H' c d, Good K s' H' → ExcV mg s'.Z e c d → E c d H'
/-- an expression's reading by what it evaluates to -/
def tI (K : PySem.W.Frag) (mg : Str → Option Value) (xa : XA) (W : WX) (f : Env → M Val) : TE := fun σ H Q => ∃ σ' s, EnvR K xa s σ' σ ∧ Good K s H ∧
  Out s (f σ' s.h) (PQ K xa Q) (PXE K mg fun c d H' => W c d σ H')
def tIT (K : PySem.W.Frag) (mg : Str → Option Value) (xa : XA) (W : WX) (f : Env → M Bool) : TT := fun σ H Q => ∃ σ' s, EnvR K xa s σ' σ ∧ Good K s H ∧
  Out s (f σ' s.h) (fun b s' => ∀ H', Good K s' H' → Q b H') (PXE K mg fun c d H' => W c d σ H')
section
variable {mg : Str → Option Value} {W : WX} {σ : L2.St} {H : L2.Hp} {Q : VK}
/-- behind a part -/
theorem tI_bnd {fa : Env → M Val} {k : Env → Val → M Val} {R : VK} (h : tI K mg xa W (fun σ' => bnd (fa σ') (k σ')) σ H Q)
    (c : ∀ σ' s1 x' x H1, EnvR K xa s1 σ' σ → Good K s1 H1 → RepV K xa s1 x' x → Out s1 (k σ' x' s1.h) (PQ K xa Q) (PXE K mg fun c d H' => W c d σ H') → R x H1) : tI K mg xa W fa σ H R := by
  obtain ⟨σ', s, e, g, o⟩ := h
  exact ⟨σ', s, e, g, (Out.bnd o).imp (fun x' s1 ex o1 v H1 g1 r1 => c σ' s1 x' v H1 (e.mono ex) g1 r1 o1) fun _ _ _ z => z⟩
theorem out_bnd {σ' : Env} {s : S} {fa : Env → M Val} {k : Val → M Val} {R : VK} (e : EnvR K xa s σ' σ) (g : Good K s H) (o : Out s (bnd (fa σ') k s.h) (PQ K xa Q) (PXE K mg fun c d H' => W c d σ H'))
    (c : ∀ s1 x' x H1, Ext s s1 → EnvR K xa s1 σ' σ → Good K s1 H1 → RepV K xa s1 x' x → Out s1 (k x' s1.h) (PQ K xa Q) (PXE K mg fun c d H' => W c d σ H') → R x H1) : tI K mg xa W fa σ H R :=
  ⟨σ', s, e, g, (Out.bnd o).imp (fun x' s1 ex o1 v H1 g1 r1 => c s1 x' v H1 ex (e.mono ex) g1 r1 o1) fun _ _ _ z => z⟩
theorem outT_bnd {α : Type} {P : α → S → Prop} {σ' : Env} {s : S} {fa : Env → M Val} {k : Val → M α} {R : VK} (e : EnvR K xa s σ' σ) (g : Good K s H) (o : Out s (bnd (fa σ') k s.h) P (PXE K mg fun c d H' => W c d σ H'))
    (c : ∀ s1 x' x H1, Ext s s1 → EnvR K xa s1 σ' σ → Good K s1 H1 → RepV K xa s1 x' x → Out s1 (k x' s1.h) P (PXE K mg fun c d H' => W c d σ H') → R x H1) : tI K mg xa W fa σ H R :=
  ⟨σ', s, e, g, (Out.bnd o).imp (fun x' s1 ex o1 v H1 g1 r1 => c s1 x' v H1 ex (e.mono ex) g1 r1 o1) fun _ _ _ z => z⟩
theorem outB_bnd {α : Type} {P : α → S → Prop} {σ' : Env} {s : S} {fa : Env → M Bool} {k : Bool → M α} {R : Bool → L2.Hp → Prop} (e : EnvR K xa s σ' σ) (g : Good K s H) (o : Out s (bnd (fa σ') k s.h) P (PXE K mg fun c d H' => W c d σ H'))
    (c : ∀ s1 b H1, Ext s s1 → EnvR K xa s1 σ' σ → Good K s1 H1 → Out s1 (k b s1.h) P (PXE K mg fun c d H' => W c d σ H') → R b H1) : tIT K mg xa W fa σ H R :=
  ⟨σ', s, e, g, (Out.bnd o).imp (fun b s1 ex o1 H1 g1 => c s1 b H1 ex (e.mono ex) g1 o1) fun _ _ _ z => z⟩
theorem Out.rd {α : Type} {s : S} {f : MH → Option α} {P : α → S → Prop} {X : Exc → S → Prop} (h : Out s (rd f s.h) P X) : ∃ a, f s.h = some a ∧ ∀ m' Z', Ext s ⟨m', Z', s.h, s.F⟩ → P a ⟨m', Z', s.h, s.F⟩ := by
  unfold MI.rd at h
  cases e : f s.h with
  | none => rw [e] at h; exact h.elim
  | some a => rw [e] at h; exact ⟨a, rfl, h⟩
theorem Out.ret {α : Type} {s : S} {a : α} {P : α → S → Prop} {X : Exc → S → Prop} (h : Out s (ret a s.h) P X) : ∀ m' Z', Ext s ⟨m', Z', s.h, s.F⟩ → P a ⟨m', Z', s.h, s.F⟩ := h
theorem ext_self (s : S) : Ext s ⟨s.m, s.Z, s.h, s.F⟩ := Ext.refl s
end

/-! ### operators by values -/
def OpI (K : PySem.W.Frag) (xa : XA) (r : R2) (f : Val → Val → MH → Option Val) : Prop :=
  ∀ (s : S) (H : L2.Hp) (x y : V) (x' y' z' : Val), Good K s H → RepV K xa s x' x → RepV K xa s y' y → f x' y' s.h = some z' → ∀ Q : VK,
    (∀ Z' H' z, ExH s.Z Z' → Good K ⟨s.m, Z', s.h, s.F⟩ H' → RepV K xa ⟨s.m, Z', s.h, s.F⟩ z' z → Q z H') → r x y H Q
theorem OpR.or {f : Value → Value → Sem Value} {r r' : R2} (h : OpR X f r) (h' : OpR X f r') : OpR X f (fun x y H Q => r x y H Q ∨ r' x y H Q) := by
  intro pins s σ H x y v u Q I rx ry q
  rcases q with q | q
  · exact h pins s σ H x y v u Q I rx ry q
  · exact h' pins s σ H x y v u Q I rx ry q
theorem OpR.no {f : Value → Value → Sem Value} : OpR X f (fun _ _ _ _ => False) := fun _ _ _ _ _ _ _ _ _ _ _ _ q => q.elim
theorem gd_some {α : Type} {b : Bool} {a z : α} (h : gd b a = some z) : b = true ∧ a = z := by
  cases b with
  | false => cases h
  | true => exact ⟨rfl, Option.some.inj h⟩
theorem big_ok {i : Int} (h : big i = true) : -(2 ^ 64) < i ∧ i < 2 ^ 64 := by
  unfold big at h
  simpa using h
theorem sz_ok {n : Nat} (h : n ≤ 16777216) : n ≤ sizeLine := by rw [sizeLine_eq]; exact h
theorem rep_int {s : S} {i : Int} {v : V} : RepV K xa s (.d (.int i)) v ↔ v = .int i := by show Rep K s.Z (.int i) v ↔ _; unfold Rep; rfl
theorem rep_str {s : S} {i : Str} {v : V} : RepV K xa s (.d (.str i)) v ↔ v = .str i := by show Rep K s.Z (.str i) v ↔ _; unfold Rep; rfl
theorem rep_bl {s : S} {i : Bool} {v : V} : RepV K xa s (.d (.bl i)) v ↔ v = .bl i := by show Rep K s.Z (.bl i) v ↔ _; unfold Rep; rfl
theorem rep_non {s : S} {v : V} : RepV K xa s (.d .non) v ↔ v = .non := by show Rep K s.Z .non v ↔ _; unfold Rep; rfl
theorem rep_tup {s : S} {xs : List D} {v : V} : RepV K xa s (.d (.tup xs)) v ↔ ∃ a vs, v = .ref a ∧ SqT K s.Z a vs ∧ RepL K s.Z xs vs := by show Rep K s.Z (.tup xs) v ↔ _; unfold Rep; rfl
theorem rep_lst {s : S} {xs : List D} {v : V} : RepV K xa s (.d (.lst xs)) v ↔ ∃ a vs, v = .ref a ∧ s.Z a = some (.lst vs) ∧ RepL K s.Z xs vs := by show Rep K s.Z (.lst xs) v ↔ _; unfold Rep; rfl
theorem rep_ed {s : S} {v : V} : RepV K xa s (.d .edict) v ↔ ∃ a, v = .ref a ∧ s.Z a = some (.dK []) := by show Rep K s.Z .edict v ↔ _; unfold Rep; rfl

def NoV : R2 := fun _ _ _ _ => False
def rBin (K : PySem.W.Frag) : Operator → R2
  | .Add => fun x y H Q => rI0 (fun i j => .int (i + j)) x y H Q ∨ (∃ i j, x = .str i ∧ y = .str j ∧ i.length + j.length ≤ sizeLine ∧ Q (.str (i ++ j)) H) ∨ rCatT K x y H Q ∨ rCat x y H Q
  | .Sub => rI0 fun i j => .int (i - j)
  | .Mult => rI CMul fun i j => .int (i * j)
  | .FloorDiv => rI CDiv fun i j => .int (i / j)
  | .Mod => rI (fun _ j => 0 < j) fun i j => .int (i % j)
  | .LShift => rI CPow fun i j => .int (i * 2 ^ j.toNat)
  | .RShift => rI (fun _ j => 0 ≤ j) fun i j => .int (i / 2 ^ j.toNat)
  | .Pow => rI CPow fun i j => .int (i ^ j.toNat)
  | .BitAnd => rI0 fun i j => .int (Builtin.bitAnd i j)
  | .BitOr => rI0 fun i j => .int (Builtin.bitOr i j)
  | .BitXor => rI0 fun i j => .int (Builtin.bitXor i j)
  | _ => NoV
theorem opr_bin (op : Operator) : OpR X (binaryOp op) (rBin X.K op) := by
  cases op with
  | Add => exact OpR.or op_add (OpR.or op_add_str (OpR.or op_catT op_cat))
  | Sub => exact op_sub
  | Mult => exact op_mul
  | FloorDiv => exact op_fdiv
  | Mod => exact op_mod
  | LShift => exact op_shl
  | RShift => exact op_shr
  | Pow => exact op_pow
  | BitAnd => exact op_and
  | BitOr => exact op_or
  | BitXor => exact op_xor
  | MatMult => exact OpR.no
  | Div => exact OpR.no
theorem fin_d {s : S} {H : L2.Hp} {Q : VK} {z' : Val} (g : Good K s H) {z : V} (q : ∀ Z' H' z, ExH s.Z Z' → Good K ⟨s.m, Z', s.h, s.F⟩ H' → RepV K xa ⟨s.m, Z', s.h, s.F⟩ z' z → Q z H') (r : RepV K xa s z' z) : Q z H :=
  q s.Z H z (ExH.refl _) g r
theorem opi_bin (op : Operator) : OpI K xa (rBin K op) (pBin op) := by
  intro s H x y x' y' z' g rx ry e Q q
  unfold pBin at e
  split at e
  · obtain rfl := rep_int.mp rx; obtain rfl := rep_int.mp ry; cases e
    exact .inl ⟨_, _, rfl, rfl, fin_d g q (rep_int.mpr rfl)⟩
  · obtain rfl := rep_str.mp rx; obtain rfl := rep_str.mp ry
    obtain ⟨h, rfl⟩ := gd_some e
    exact .inr (.inl ⟨_, _, rfl, rfl, sz_ok (of_decide_eq_true h), fin_d g q (rep_str.mpr rfl)⟩)
  · rename_i a xs ys
    obtain ⟨p, vs, rfl, h1, h2⟩ := rep_tup.mp rx
    obtain ⟨p2, ws, rfl, k1, k2⟩ := rep_tup.mp ry
    obtain ⟨h, rfl⟩ := gd_some e
    have hl := of_decide_eq_true h
    have l1 := h2.len
    have l2 := k2.len
    refine .inr (.inr (.inl ⟨p, p2, vs, ws, rfl, rfl, exT g.ex h1, exT g.ex k1, fun z => ?_, sz_ok (by rw [l1, l2, List.length_cons]; exact hl), fun z => ?_, fun z u hu => ?_⟩))
    · rw [z] at l1; simp at l1
    · have : ys = [] := by
        rw [z] at l2
        cases ys with
        | nil => rfl
        | cons _ _ => simp at l2
      subst this
      rw [List.append_nil] at q
      exact fin_d g q rx
    · obtain ⟨g', ez, _⟩ := g.laid (o := .tup (vs ++ ws)) hu
      exact q _ _ _ ez g' (rep_tup.mpr ⟨u, _, rfl, SqT.of upd_same, (h2.append k2).mono ez⟩)
  · rename_i xs ys
    obtain ⟨p, vs, rfl, h1, h2⟩ := rep_lst.mp rx
    obtain ⟨p2, ws, rfl, k1, k2⟩ := rep_lst.mp ry
    obtain ⟨h, rfl⟩ := gd_some e
    have hl := of_decide_eq_true h
    refine .inr (.inr (.inr ⟨p, p2, vs, ws, rfl, rfl, g.ex _ _ h1, g.ex _ _ k1, sz_ok (by rw [h2.len, k2.len]; exact hl), fun u hu => ?_⟩))
    obtain ⟨g', ez, _⟩ := g.laid (o := .lst (vs ++ ws)) hu
    exact q _ _ _ ez g' (rep_lst.mpr ⟨u, _, rfl, upd_same, (h2.append k2).mono ez⟩)
  · obtain rfl := rep_int.mp rx; obtain rfl := rep_int.mp ry; cases e
    exact ⟨_, _, rfl, rfl, fin_d g q (rep_int.mpr rfl)⟩
  · obtain rfl := rep_int.mp rx; obtain rfl := rep_int.mp ry
    obtain ⟨h, rfl⟩ := gd_some e
    refine ⟨_, _, rfl, rfl, ?_, fin_d g q (rep_int.mpr rfl)⟩
    rcases Bool.or_eq_true_iff.mp h with h | h
    · exact .inl (big_ok h)
    · exact .inr (big_ok h)
  · obtain rfl := rep_int.mp rx; obtain rfl := rep_int.mp ry
    obtain ⟨h, rfl⟩ := gd_some e
    simp only [Bool.and_eq_true, decide_eq_true_eq] at h
    exact ⟨_, _, rfl, rfl, h, fin_d g q (rep_int.mpr rfl)⟩
  · obtain rfl := rep_int.mp rx; obtain rfl := rep_int.mp ry
    obtain ⟨h, rfl⟩ := gd_some e
    exact ⟨_, _, rfl, rfl, of_decide_eq_true h, fin_d g q (rep_int.mpr rfl)⟩
  · obtain rfl := rep_int.mp rx; obtain rfl := rep_int.mp ry
    obtain ⟨h, rfl⟩ := gd_some e
    simp only [Bool.and_eq_true, decide_eq_true_eq] at h
    exact ⟨_, _, rfl, rfl, ⟨h.1.1, h.1.2, h.2⟩, fin_d g q (rep_int.mpr rfl)⟩
  · obtain rfl := rep_int.mp rx; obtain rfl := rep_int.mp ry
    obtain ⟨h, rfl⟩ := gd_some e
    exact ⟨_, _, rfl, rfl, of_decide_eq_true h, fin_d g q (rep_int.mpr rfl)⟩
  · obtain rfl := rep_int.mp rx; obtain rfl := rep_int.mp ry
    obtain ⟨h, rfl⟩ := gd_some e
    simp only [Bool.and_eq_true, decide_eq_true_eq] at h
    exact ⟨_, _, rfl, rfl, ⟨h.1.1, h.1.2, h.2⟩, fin_d g q (rep_int.mpr rfl)⟩
  · obtain rfl := rep_int.mp rx; obtain rfl := rep_int.mp ry; cases e
    exact ⟨_, _, rfl, rfl, fin_d g q (rep_int.mpr rfl)⟩
  · obtain rfl := rep_int.mp rx; obtain rfl := rep_int.mp ry; cases e
    exact ⟨_, _, rfl, rfl, fin_d g q (rep_int.mpr rfl)⟩
  · obtain rfl := rep_int.mp rx; obtain rfl := rep_int.mp ry; cases e
    exact ⟨_, _, rfl, rfl, fin_d g q (rep_int.mpr rfl)⟩
  · cases e
end MI
set_option maxRecDepth 100000
namespace MI
open PySem PySem.Spec PyProof.Rows L2
variable {X : Cx} {K : PySem.W.Frag} {xa : XA}

/-! ### comparisons -/
theorem op_isBg : OpR X (compareOp .Is) (fun x y H Q => ∃ b, y = .bl b ∧ Q (.bl (decide (x = .bl b))) H) := by
  intro pins s σ H x y v u Q I rx ry h
  obtain ⟨b, rfl, q⟩ := h
  cases ry
  cases x with
  | bl c => cases rx; exact is_bool (fin_bl I q (by cases c <;> cases b <;> rfl))
  | non => cases rx; exact wpAny_pure (fin_bl I q (by simp))
  | int i => obtain ⟨t, rfl⟩ := rx; exact wpAny_pure (fin_bl I q (by simp))
  | str i => obtain ⟨t, rfl⟩ := rx; exact wpAny_pure (fin_bl I q (by simp))
  | byt i => obtain ⟨t, rfl⟩ := rx; exact wpAny_pure (fin_bl I q (by simp))
  | flt i => obtain ⟨t, rfl⟩ := rx; exact wpAny_pure (fin_bl I q (by simp))
  | ref i => cases rx; exact wpAny_pure (fin_bl I q (by simp))
  | ty i => cases rx; exact wpAny_pure (fin_bl I q (by simp))
def rCmp (K : PySem.W.Frag) : CmpOp → R2
  | .Eq => rEq
  | .NotEq => rNe
  | .Lt => rI0 fun i j => .bl (decide (i < j))
  | .LtE => rI0 fun i j => .bl (decide (i ≤ j))
  | .Gt => rI0 fun i j => .bl (decide (j < i))
  | .GtE => rI0 fun i j => .bl (decide (j ≤ i))
  | .Is => fun x y H Q => (y = .non ∧ Q (.bl (decide (x = .non))) H) ∨ (∃ b, y = .bl b ∧ Q (.bl (decide (x = .bl b))) H)
  | .IsNot => fun x y H Q => y = .non ∧ Q (.bl (!decide (x = .non))) H
  | .In => fun x y H Q => (∃ i j, x = .str i ∧ y = .str j ∧ Q (.bl (!(Builtin.Str.occurrences j i 0 j.length 1).isEmpty)) H) ∨ rIn K false x y H Q
  | .NotIn => fun x y H Q => (∃ i j, x = .str i ∧ y = .str j ∧ Q (.bl (!(!(Builtin.Str.occurrences j i 0 j.length 1).isEmpty))) H) ∨ rIn K true x y H Q
theorem opr_cmp (op : CmpOp) : OpR X (compareOp op) (rCmp X.K op) := by
  cases op with
  | Eq => exact op_eq
  | NotEq => exact op_ne
  | Lt => exact op_lt
  | LtE => exact op_le
  | Gt => exact op_gt
  | GtE => exact op_ge
  | Is => exact OpR.or op_isN op_isBg
  | IsNot => exact op_notN
  | In => exact OpR.or op_in_str op_in_seq
  | NotIn => exact OpR.or op_notIn_str op_notIn_seq
theorem rep_scal {s : S} {a b : D} {x y : V} (rx : RepV K xa s (.d a) x) (ry : RepV K xa s (.d b) y) (h : scalD a b = true) : scal x y = true ∧ decide (x = y) = eqD a b := by
  have rx : Rep K s.Z a x := rx
  have ry : Rep K s.Z b y := ry
  cases a <;> cases b <;> first
    | exact absurd (show false = true from h) Bool.false_ne_true
    | (unfold Rep at rx ry; subst rx; subst ry; refine ⟨rfl, ?_⟩; simp [eqD, Bool.beq_eq_decide_eq])
/-- the items of a list or a tuple -/
theorem rep_items {s : S} {H : L2.Hp} {x' : Val} {x : V} {xs : List D} (g : Good K s H) (r : RepV K xa s x' x) (e : items x' s.h = some xs) :
    ∃ p vs, x = .ref p ∧ (SqL K H p vs ∨ SqT K H p vs) ∧ RepL K s.Z xs vs := by
  unfold items at e
  split at e
  · cases e
    obtain ⟨p, vs, rfl, h1, h2⟩ := rep_tup.mp r
    exact ⟨p, vs, rfl, .inr (exT g.ex h1), h2⟩
  · cases e
    obtain ⟨p, vs, rfl, h1, h2⟩ := rep_lst.mp r
    exact ⟨p, vs, rfl, .inl (SqL.of (g.ex _ _ h1)), h2⟩
  · cases e
    obtain ⟨p, rfl, h1⟩ := r
    exact ⟨p, _, rfl, .inl (exL g.ex h1), .ints _⟩
  · rename_i i
    obtain ⟨rfl, hi⟩ := r
    split at e
    · rename_i ys e2
      cases e
      obtain ⟨_, vs, h1, h2⟩ := g.obj i _ e2
      exact ⟨_, vs, rfl, .inl (SqL.of h1), h2⟩
    · cases e
  · cases e
theorem inD_ok {s : S} {H : L2.Hp} {a : D} {x y : V} {y' : Val} {xs : List D} (g : Good K s H) (rx : RepV K xa s (.d a) x) (ry : RepV K xa s y' y) (e : items y' s.h = some xs) (h : (a.flat && xs.all D.flat) = true) (neg : Bool) {Q : VK}
    (q : Q (.bl (if neg then !inD a xs else inD a xs)) H) : rIn K neg x y H Q := by
  obtain ⟨h1, h2⟩ := Bool.and_eq_true_iff.mp h
  obtain ⟨p, vs, rfl, hp, r⟩ := rep_items g ry e
  have rx' : Rep K s.Z a x := rx
  refine ⟨p, vs, rfl, hp, rx'.flat h1, r.flat h2, ?_⟩
  rw [RepL.inD rx' h1 r h2]
  exact q
theorem opi_cmp (op : CmpOp) : OpI K xa (rCmp K op) (pCmp op) := by
  intro s H x y x' y' z' g rx ry e Q q
  unfold pCmp at e
  split at e
  · obtain ⟨h, rfl⟩ := gd_some e
    obtain ⟨h1, h2⟩ := rep_scal rx ry h
    exact ⟨h1, fin_d g q (rep_bl.mpr (by rw [h2]))⟩
  · obtain ⟨h, rfl⟩ := gd_some e
    obtain ⟨h1, h2⟩ := rep_scal rx ry h
    exact ⟨h1, fin_d g q (rep_bl.mpr (by rw [h2]))⟩
  · obtain rfl := rep_int.mp rx; obtain rfl := rep_int.mp ry; cases e
    exact ⟨_, _, rfl, rfl, fin_d g q (rep_bl.mpr rfl)⟩
  · obtain rfl := rep_int.mp rx; obtain rfl := rep_int.mp ry; cases e
    exact ⟨_, _, rfl, rfl, fin_d g q (rep_bl.mpr rfl)⟩
  · obtain rfl := rep_int.mp rx; obtain rfl := rep_int.mp ry; cases e
    exact ⟨_, _, rfl, rfl, fin_d g q (rep_bl.mpr rfl)⟩
  · obtain rfl := rep_int.mp rx; obtain rfl := rep_int.mp ry; cases e
    exact ⟨_, _, rfl, rfl, fin_d g q (rep_bl.mpr rfl)⟩
  · rename_i a
    obtain rfl := rep_non.mp ry
    cases e
    refine .inl ⟨rfl, fin_d g q (rep_bl.mpr ?_)⟩
    have rx : Rep K s.Z a x := rx
    cases a <;> unfold Rep at rx <;> first
      | (subst rx; simp)
      | (obtain ⟨p, vs, rfl, _⟩ := rx; simp)
      | (obtain ⟨p, rfl, _⟩ := rx; simp)
  · rename_i a b
    obtain rfl := rep_bl.mp ry
    cases e
    refine .inr ⟨_, rfl, fin_d g q (rep_bl.mpr ?_)⟩
    have rx : Rep K s.Z a x := rx
    cases a <;> unfold Rep at rx <;> first
      | (subst rx; simp [isB, Bool.beq_eq_decide_eq])
      | (obtain ⟨p, vs, rfl, _⟩ := rx; simp [isB])
      | (obtain ⟨p, rfl, _⟩ := rx; simp [isB])
  · rename_i a
    obtain rfl := rep_non.mp ry
    cases e
    refine ⟨rfl, fin_d g q (rep_bl.mpr ?_)⟩
    have rx : Rep K s.Z a x := rx
    cases a <;> unfold Rep at rx <;> first
      | (subst rx; simp)
      | (obtain ⟨p, vs, rfl, _⟩ := rx; simp)
      | (obtain ⟨p, rfl, _⟩ := rx; simp)
  · obtain rfl := rep_str.mp rx; obtain rfl := rep_str.mp ry; cases e
    exact .inl ⟨_, _, rfl, rfl, fin_d g q (rep_bl.mpr rfl)⟩
  · obtain rfl := rep_str.mp rx; obtain rfl := rep_str.mp ry; cases e
    exact .inl ⟨_, _, rfl, rfl, fin_d g q (rep_bl.mpr rfl)⟩
  · split at e
    · rename_i e2
      obtain ⟨h, rfl⟩ := gd_some e
      exact .inr (inD_ok g rx ry e2 h false (fin_d g q (rep_bl.mpr rfl)))
    · cases e
  · split at e
    · rename_i e2
      obtain ⟨h, rfl⟩ := gd_some e
      exact .inr (inD_ok g rx ry e2 h true (fin_d g q (rep_bl.mpr rfl)))
    · cases e
  · cases e
theorem cmp_bl {op : CmpOp} {x y z : Val} {h : MH} (e : pCmp op x y h = some z) : ∃ b, z = .d (.bl b) := by
  unfold pCmp at e
  split at e <;> first
    | (obtain ⟨_, rfl⟩ := gd_some e; exact ⟨_, rfl⟩)
    | (cases e; exact ⟨_, rfl⟩)
    | (split at e <;> first | (obtain ⟨_, rfl⟩ := gd_some e; exact ⟨_, rfl⟩) | cases e)
    | cases e

/-! ### truth -/
theorem rep_truth {s : S} {H : L2.Hp} {x' : Val} {x : V} {k : Bool} (g : Good K s H) (r : RepV K xa s x' x) (e : truth x' s.h = some k) : TruV K x H k := by
  unfold truth at e
  split at e
  · cases e; obtain rfl := rep_non.mp r; rfl
  · cases e; obtain rfl := rep_bl.mp r; rfl
  · cases e; obtain rfl := rep_int.mp r; rfl
  · rename_i z
    obtain rfl := rep_str.mp r
    split at e
    · rename_i hz
      cases e
      refine ⟨sz_ok hz, ?_⟩
      show (z.length != 0) = ((z.length : Int) != 0)
      rw [Bool.eq_iff_iff]
      simp
    · cases e
  · cases e
    obtain ⟨p, vs, rfl, h1, h2⟩ := rep_tup.mp r
    exact .inr (.inl ⟨vs, exT g.ex h1, by rw [h2.isEmpty]⟩)
  · cases e
    obtain ⟨p, vs, rfl, h1, h2⟩ := rep_lst.mp r
    exact .inl ⟨vs, SqL.of (g.ex _ _ h1), by rw [h2.isEmpty]⟩
  · cases e
    obtain ⟨p, rfl, h1⟩ := rep_ed.mp r
    exact .inr (.inr ⟨[], g.ex _ _ h1, rfl⟩)
  · rename_i i
    obtain ⟨rfl, hi⟩ := r
    split at e
    · rename_i ys e2
      cases e
      obtain ⟨_, vs, h1, h2⟩ := g.obj i _ e2
      exact .inl ⟨vs, SqL.of h1, by rw [h2.isEmpty]⟩
    · rename_i kvs e2
      cases e
      obtain ⟨_, ws, h1, h2⟩ := g.obj i _ e2
      refine .inr (.inr ⟨ws, h1, ?_⟩)
      cases kvs with
      | nil => have h2 : ws = [] := h2; rw [h2] <;> rfl
      | cons p r => obtain ⟨q, t, rfl, _⟩ := h2; rfl
    · cases e
  · cases e

/-! ### subscripts, slices -/
theorem opi_ix : OpI K xa (rIx K) pIx := by
  intro s H x y x' y' z' g rx ry e Q q
  unfold pIx at e
  split at e
  · rename_i z i
    obtain rfl := rep_str.mp rx; obtain rfl := rep_int.mp ry
    split at e
    · rename_i hz
      obtain ⟨c, e1, rfl⟩ := Option.map_eq_some_iff.mp e
      exact .inr (.inr ⟨z, i, c, rfl, rfl, sz_ok hz, e1, fin_d g q (rep_str.mpr rfl)⟩)
    · cases e
  · rename_i x' i _
    obtain rfl := rep_int.mp ry
    split at e
    · rename_i xs e1
      obtain ⟨d, e2, rfl⟩ := Option.map_eq_some_iff.mp e
      obtain ⟨p, vs, rfl, hp, r⟩ := rep_items g rx e1
      have hl := r.len
      unfold L2.atI at e2
      obtain ⟨j, ej, e3⟩ := Option.bind_eq_some_iff.mp e2
      obtain ⟨v, e4, r4⟩ := r.get e3
      have ha : L2.atI vs i = some v := by
        unfold L2.atI
        rw [hl, ej]
        exact e4
      rcases hp with hp | hp
      · exact .inl ⟨p, vs, i, v, rfl, rfl, hp, ha, fin_d g q r4⟩
      · exact .inr (.inl ⟨p, vs, i, v, rfl, rfl, hp, ha, fin_d g q r4⟩)
    · cases e
  · cases e
def rSlA (K : PySem.W.Frag) : V → Option Int → Option Int → L2.Hp → VK → Prop := fun x lo hi H Q => rSlS x lo hi H Q ∨ rSlT K x lo hi H Q ∨ rSlL K x lo hi H Q
theorem slr_any : SlR X (rSlA X.K) := SlR.or sl_str (SlR.or sl_tup sl_list)
theorem RepL.cut {Z : L2.Hp} {xs : List D} {vs : List V} (h : RepL K Z xs vs) (lo hi : Option Int) : RepL K Z (cutL xs lo hi) (cutV vs lo hi) := by
  unfold cutL cutV
  rw [h.len]
  exact (h.drop _).take _
theorem sli_any {s : S} {H : L2.Hp} {x : V} {x' z' : Val} {lo hi : Option Int} (g : Good K s H) (rx : RepV K xa s x' x) (e : cutD x' lo hi s.h = some z') {Q : VK}
    (q : ∀ Z' H' z, ExH s.Z Z' → Good K ⟨s.m, Z', s.h, s.F⟩ H' → RepV K xa ⟨s.m, Z', s.h, s.F⟩ z' z → Q z H') : rSlA K x lo hi H Q := by
  unfold cutD at e
  split at e
  · rename_i z
    obtain rfl := rep_str.mp rx
    split at e
    · rename_i hz
      cases e
      exact .inl ⟨z, rfl, sz_ok hz, fin_d g q (rep_str.mpr rfl)⟩
    · cases e
  · rename_i xs
    obtain ⟨p, vs, rfl, h1, h2⟩ := rep_tup.mp rx
    split at e
    · cases e
    · rename_i hn
      cases e
      refine .inr (.inl ⟨p, vs, rfl, exT g.ex h1, by rw [h2.len]; exact hn, fun u hu => ?_⟩)
      obtain ⟨g', ez, _⟩ := g.laid (o := .tup (cutV vs lo hi)) hu
      exact q _ _ _ ez g' (rep_tup.mpr ⟨u, _, rfl, SqT.of upd_same, (h2.cut lo hi).mono ez⟩)
  · rename_i x' hs ht
    obtain ⟨xs, e1, rfl⟩ := Option.map_eq_some_iff.mp e
    have hp : ∃ p vs, x = .ref p ∧ SqL K H p vs ∧ RepL K s.Z xs vs := by
      unfold items at e1
      split at e1
      · exact absurd rfl (ht _)
      · cases e1
        obtain ⟨p, vs, rfl, h1, h2⟩ := rep_lst.mp rx
        exact ⟨p, vs, rfl, SqL.of (g.ex _ _ h1), h2⟩
      · cases e1
        obtain ⟨p, rfl, h1⟩ := rx
        exact ⟨p, _, rfl, exL g.ex h1, .ints _⟩
      · rename_i i
        obtain ⟨rfl, hi⟩ := rx
        split at e1
        · rename_i ys e2
          cases e1
          obtain ⟨_, vs, h1, h2⟩ := g.obj i _ e2
          exact ⟨_, vs, rfl, SqL.of h1, h2⟩
        · cases e1
      · cases e1
    obtain ⟨p, vs, rfl, h1, h2⟩ := hp
    refine .inr (.inr ⟨p, vs, rfl, h1, fun u hu => ?_⟩)
    obtain ⟨g', ez, _⟩ := g.laid (o := .lst (cutV vs lo hi)) hu
    exact q _ _ _ ez g' (rep_lst.mpr ⟨u, _, rfl, upd_same, (h2.cut lo hi).mono ez⟩)

/-! ### built-in calls -/
def RepVs (K : PySem.W.Frag) (xa : XA) (s : S) : List Val → List V → Prop
  | [], vs => vs = []
  | x :: xs, vs => ∃ v r, vs = v :: r ∧ RepV K xa s x v ∧ RepVs K xa s xs r
theorem RepVs.mono {s s' : S} (e : Ext s s') : ∀ {xs : List Val} {vs : List V}, RepVs K xa s xs vs → RepVs K xa s' xs vs
  | [], _, h => h
  | x :: xs, _, h => by
    obtain ⟨v, r, e1, e2, e3⟩ := h
    exact ⟨v, r, e1, e2.mono e, RepVs.mono e e3⟩
theorem RepVs.len {s : S} : ∀ {xs : List Val} {vs : List V}, RepVs K xa s xs vs → vs.length = xs.length
  | [], _, h => by have h : _ = [] := h; rw [h] <;> rfl
  | x :: xs, _, h => by
    obtain ⟨v, r, rfl, e2, e3⟩ := h
    simp [e3.len]
theorem RepVs.one {s : S} {x : Val} {vs : List V} (h : RepVs K xa s [x] vs) : ∃ v, vs = [v] ∧ RepV K xa s x v := by
  obtain ⟨v, r, rfl, e2, e3⟩ := h
  have e3 : r = [] := e3
  subst e3
  exact ⟨v, rfl, e2⟩
theorem RepVs.two {s : S} {x y : Val} {vs : List V} (h : RepVs K xa s [x, y] vs) : ∃ v w, vs = [v, w] ∧ RepV K xa s x v ∧ RepV K xa s y w := by
  obtain ⟨v, r, rfl, e2, e3⟩ := h
  obtain ⟨w, rfl, e4⟩ := e3.one
  exact ⟨v, w, rfl, e2, e4⟩
/-- data alone -/
theorem RepVs.toDs {s : S} : ∀ {xs : List Val} {vs : List V} {ds : List D}, RepVs K xa s xs vs → MI.toDs xs = some ds → RepL K s.Z ds vs ∧ ds.length = xs.length
  | [], _, _, h, e => by
    have h : _ = [] := h
    unfold MI.toDs at e
    cases e
    rw [h]
    exact ⟨.nil, rfl⟩
  | x :: xs, _, ds, h, e => by
    obtain ⟨v, r, rfl, e2, e3⟩ := h
    unfold MI.toDs at e
    cases x with
    | d x =>
      obtain ⟨l, e4, rfl⟩ := Option.map_eq_some_iff.mp e
      obtain ⟨h1, h2⟩ := RepVs.toDs e3 e4
      exact ⟨.cons e2 h1, by simp [h2]⟩
    | m i => cases e
    | scr ns => cases e
    | exc e' => cases e
end MI
set_option maxRecDepth 100000
namespace MI
open PySem PySem.Spec PyProof.Rows L2
variable {X : Cx} {K : PySem.W.Frag} {xa : XA}

theorem star_cons {e : Expr} {es : List Expr} {env : PySem.Env} (h : notStar e = true) : starEach (e :: es) env = (false, eval e env) :: starEach es env := by
  cases e <;> first | rfl | exact absurd (show false = true from h) Bool.false_ne_true
theorem star_plain : ∀ {es : List Expr} (h : noStar es = true) (pos : Pos) (env : PySem.Env), (backTo pos (starEach es env)).any (·.1) = false
  | [], _, pos, env => rfl
  | e :: es, h, pos, env => by
    unfold noStar at h
    rw [List.all_cons, Bool.and_eq_true] at h
    rw [star_cons h.1]
    show (false || (backTo pos (starEach es env)).any (·.1)) = false
    rw [star_plain h.2 pos env] <;> rfl
theorem noStar_cons {e : Expr} {es : List Expr} (h : noStar (e :: es) = true) : notStar e = true ∧ noStar es = true := by
  unfold noStar at h ⊢
  rw [List.all_cons, Bool.and_eq_true] at h
  exact h

/-! ### built-in functions -/
def CallI (K : PySem.W.Frag) (xa : XA) (r : List V → L2.Hp → VK → Prop) (f : List Val → MH → Option Val) : Prop :=
  ∀ (s : S) (H : L2.Hp) (vs : List V) (vs' : List Val) (z' : Val), Good K s H → RepVs K xa s vs' vs → f vs' s.h = some z' → ∀ Q : VK,
    (∀ Z' H' z, ExH s.Z Z' → Good K ⟨s.m, Z', s.h, s.F⟩ H' → RepV K xa ⟨s.m, Z', s.h, s.F⟩ z' z → Q z H') → r vs H Q
theorem intsD_rep {Z : L2.Hp} : ∀ {xs : List D} {vs : List V} {ns : List Int}, RepL K Z xs vs → intsD xs = some ns → vs = ns.map V.int
  | [], vs, ns, h, e => by unfold intsD at e; cases e; exact h.nil_inv
  | x :: xs, vs, ns, h, e => by
    obtain ⟨v, r, rfl, h1, h2⟩ := h.cons_inv
    cases x with
    | int i =>
      unfold intsD at e
      obtain ⟨l, e1, rfl⟩ := Option.map_eq_some_iff.mp e
      unfold Rep at h1
      rw [h1, intsD_rep h2 e1] <;> rfl
    | _ => unfold intsD at e; cases e
theorem blsD_rep {Z : L2.Hp} : ∀ {xs : List D} {vs : List V} {ns : List Bool}, RepL K Z xs vs → blsD xs = some ns → vs = ns.map V.bl
  | [], vs, ns, h, e => by unfold blsD at e; cases e; exact h.nil_inv
  | x :: xs, vs, ns, h, e => by
    obtain ⟨v, r, rfl, h1, h2⟩ := h.cons_inv
    cases x with
    | bl i =>
      unfold blsD at e
      obtain ⟨l, e1, rfl⟩ := Option.map_eq_some_iff.mp e
      unfold Rep at h1
      rw [h1, blsD_rep h2 e1] <;> rfl
    | _ => unfold blsD at e; cases e
theorem rep_items2 {s : S} {H : L2.Hp} {x' : Val} {x : V} {xs : List D} (g : Good K s H) (r : RepV K xa s x' x) (e : items x' s.h = some xs) :
    ∃ p vs, x = .ref p ∧ RepL K s.Z xs vs ∧ (SqL K H p vs ∨ SqT K s.Z p vs) := by
  unfold items at e
  split at e
  · cases e
    obtain ⟨p, vs, rfl, h1, h2⟩ := rep_tup.mp r
    exact ⟨p, vs, rfl, h2, .inr h1⟩
  · cases e
    obtain ⟨p, vs, rfl, h1, h2⟩ := rep_lst.mp r
    exact ⟨p, vs, rfl, h2, .inl (SqL.of (g.ex _ _ h1))⟩
  · cases e
    obtain ⟨p, rfl, h1⟩ := r
    exact ⟨p, _, rfl, .ints _, .inl (exL g.ex h1)⟩
  · rename_i i
    obtain ⟨rfl, hi⟩ := r
    split at e
    · rename_i ys e2
      cases e
      obtain ⟨_, vs, h1, h2⟩ := g.obj i _ e2
      exact ⟨_, vs, rfl, h2, .inl (SqL.of h1)⟩
    · cases e
  · cases e
theorem rep_len {s : S} {H : L2.Hp} {x' : Val} {x : V} {n : Nat} (g : Good K s H) (r : RepV K xa s x' x) (e : lenV x' s.h = some n) : LenV K x H n := by
  unfold lenV at e
  split at e
  · rename_i z
    obtain rfl := rep_str.mp r
    split at e
    · rename_i hz
      cases e
      exact ⟨sz_ok hz, rfl⟩
    · cases e
  · obtain ⟨xs, e1, rfl⟩ := Option.map_eq_some_iff.mp e
    obtain ⟨p, vs, rfl, hp, r2⟩ := rep_items g r e1
    rcases hp with hp | hp
    · exact .inl ⟨vs, hp, r2.len.symm⟩
    · exact .inr ⟨vs, hp, r2.len.symm⟩
/-- a built-in by its name: what it is, what its call asks -/
structure Blt (K : PySem.W.Frag) (xa : XA) (f : Str) (u : Value) (r : List V → L2.Hp → VK → Prop) : Prop where
  boot : bootBuiltins f = some u
  how : (∃ id, u = .builtin id) ∨ ∃ T, u = .type T
  call : ∀ X : Cx, X.K = K → X.calm = true → CallR X u r
  by' : CallI K xa r (pCall f)
theorem blt_len : Blt K xa "len" (.builtin "len") (fun xs H Q => ∃ (x : V) (n : Nat), xs = [x] ∧ LenV K x H n ∧ Q (.int n) H) := by
  refine ⟨by decide +kernel, .inl ⟨_, rfl⟩, fun X h hc => by subst h; exact call_len, ?_⟩
  intro s H vs vs' z' g rv e Q q
  unfold pCall at e
  rw [if_pos (by decide +kernel)] at e
  split at e
  · obtain ⟨n, e1, rfl⟩ := Option.map_eq_some_iff.mp e
    obtain ⟨v, rfl, r1⟩ := rv.one
    exact ⟨v, n, rfl, rep_len g r1 e1, fin_d g q (rep_int.mpr rfl)⟩
  · cases e
theorem blt_int : Blt K xa "int" (.type "int") (fun xs H Q => (∃ i, xs = [.int i] ∧ Q (.int i) H) ∨ ∃ k, xs = [.bl k] ∧ Q (.int (if k then 1 else 0)) H) := by
  refine ⟨by decide +kernel, .inr ⟨_, rfl⟩, fun X h hc => by subst h; exact call_int1, ?_⟩
  intro s H vs vs' z' g rv e Q q
  unfold pCall at e
  rw [if_neg (by decide +kernel), if_pos (by decide +kernel)] at e
  split at e
  · cases e
    obtain ⟨v, rfl, r1⟩ := rv.one
    obtain rfl := rep_int.mp r1
    exact .inl ⟨_, rfl, fin_d g q (rep_int.mpr rfl)⟩
  · cases e
    obtain ⟨v, rfl, r1⟩ := rv.one
    obtain rfl := rep_bl.mp r1
    exact .inr ⟨_, rfl, fin_d g q (rep_int.mpr rfl)⟩
  · cases e
theorem blt_abs : Blt K xa "abs" (.builtin "abs") (fun xs H Q => ∃ i, xs = [.int i] ∧ Q (.int (if i < 0 then -i else i)) H) := by
  refine ⟨by decide +kernel, .inl ⟨_, rfl⟩, fun X h hc => by subst h; exact call_abs, ?_⟩
  intro s H vs vs' z' g rv e Q q
  unfold pCall at e
  rw [if_neg (by decide +kernel), if_neg (by decide +kernel), if_pos (by decide +kernel)] at e
  split at e
  · cases e
    obtain ⟨v, rfl, r1⟩ := rv.one
    obtain rfl := rep_int.mp r1
    exact ⟨_, rfl, fin_d g q (rep_int.mpr rfl)⟩
  · cases e
theorem blt_max : Blt K xa "max" (.builtin "max") (fun xs H Q => ∃ i j, xs = [.int i, .int j] ∧ Q (.int (if j > i then j else i)) H) := by
  refine ⟨by decide +kernel, .inl ⟨_, rfl⟩, fun X h hc => by subst h; exact call_max2 hc, ?_⟩
  intro s H vs vs' z' g rv e Q q
  unfold pCall at e
  rw [if_neg (by decide +kernel), if_neg (by decide +kernel), if_neg (by decide +kernel), if_pos (by decide +kernel)] at e
  split at e
  · cases e
    obtain ⟨v, w, rfl, r1, r2⟩ := rv.two
    obtain rfl := rep_int.mp r1
    obtain rfl := rep_int.mp r2
    exact ⟨_, _, rfl, fin_d g q (rep_int.mpr rfl)⟩
  · cases e
theorem blt_min : Blt K xa "min" (.builtin "min") (fun xs H Q => ∃ i j, xs = [.int i, .int j] ∧ Q (.int (if j < i then j else i)) H) := by
  refine ⟨by decide +kernel, .inl ⟨_, rfl⟩, fun X h hc => by subst h; exact call_min2 hc, ?_⟩
  intro s H vs vs' z' g rv e Q q
  unfold pCall at e
  iterate 4 rw [if_neg (by decide +kernel)] at e
  rw [if_pos (by decide +kernel)] at e
  split at e
  · cases e
    obtain ⟨v, w, rfl, r1, r2⟩ := rv.two
    obtain rfl := rep_int.mp r1
    obtain rfl := rep_int.mp r2
    exact ⟨_, _, rfl, fin_d g q (rep_int.mpr rfl)⟩
  · cases e
theorem sqL_of_items {s : S} {H : L2.Hp} {x' : Val} {x : V} {xs : List D} (g : Good K s H) (r : RepV K xa s x' x) (e : items x' s.h = some xs) (nt : ∀ l, x' ≠ .d (.tup l)) :
    ∃ p vs, x = .ref p ∧ SqL K H p vs ∧ RepL K s.Z xs vs := by
  unfold items at e
  split at e
  · exact absurd rfl (nt _)
  · cases e
    obtain ⟨p, vs, rfl, h1, h2⟩ := rep_lst.mp r
    exact ⟨p, vs, rfl, SqL.of (g.ex _ _ h1), h2⟩
  · cases e
    obtain ⟨p, rfl, h1⟩ := r
    exact ⟨p, _, rfl, exL g.ex h1, .ints _⟩
  · rename_i i
    obtain ⟨rfl, hi⟩ := r
    split at e
    · rename_i ys e2
      cases e
      obtain ⟨_, vs, h1, h2⟩ := g.obj i _ e2
      exact ⟨_, vs, rfl, SqL.of h1, h2⟩
    · cases e
  · cases e
theorem blt_sum : Blt K xa "sum" (.builtin "sum") (rSum K) := by
  refine ⟨by decide +kernel, .inl ⟨_, rfl⟩, fun X h hc => by subst h; exact cr_sum hc, ?_⟩
  intro s H vs vs' z' g rv e Q q
  unfold pCall at e
  iterate 5 rw [if_neg (by decide +kernel)] at e
  rw [if_pos (by decide +kernel)] at e
  split at e
  · cases e
  · rename_i nt
    obtain ⟨l, e1, e2⟩ := Option.bind_eq_some_iff.mp e
    obtain ⟨ns, e3, rfl⟩ := Option.map_eq_some_iff.mp e2
    obtain ⟨v, rfl, r1⟩ := rv.one
    obtain ⟨p, ws, rfl, hp, r2⟩ := sqL_of_items g r1 e1 (fun l => nt l)
    rw [intsD_rep r2 e3] at hp
    exact ⟨p, ns, rfl, hp, fin_d g q (rep_int.mpr rfl)⟩
  · cases e
theorem blt_all : Blt K xa "all" (.builtin "all") (rAll K) := by
  refine ⟨by decide +kernel, .inl ⟨_, rfl⟩, fun X h hc => by subst h; exact cr_all hc, ?_⟩
  intro s H vs vs' z' g rv e Q q
  unfold pCall at e
  iterate 6 rw [if_neg (by decide +kernel)] at e
  rw [if_pos (by decide +kernel)] at e
  split at e
  · obtain ⟨bs, e3, rfl⟩ := Option.map_eq_some_iff.mp e
    obtain ⟨v, rfl, r1⟩ := rv.one
    obtain ⟨p, ws, rfl, hp, r2⟩ := rep_lst.mp r1
    rw [blsD_rep r2 e3] at hp
    exact ⟨p, bs, rfl, SqL.of (g.ex _ _ hp), fin_d g q (rep_bl.mpr rfl)⟩
  · cases e
theorem blt_any : Blt K xa "any" (.builtin "any") (rAny K) := by
  refine ⟨by decide +kernel, .inl ⟨_, rfl⟩, fun X h hc => by subst h; exact cr_any hc, ?_⟩
  intro s H vs vs' z' g rv e Q q
  unfold pCall at e
  iterate 7 rw [if_neg (by decide +kernel)] at e
  rw [if_pos (by decide +kernel)] at e
  split at e
  · obtain ⟨bs, e3, rfl⟩ := Option.map_eq_some_iff.mp e
    obtain ⟨v, rfl, r1⟩ := rv.one
    obtain ⟨p, ws, rfl, hp, r2⟩ := rep_lst.mp r1
    rw [blsD_rep r2 e3] at hp
    exact ⟨p, bs, rfl, SqL.of (g.ex _ _ hp), fin_d g q (rep_bl.mpr rfl)⟩
  · cases e
theorem blt_list : Blt K xa "list" (.type "list") (fun xs H Q => ∃ p ys, xs = [.ref p] ∧ (SqL K H p ys ∨ SqT K H p ys) ∧ ∀ l, H l = none → Q (.ref l) (upd H l (.lst ys))) := by
  refine ⟨by decide +kernel, .inr ⟨_, rfl⟩, fun X h hc => by subst h; exact call_list_of, ?_⟩
  intro s H vs vs' z' g rv e Q q
  unfold pCall at e
  iterate 8 rw [if_neg (by decide +kernel)] at e
  rw [if_pos (by decide +kernel)] at e
  split at e
  · obtain ⟨xs, e1, rfl⟩ := Option.map_eq_some_iff.mp e
    obtain ⟨v, rfl, r1⟩ := rv.one
    obtain ⟨p, ws, rfl, hp, r2⟩ := rep_items g r1 e1
    refine ⟨p, ws, rfl, hp, fun u hu => ?_⟩
    obtain ⟨g', ez, _⟩ := g.laid (o := .lst ws) hu
    exact q _ _ _ ez g' (rep_lst.mpr ⟨u, _, rfl, upd_same, r2.mono ez⟩)
  · cases e
theorem blt_tuple : Blt K xa "tuple" (.type "tuple") (fun xs H Q => ∃ p ys, xs = [.ref p] ∧ ((SqL K H p ys ∧ ∀ l, H l = none → Q (.ref l) (upd H l (.tup ys))) ∨ (SqT K H p ys ∧ Q (.ref p) H))) := by
  refine ⟨by decide +kernel, .inr ⟨_, rfl⟩, fun X h hc => by subst h; exact call_tuple_of, ?_⟩
  intro s H vs vs' z' g rv e Q q
  unfold pCall at e
  iterate 9 rw [if_neg (by decide +kernel)] at e
  rw [if_pos (by decide +kernel)] at e
  split at e
  · obtain ⟨xs, e1, rfl⟩ := Option.map_eq_some_iff.mp e
    obtain ⟨v, rfl, r1⟩ := rv.one
    obtain ⟨p, ws, rfl, r2, hp⟩ := rep_items2 g r1 e1
    rcases hp with hp | hp
    · refine ⟨p, ws, rfl, .inl ⟨hp, fun u hu => ?_⟩⟩
      obtain ⟨g', ez, _⟩ := g.laid (o := .tup ws) hu
      exact q _ _ _ ez g' (rep_tup.mpr ⟨u, _, rfl, SqT.of upd_same, r2.mono ez⟩)
    · exact ⟨p, ws, rfl, .inr ⟨exT g.ex hp, fin_d g q (rep_tup.mpr ⟨p, ws, rfl, hp, r2⟩)⟩⟩
  · cases e
theorem str_toString (i : Int) : (Str.ofString (toString i)) = (toString i : String) := rfl
theorem blt_str : Blt K xa "str" (.type "str") (fun xs H Q => ∃ i, xs = [.int i] ∧ i.natAbs.log2 < 1920 ∧ Q (.str (toString i)) H) := by
  refine ⟨by decide +kernel, .inr ⟨_, rfl⟩, fun X h hc => by subst h; exact call_str_int, ?_⟩
  intro s H vs vs' z' g rv e Q q
  unfold pCall at e
  iterate 10 rw [if_neg (by decide +kernel)] at e
  rw [if_pos (by decide +kernel)] at e
  split at e
  · obtain ⟨h, rfl⟩ := gd_some e
    obtain ⟨v, rfl, r1⟩ := rv.one
    obtain rfl := rep_int.mp r1
    exact ⟨_, rfl, of_decide_eq_true h, fin_d g q (rep_str.mpr rfl)⟩
  · cases e
theorem blt_all' {f : Str} (h : bltins.contains f = true) : ∃ u r, Blt K xa f u r := by
  have h : f ∈ bltins := by simpa using h
  unfold bltins at h
  simp only [List.mem_cons, List.not_mem_nil, or_false] at h
  rcases h with rfl | rfl | rfl | rfl | rfl | rfl | rfl | rfl | rfl | rfl | rfl
  · exact ⟨_, _, blt_len⟩
  · exact ⟨_, _, blt_int⟩
  · exact ⟨_, _, blt_abs⟩
  · exact ⟨_, _, blt_max⟩
  · exact ⟨_, _, blt_min⟩
  · exact ⟨_, _, blt_sum⟩
  · exact ⟨_, _, blt_all⟩
  · exact ⟨_, _, blt_any⟩
  · exact ⟨_, _, blt_list⟩
  · exact ⟨_, _, blt_tuple⟩
  · exact ⟨_, _, blt_str⟩
theorem pe_blt {f : Str} {u : Value} {r : List V → L2.Hp → VK → Prop} {e : Expr} {es : List Expr} {t : TA} {p pos : Pos} (B : Blt X.K xa f u r) (hc : X.calm = true) (hp : plainN f = true) (hg : Gl X f) (hm : X.mg f = none) (hs : noStar (e :: es) = true) (ha : PA X (e :: es) t) :
    PE X (.Call (.Name f p) (e :: es) [] pos) (tCB r t) := by
  unfold plainN at hp
  simp only [Bool.and_eq_true, Bool.not_eq_true', beq_eq_false_iff_ne] at hp
  obtain ⟨h1, h2⟩ := noStar_cons hs
  have hd : (f == ("__debug__" : Str)) = false := by simpa using hp.1.1
  rcases B.how with ⟨id, rfl⟩ | ⟨T, rfl⟩
  · exact pe_callB (B.call X rfl hc) hg hm B.boot ha hp.2 hd (star_cons h1) (star_plain h2 _ _)
  · exact pe_callTy (B.call X rfl hc) hg hm B.boot ha hp.2 hd (star_cons h1) (star_plain h2 _ _)
end MI
set_option maxRecDepth 100000
namespace MI
open PySem PySem.Spec PyProof.Rows L2
variable {X : Cx} {K : PySem.W.Frag} {xa : XA}

/-! ### contexts -/
def noxa : XA := fun _ _ => False
def spI (K : PySem.W.Frag) (mg : Str → Option Value) (cf : Str → List Val → M Val) (f : Str) (n : Nat) : Sp := fun vs H Q E => vs.length = n ∧ ∃ s vs', Good K s H ∧ RepVs K noxa s vs' vs ∧
  Out s (cf f vs' s.h) (PQ K noxa Q) (PXE K mg E)
/-- a class of errors: what is asked of it -/
structure ExF (g : G) (K : PySem.W.Frag) (mg : Str → Option Value) (C : Addr) (l : List Str) : Prop where
  kp : PySem.W.keepIn K (.ref C) = true
  ec : ExcC K C
  xc : ∃ bmB, bmB = ([.type "ValueError", .type "Exception", .type "BaseException", .type "object"] : List Value) ∧ PySem.W.excIn K C bmB "ValueError.__new__" = true
  tb : PySem.W.subIn K (.ref C) (.type "BaseException") = some true ∧ PySem.W.typeIn K (.ref C) = some (.type "type")
  is : ∀ c, clsOf g c = true → ∃ cv, ((mg c = some cv ∧ ∃ D, cv = .ref D) ∨ (mg c = none ∧ bootBuiltins c = some cv ∧ c ≠ "__name__" ∧ ∃ n, cv = .type n)) ∧ PySem.W.kitOne K (.ref C) cv = some (l.contains c) ∧ PySem.W.exmOne K (.ref C) cv = some (l.contains c)
def bltNames : List Str := ["len", "int", "abs", "max", "min", "sum", "all", "any", "list", "tuple", "str", "isinstance", "range", "zip", "bool", "dict", "ValueError"]
structure GOk (g : G) (cf : Str → List Val → M Val) (P : Program) (w : World) (K : PySem.W.Frag) (mg : Str → Option Value) (base : PySem.Heap) (k : Nat) : Prop where
  fn : ∀ f fd, g.fns.lookup f = some fd → ∃ a fdat, mg f = some (.ref a) ∧ PySem.W.keepIn K (.ref a) = true ∧ Binds K fdat fd.ps [] ∧ FnOk P w K mg base (L2.CX P w) k a fdat fd.ps (spI K mg cf f fd.ps.length)
  cn : ∀ x d, g.consts.lookup x = some d → ∃ u v, mg x = some u ∧ RelV v u ∧ ∀ Z, Rep K Z d v
  bl : ∀ x, x ∈ bltNames → mg x = none
  ex : ∀ x l, g.excs.lookup x = some l → ∃ C, mg x = some (.ref C) ∧ ExF g K mg C l
  mr : ∀ x, g.more.contains x = true → ∃ C, mg x = some (.ref C)
structure CtxOk (g : G) (cf : Str → List Val → M Val) (xa : XA) (W : WX) (X : Cx) (C : Ctx) (k : Nat) : Prop where
  N : X.N = C.N
  sc : X.env.scope = C.sc
  nd : X.N.Nodup
  gok : GOk g cf X.prog X.w X.K X.mg X.base k
  calm : C.calm = true → X.calm = true
  room : C.calm = true → Room k X.A
  pas : C.calm = true → ∀ σ, PassesAt (L2.CX X.prog X.w) X σ (fun c d H => W c d σ H)
  nox : C.calm = true → ∀ e v, ¬ xa e v
  xl : ∀ e v, xa e v → ∃ l, g.excs.lookup e.cls = some l
  isE : CallR X (.builtin "isinstance") (fun xs H Q => ∃ e v c cv D, xs = [v, c] ∧ xa e v ∧ X.mg e.cls = some (.ref D) ∧ (∀ u, RelV c u → u = cv) ∧ ∃ b, PySem.W.kitOne X.K (.ref D) cv = some b ∧ Q (.bl b) H)

section
variable {g : G} {cf : Str → List Val → M Val} {W : WX} {C : Ctx} {k n : Nat}
theorem slot_get {N : List Str} {x : Str} {i : Nat} (h : slot N x = some i) : N[i]? = some x := by
  unfold slot at h
  obtain ⟨h1, h2, _⟩ := List.findIdx?_eq_some_iff_getElem.mp h
  rw [List.getElem?_eq_getElem h1]
  exact congrArg some (beq_iff_eq.mp h2)
theorem vis_of {sc : Scope} {x : Str} (h : visB sc x = true) : Vis sc x := by
  unfold visB at h
  split at h
  · rename_i e; exact .inl e
  · rename_i e; exact .inr (.inl e)
  · rename_i e; exact .inr (.inr e)
  · cases h
theorem loc_of {sc : Scope} {x : Str} (h : locB sc x = true) : Loc sc x := by
  unfold locB at h
  split at h
  · rename_i e; exact .inl e
  · rename_i e; exact .inr e
  · cases h
theorem gl_of {sc : Scope} {x : Str} (h : glB sc x = true) : sc.names.lookup x = some .globalImplicit := by
  unfold glB at h
  split at h
  · rename_i e; exact e
  · cases h
theorem plain_of {x : Str} (h : plainN x = true) : (x == ("__debug__" : Str)) = false ∧ (x == ("__classdict__" : Str)) = false ∧ x ≠ "__name__" := by
  unfold plainN at h
  simp only [Bool.and_eq_true, Bool.not_eq_true', beq_eq_false_iff_ne] at h
  exact ⟨by simpa using h.1.1, by simpa using h.1.2, h.2⟩
theorem CtxOk.gl (c : CtxOk g cf xa W X C k) {x : Str} (h : glB C.sc x = true) : Gl X x := by
  show X.env.scope.names.lookup x = some .globalImplicit
  rw [c.sc]
  exact gl_of h

/-- an expression's promise -/
abbrev PI' (g : G) (cf : Str → List Val → M Val) (xa : XA) (W : WX) (X : Cx) (f : Env → M Val) (e : Expr) : Prop := PE X e (tI X.K X.mg xa W f)
theorem no_out {σ : L2.St} {H : L2.Hp} {Q : VK} {f : Env → M Val} (h : ∀ σ' h', f σ' h' = .stuck) : ¬ tI K X.mg xa W f σ H Q := by
  rintro ⟨σ', s, e, gd, o⟩
  rw [h] at o
  exact o
theorem i_name (c : CtxOk g cf xa W X C k) {x : Str} {p : Pos} : PE X (.Name x p) (tI X.K X.mg xa W (nameE g C x)) := by
  by_cases hp : plainN x = true
  · obtain ⟨h1, h2, h3⟩ := plain_of hp
    by_cases hv : visB C.sc x = true
    · cases hs : slot C.N x with
      | none =>
        refine PE.no fun σ H Q => no_out (X := X) fun σ' h' => ?_
        unfold nameE
        rw [if_pos hp, if_pos hv, hs]
      | some i =>
        refine PE.imp (pe_var (i := i) (by rw [c.N]; exact slot_get hs) (by rw [c.sc]; exact vis_of hv) h1 h2) fun σ H Q h => ?_
        obtain ⟨σ', s, e, gd, o⟩ := h
        unfold nameE at o
        rw [if_pos hp, if_pos hv, hs] at o
        unfold getV at o
        simp only at o
        cases hi : σ'[i]? with
        | none => rw [hi] at o; exact o.elim
        | some y =>
          rw [hi] at o
          cases y with
          | none => exact o.elim
          | some v =>
            obtain ⟨u, h4, h5⟩ := e.get i v hi
            exact ⟨u, h4, o s.m s.Z (Ext.refl s) u H gd h5⟩
    · by_cases hg : glB C.sc x = true
      · cases hs : g.consts.lookup x with
        | none =>
          refine PE.no fun σ H Q => no_out (X := X) fun σ' h' => ?_
          unfold nameE
          rw [if_pos hp, if_neg hv, if_pos hg, hs]
        | some d =>
          obtain ⟨u, v, h4, h5, h6⟩ := c.gok.cn x d hs
          refine PE.imp (pe_glob (v := v) (c.gl hg) h4 h5 h1) fun σ H Q h => ?_
          obtain ⟨σ', s, e, gd, o⟩ := h
          unfold nameE at o
          rw [if_pos hp, if_neg hv, if_pos hg, hs] at o
          exact o s.m s.Z (Ext.refl s) v H gd (h6 s.Z)
      · refine PE.no fun σ H Q => no_out (X := X) fun σ' h' => ?_
        unfold nameE
        rw [if_pos hp, if_neg hv, if_neg hg]
  · refine PE.no fun σ H Q => no_out (X := X) fun σ' h' => ?_
    unfold nameE
    rw [if_neg hp]
theorem i_const {v : Const} {j : Nat} {p : Pos} : PE X (.Constant v j p) (tI X.K X.mg xa W fun _ => constE v) := by
  cases v with
  | none =>
    refine PE.imp pe_non fun σ H Q h => ?_
    obtain ⟨σ', s, e, gd, o⟩ := h
    exact o s.m s.Z (Ext.refl s) _ H gd (rep_non.mpr rfl)
  | bool b =>
    refine PE.imp pe_bl fun σ H Q h => ?_
    obtain ⟨σ', s, e, gd, o⟩ := h
    exact o s.m s.Z (Ext.refl s) _ H gd (rep_bl.mpr rfl)
  | int b =>
    refine PE.imp pe_int fun σ H Q h => ?_
    obtain ⟨σ', s, e, gd, o⟩ := h
    exact o s.m s.Z (Ext.refl s) _ H gd (rep_int.mpr rfl)
  | str b =>
    refine PE.imp pe_str fun σ H Q h => ?_
    obtain ⟨σ', s, e, gd, o⟩ := h
    exact o s.m s.Z (Ext.refl s) _ H gd (rep_str.mpr rfl)
  | _ => exact PE.no fun σ H Q => no_out (X := X) fun σ' h' => rfl

variable {a b d t : Expr} {fa fb fc fd' : Env → M Val} {p : Pos}
theorem ofZ {s : S} {Z' : L2.Hp} (e : ExH s.Z Z') : Ext s ⟨s.m, Z', s.h, s.F⟩ := Ext.ofZ e
/-- the end of an operation that changes no object -/
theorem rd_end {s : S} {H : L2.Hp} {Q : VK} {f : MH → Option Val} {E : Exc → S → Prop} (o : Out s (rd f s.h) (PQ K xa Q) E) : ∃ z', f s.h = some z' ∧ ∀ Z' H' z, ExH s.Z Z' → Good K ⟨s.m, Z', s.h, s.F⟩ H' → RepV K xa ⟨s.m, Z', s.h, s.F⟩ z' z → Q z H' := by
  obtain ⟨z', e, h⟩ := Out.rd o
  exact ⟨z', e, fun Z' H' z ez g' r => h s.m Z' (Ext.ofZ ez) z H' g' r⟩
theorem i_bin {op : Operator} (ha : PE X a (tI X.K X.mg xa W fa)) (hb : PE X b (tI X.K X.mg xa W fb)) :
    PE X (.BinOp a op b p) (tI X.K X.mg xa W fun σ => bnd (fa σ) fun x => bnd (fb σ) fun y => rd (pBin op x y)) := by
  refine PE.imp (pe_op (opr_bin op) ha hb) fun σ H Q h => ?_
  obtain ⟨σ', s, e, gd, o⟩ := h
  refine out_bnd e gd o fun s1 x' x H1 _ e1 g1 r1 o1 => ?_
  refine out_bnd e1 g1 o1 fun s2 y' y H2 x2 e2 g2 r2 o2 => ?_
  obtain ⟨z', h1, h2⟩ := rd_end (H := H2) o2
  exact opi_bin op s2 H2 x y x' y' z' g2 (r1.mono x2) r2 h1 Q h2
theorem i_cmp {op : CmpOp} (hm : behindInMarks op b = false) (ha : PE X a (tI X.K X.mg xa W fa)) (hb : PE X b (tI X.K X.mg xa W fb)) :
    PE X (.Compare a [op] [b] p) (tI X.K X.mg xa W fun σ => bnd (fa σ) fun x => bnd (fb σ) fun y => rd (pCmp op x y)) := by
  refine PE.imp (pe_cmpR (opr_cmp op) ha hb hm) fun σ H Q h => ?_
  obtain ⟨σ', s, e, gd, o⟩ := h
  refine out_bnd e gd o fun s1 x' x H1 _ e1 g1 r1 o1 => ?_
  refine out_bnd e1 g1 o1 fun s2 y' y H2 x2 e2 g2 r2 o2 => ?_
  obtain ⟨z', h1, h2⟩ := rd_end (H := H2) o2
  exact opi_cmp op s2 H2 x y x' y' z' g2 (r1.mono x2) r2 h1 Q h2
theorem i_usub (ha : PE X a (tI X.K X.mg xa W fa)) : PE X (.UnaryOp .USub a p) (tI X.K X.mg xa W fun σ => bnd (fa σ) fun x => rd fun _ => (intV x).map fun i => .d (.int (-i))) := by
  refine PE.imp (pe_un un_neg ha) fun σ H Q h => ?_
  obtain ⟨σ', s, e, gd, o⟩ := h
  refine out_bnd e gd o fun s1 x' x H1 _ e1 g1 r1 o1 => ?_
  obtain ⟨z', h1, h2⟩ := rd_end (H := H1) o1
  obtain ⟨i, h3, rfl⟩ := Option.map_eq_some_iff.mp h1
  unfold intV at h3
  split at h3
  · cases h3
    obtain rfl := rep_int.mp r1
    exact ⟨_, rfl, fin_d g1 h2 (rep_int.mpr rfl)⟩
  · cases h3
theorem i_not (ha : PE X a (tI X.K X.mg xa W fa)) : PE X (.UnaryOp .Not a p) (tI X.K X.mg xa W fun σ => bnd (fa σ) fun x => rd fun h => (truth x h).map fun b => bl (!b)) := by
  refine PE.imp (pe_notT ha) fun σ H Q h => ?_
  obtain ⟨σ', s, e, gd, o⟩ := h
  refine out_bnd e gd o fun s1 x' x H1 _ e1 g1 r1 o1 => ?_
  obtain ⟨z', h1, h2⟩ := rd_end (H := H1) o1
  obtain ⟨i, h3, rfl⟩ := Option.map_eq_some_iff.mp h1
  exact ⟨i, rep_truth g1 r1 h3, fin_d g1 h2 (rep_bl.mpr rfl)⟩
theorem i_one {op : BoolOp} (ha : PE X a (tI X.K X.mg xa W fa)) : PE X (.BoolOp op [a] p) (tI X.K X.mg xa W fa) := pe_one ha
theorem i_and {rest : List Expr} (ha : PE X a (tI X.K X.mg xa W fa)) (hb : PE X (.BoolOp .And (b :: rest) p) (tI X.K X.mg xa W fb)) :
    PE X (.BoolOp .And (a :: b :: rest) p) (tI X.K X.mg xa W fun σ => bnd (fa σ) fun x => bnd (rd (truth x)) fun k => if k = true then fb σ else ret x) := by
  refine PE.imp (pe_andT ha hb) fun σ H Q h => ?_
  obtain ⟨σ', s, e, gd, o⟩ := h
  refine out_bnd e gd o fun s1 x' x H1 _ e1 g1 r1 o1 => ?_
  obtain ⟨k, h1, h2⟩ := Out.rd (Out.bnd o1)
  have h2 := h2 s1.m s1.Z (Ext.refl s1)
  refine ⟨k, rep_truth g1 r1 h1, ?_⟩
  cases k with
  | true => exact ⟨σ', s1, e1, g1, h2⟩
  | false => exact h2 s1.m s1.Z (Ext.refl s1) x H1 g1 r1
theorem i_or {rest : List Expr} (ha : PE X a (tI X.K X.mg xa W fa)) (hb : PE X (.BoolOp .Or (b :: rest) p) (tI X.K X.mg xa W fb)) :
    PE X (.BoolOp .Or (a :: b :: rest) p) (tI X.K X.mg xa W fun σ => bnd (fa σ) fun x => bnd (rd (truth x)) fun k => if k = true then ret x else fb σ) := by
  refine PE.imp (pe_orT ha hb) fun σ H Q h => ?_
  obtain ⟨σ', s, e, gd, o⟩ := h
  refine out_bnd e gd o fun s1 x' x H1 _ e1 g1 r1 o1 => ?_
  obtain ⟨k, h1, h2⟩ := Out.rd (Out.bnd o1)
  have h2 := h2 s1.m s1.Z (Ext.refl s1)
  refine ⟨k, rep_truth g1 r1 h1, ?_⟩
  cases k with
  | false => exact ⟨σ', s1, e1, g1, h2⟩
  | true => exact h2 s1.m s1.Z (Ext.refl s1) x H1 g1 r1
/-- a comparison's answer within a chain -/
theorem link_end {s : S} {H : L2.Hp} {op : CmpOp} {x' y' : Val} {x y : V} {α : Type} {f : Bool → M α} {P : α → S → Prop} {E : Exc → S → Prop} {R : VK} (gd : Good K s H) (rx : RepV K xa s x' x) (ry : RepV K xa s y' y) (o : Out s (bnd (rd fun h => (pCmp op x' y' h).bind boolV) f s.h) P E)
    (c : ∀ Z' H' b, ExH s.Z Z' → Good K ⟨s.m, Z', s.h, s.F⟩ H' → Out ⟨s.m, Z', s.h, s.F⟩ (f b s.h) P E → R (.bl b) H') : rCmp K op x y H R := by
  obtain ⟨b, h1, h2⟩ := Out.rd (Out.bnd o)
  obtain ⟨z, h3, h4⟩ := Option.bind_eq_some_iff.mp h1
  obtain ⟨b', rfl⟩ := cmp_bl h3
  have h4 : some b' = some b := h4
  cases h4
  refine opi_cmp op s H x y x' y' _ gd rx ry h3 R fun Z' H' z ez g' r => ?_
  obtain rfl := rep_bl.mp r
  exact c Z' H' _ ez g' (h2 s.m Z' (Ext.ofZ ez))
theorem i_chain {op op2 : CmpOp} (hm : lastMarks [op, op2] [b, d] = false) (ha : PE X a (tI X.K X.mg xa W fa)) (hb : PE X b (tI X.K X.mg xa W fb)) (hd : PE X d (tI X.K X.mg xa W fc)) :
    PE X (.Compare a [op, op2] [b, d] p) (tI X.K X.mg xa W fun σ => bnd (fa σ) fun x => bnd (fb σ) fun y => bnd (rd fun h => (pCmp op x y h).bind boolV) fun k =>
        if k = true then bnd (fc σ) fun z => rd (pCmp op2 y z) else ret (bl false)) := by
  refine PE.imp (pe_chain (opr_cmp op) (opr_cmp op2) ha hb hd hm) fun σ H Q h => ?_
  obtain ⟨σ', s, e, gd, o⟩ := h
  refine out_bnd e gd o fun s1 x' x H1 _ e1 g1 r1 o1 => ?_
  refine out_bnd e1 g1 o1 fun s2 y' y H2 x2 e2 g2 r2 o2 => ?_
  refine link_end g2 (r1.mono x2) r2 o2 fun Z' H' k ez g3 o3 => ⟨k, rfl, ?_⟩
  cases k with
  | true =>
    have e3 := e2.mono (Ext.ofZ ez)
    refine out_bnd (s := ⟨s2.m, Z', s2.h, s2.F⟩) e3 g3 o3 fun s4 z' z H4 x4 e4 g4 r4 o4 => ?_
    obtain ⟨w', h1, h2⟩ := rd_end (H := H4) o4
    exact opi_cmp op2 s4 H4 y z y' z' w' g4 ((r2.mono (Ext.ofZ ez)).mono x4) r4 h1 Q h2
  | false => exact o3 s2.m Z' (Ext.refl _) (.bl false) H' g3 (rep_bl.mpr rfl)
def tChain3 (r r' r'' : R2) (ta tb tc td : TE) : TE := fun σ H Q => ta σ H fun x H1 => tb σ H1 fun y H2 => r x y H2 fun z H3 => ∃ k, z = .bl k ∧
  (if k = true then tc σ H3 fun w' H4 => r' y w' H4 fun z2 H5 => ∃ k2, z2 = .bl k2 ∧ (if k2 = true then td σ H5 fun v' H6 => r'' w' v' H6 Q else Q (.bl false) H5) else Q (.bl false) H3)
theorem pe_chain3 {op op' op'' : CmpOp} {r r' r'' : R2} {ta tb tc td : TE} (ho : OpR X (compareOp op) r) (ho' : OpR X (compareOp op') r') (ho'' : OpR X (compareOp op'') r'') (ha : PE X a ta) (hb : PE X b tb) (hc : PE X d tc) (hd : PE X t td)
    (hm : lastMarks [op, op', op''] [b, d, t] = false) : PE X (.Compare a [op, op', op''] [b, d, t] p) (tChain3 r r' r'' ta tb tc td) := by
  refine ⟨fun pins s σ H Q I h => ?_⟩
  refine Compare_chain (thn (ha.run pins s σ H _ I h) fun v s1 ⟨x, H1, I1, r1, q1⟩ => chain_link (thn (hb.run pins s1 σ H1 _ I1 q1) fun u s2 ⟨y, H2, I2, r2, q2⟩ =>
    thn (ho pins s2 σ H2 x y v u _ I2 r1 r2 q2) fun d s3 ⟨z, H3, I3, r3, k, e, q3⟩ => ?_)) hm
  subst e
  cases r3
  refine wpAny_truthy_bool ?_
  cases k with
  | false => exact ite_ff ⟨.bl false, H3, I3, rfl, q3⟩
  | true =>
    refine ite_tt (chain_link (thn (hc.run pins s3 σ H3 _ I3 q3) fun w' s4 ⟨z', H4, I4, r4, q4⟩ => thn (ho' pins s4 σ H4 y z' u w' _ I4 r2 r4 q4) fun d2 s5 ⟨z2, H5, I5, r5, k2, e2, q5⟩ => ?_))
    subst e2
    cases r5
    refine wpAny_truthy_bool ?_
    cases k2 with
    | false => exact ite_ff ⟨.bl false, H5, I5, rfl, q5⟩
    | true => exact ite_tt (chain_last (thn (hd.run pins s5 σ H5 _ I5 q5) fun w2 s6 ⟨z3, H6, I6, r6, q6⟩ => ho'' pins s6 σ H6 z' z3 w' w2 Q I6 r4 r6 q6))
theorem i_chain3 {op op2 op3 : CmpOp} (hm : lastMarks [op, op2, op3] [b, d, t] = false) (ha : PE X a (tI X.K X.mg xa W fa)) (hb : PE X b (tI X.K X.mg xa W fb)) (hd : PE X d (tI X.K X.mg xa W fc)) (ht : PE X t (tI X.K X.mg xa W fd')) :
    PE X (.Compare a [op, op2, op3] [b, d, t] p) (tI X.K X.mg xa W fun σ => bnd (fa σ) fun x => bnd (fb σ) fun y => bnd (rd fun h => (pCmp op x y h).bind boolV) fun k =>
        if k = true then bnd (fc σ) fun z => bnd (rd fun h => (pCmp op2 y z h).bind boolV) fun k2 => if k2 = true then bnd (fd' σ) fun w => rd (pCmp op3 z w) else ret (bl false) else ret (bl false)) := by
  refine PE.imp (pe_chain3 (opr_cmp op) (opr_cmp op2) (opr_cmp op3) ha hb hd ht hm) fun σ H Q h => ?_
  obtain ⟨σ', s, e, gd, o⟩ := h
  refine out_bnd e gd o fun s1 x' x H1 _ e1 g1 r1 o1 => ?_
  refine out_bnd e1 g1 o1 fun s2 y' y H2 x2 e2 g2 r2 o2 => ?_
  refine link_end g2 (r1.mono x2) r2 o2 fun Z' H' k ez g3 o3 => ⟨k, rfl, ?_⟩
  cases k with
  | true =>
    have e3 := e2.mono (Ext.ofZ ez)
    refine out_bnd (s := ⟨s2.m, Z', s2.h, s2.F⟩) e3 g3 o3 fun s4 z' z H4 x4 e4 g4 r4 o4 => ?_
    refine link_end g4 ((r2.mono (Ext.ofZ ez)).mono x4) r4 o4 fun Z5 H5 k2 ez5 g5 o5 => ⟨k2, rfl, ?_⟩
    cases k2 with
    | true =>
      refine out_bnd (s := ⟨s4.m, Z5, s4.h, s4.F⟩) (e4.mono (Ext.ofZ ez5)) g5 o5 fun s6 w' w H6 x6 e6 g6 r6 o6 => ?_
      obtain ⟨v', h1, h2⟩ := rd_end (H := H6) o6
      exact opi_cmp op3 s6 H6 z w z' w' v' g6 ((r4.mono (Ext.ofZ ez5)).mono x6) r6 h1 Q h2
    | false => exact o5 s4.m Z5 (Ext.refl _) (.bl false) H5 g5 (rep_bl.mpr rfl)
  | false => exact o3 s2.m Z' (Ext.refl _) (.bl false) H' g3 (rep_bl.mpr rfl)
theorem i_if {ft : Env → M Bool} (ht : PT X t (tIT X.K X.mg xa W ft)) (ha : PE X a (tI X.K X.mg xa W fa)) (hb : PE X b (tI X.K X.mg xa W fb)) :
    PE X (.IfExp t a b p) (tI X.K X.mg xa W fun σ => bnd (ft σ) fun k => if k = true then fa σ else fb σ) := by
  refine PE.imp (pe_ifExp ht ha hb) fun σ H Q h => ?_
  obtain ⟨σ', s, e, gd, o⟩ := h
  refine outB_bnd e gd o fun s1 k H1 _ e1 g1 o1 => ?_
  cases k with
  | true => exact ⟨σ', s1, e1, g1, o1⟩
  | false => exact ⟨σ', s1, e1, g1, o1⟩
/-- argument lists -/
def tIA (K : PySem.W.Frag) (mg : Str → Option Value) (xa : XA) (W : WX) (f : Env → M (List Val)) : TA := fun σ H Q => ∃ σ' s, EnvR K xa s σ' σ ∧ Good K s H ∧
  Out s (f σ' s.h) (fun vs' s' => ∀ vs H', Good K s' H' → RepVs K xa s' vs' vs → Q vs H') (PXE K mg fun c d H' => W c d σ H')
theorem i_args {ev : Env → Expr → M Val} (he : ∀ e, PE X e (tI X.K X.mg xa W fun σ => ev σ e)) (hst : ∀ e σ h, notStar e = false → ev σ e h = .stuck) : ∀ es : List Expr, PA X es (tIA X.K X.mg xa W fun σ => seqE (ev σ) es)
  | [] => by
    refine PA.imp pa_nil fun σ H Q h => ?_
    obtain ⟨σ', s, e, gd, o⟩ := h
    exact o s.m s.Z (Ext.refl s) [] H gd rfl
  | e :: es => by
    cases hs : notStar e with
    | false =>
      refine ⟨fun pos pins s σ H Q I h => ?_⟩
      obtain ⟨σ', s, e', gd, o⟩ := h
      have o2 := Out.bnd o
      rw [hst e σ' s.h hs] at o2
      exact o2.elim
    | true =>
      refine PA.imp (pa_cons (he e) (i_args he hst es) (star_cons hs)) fun σ H Q h => ?_
      obtain ⟨σ', s, e', gd, o⟩ := h
      refine ⟨σ', s, e', gd, (Out.bnd o).imp (fun x' s1 x1 o1 v H1 g1 r1 => ?_) fun _ _ _ z => z⟩
      refine ⟨σ', s1, e'.mono x1, g1, (Out.bnd o1).imp (fun vs' s2 x2 o2 vs H2 g2 r2 => ?_) fun _ _ _ z => z⟩
      exact o2 s2.m s2.Z (Ext.refl s2) (v :: vs) H2 g2 ⟨v, vs, rfl, r1.mono x2, r2⟩
end
end MI
set_option maxRecDepth 100000
namespace MI
open PySem PySem.Spec PyProof.Rows L2
variable {X : Cx} {K : PySem.W.Frag} {xa : XA} {g : G} {cf : Str → List Val → M Val} {W : WX} {C : Ctx} {k n : Nat}
variable {a b d t : Expr} {fa fb fc : Env → M Val} {p : Pos}

theorem Good.freeze {s : S} {H : L2.Hp} {p : Addr} {o : HO} (g : Good K s H) (hp : H p = some o) (hz : s.Z p = none) (hm : ∀ i, i < s.h.length → s.m i ≠ p) (hf : s.F p = none) :
    Good K ⟨s.m, upd s.Z p o, s.h, s.F⟩ H ∧ ExH s.Z (upd s.Z p o) := by
  have ez := ExH.new (o := o) hz
  refine ⟨⟨fun a u e => ?_, fun i ob e => ?_, g.inj, fun a u e => ?_⟩, ez⟩
  · have e : upd s.Z p o a = some u := e
    by_cases ha : a = p
    · subst ha; rw [upd_same] at e; cases e; exact hp
    · rw [upd_ne ha] at e; exact g.ex a u e
  · obtain ⟨h1, h2⟩ := g.obj i ob e
    have ne := hm i (List.getElem?_eq_some_iff.mp e).1
    refine ⟨?_, h2.mono ez⟩
    show upd s.Z p o (s.m i) = none
    rw [upd_ne ne]; exact h1
  · obtain ⟨h1, h2, h3⟩ := g.fr a u e
    have ne : a ≠ p := fun q => by
      have e : s.F a = some u := e
      rw [q, hf] at e; cases e
    exact ⟨h1, by show upd s.Z p o a = none; rw [upd_ne ne]; exact h2, h3⟩
theorem Good.adopt {s : S} {H : L2.Hp} {p : Addr} {o : O} {u : HO} (g : Good K s H) (hp : H p = some u) (hz : s.Z p = none) (hm : ∀ i, i < s.h.length → s.m i ≠ p) (hf : s.F p = none) (h : ObjR K s.Z o (some u)) :
    Good K ⟨fun i => if i = s.h.length then p else s.m i, s.Z, s.h ++ [o], s.F⟩ H := by
  refine ⟨g.ex, fun j ob e => ?_, fun j k hj hk q => ?_, fun a w e => ?_⟩
  · have e : (s.h ++ [o])[j]? = some ob := e
    show s.Z (if j = s.h.length then p else s.m j) = none ∧ ObjR K s.Z ob (H (if j = s.h.length then p else s.m j))
    by_cases hj : j = s.h.length
    · subst hj
      rw [List.getElem?_append_right (Nat.le_refl _)] at e
      simp at e
      subst e
      rw [if_pos rfl, hp]
      exact ⟨hz, h⟩
    · have hl : j < s.h.length := by
        have := (List.getElem?_eq_some_iff.mp e).1
        rw [List.length_append, List.length_singleton] at this
        omega
      rw [List.getElem?_append_left hl] at e
      rw [if_neg hj]
      exact g.obj j ob e
  · have hj : j < (s.h ++ [o]).length := hj
    have hk : k < (s.h ++ [o]).length := hk
    rw [List.length_append, List.length_singleton] at hj hk
    have q : (if j = s.h.length then p else s.m j) = (if k = s.h.length then p else s.m k) := q
    by_cases h1 : j = s.h.length <;> by_cases h2 : k = s.h.length
    · omega
    · rw [if_pos h1, if_neg h2] at q
      exact absurd q.symm (hm k (by omega))
    · rw [if_neg h1, if_pos h2] at q
      exact absurd q (hm j (by omega))
    · rw [if_neg h1, if_neg h2] at q
      exact g.inj j k (by omega) (by omega) q
  · obtain ⟨h1, h2, h3⟩ := g.fr a w e
    refine ⟨h1, h2, fun j hj => ?_⟩
    have hj : j < (s.h ++ [o]).length := hj
    rw [List.length_append, List.length_singleton] at hj
    show (if j = s.h.length then p else s.m j) ≠ a
    by_cases h4 : j = s.h.length
    · rw [if_pos h4]
      intro q
      have e : s.F a = some w := e
      rw [← q, hf] at e; cases e
    · rw [if_neg h4]
      exact h3 j (by omega)
/-- a new mutable object's end -/
theorem alloc_end {s : S} {H : L2.Hp} {o : O} {u : HO} {Q : VK} {E : Exc → S → Prop} (gd : Good K s H) (r : ObjR K s.Z o (some u)) (h : Out s (alloc o s.h) (PQ K xa Q) E) : ∀ p, H p = none → Q (.ref p) (upd H p u) := by
  intro p hp
  have h : ∀ m' Z', Ext s ⟨m', Z', s.h ++ [o], s.F⟩ → PQ K xa Q (.m s.h.length) ⟨m', Z', s.h ++ [o], s.F⟩ := h
  refine h _ _ (Ext.make (p := p)) (.ref p) _ (gd.make hp r) ⟨?_, ?_⟩
  · show V.ref p = .ref (if s.h.length = s.h.length then p else _)
    rw [if_pos rfl]
  · show s.h.length < (s.h ++ [o]).length
    simp
theorem i_tuple {ev : Env → Expr → M Val} {es : List Expr} {kk : Nat} (ha : PA X es (tIA X.K X.mg xa W fun σ => seqE (ev σ) es)) :
    PE X (.Tuple es kk p) (tI X.K X.mg xa W fun σ => bnd (seqE (ev σ) es) fun vs => rd fun _ => gd (decide (vs.length ≤ 16777216)) () |>.bind fun _ => (toDs vs).map fun l => .d (.tup l)) := by
  refine PE.imp (pe_tup ha) fun σ H Q h => ?_
  obtain ⟨σ', s, e, gd, o⟩ := h
  refine ⟨σ', s, e, gd, (Out.bnd o).imp (fun vs' s1 x1 o1 vs H1 g1 r1 => ?_) fun _ _ _ z => z⟩
  obtain ⟨z', h1, h2⟩ := rd_end (H := H1) o1
  obtain ⟨_, h3, h4⟩ := Option.bind_eq_some_iff.mp h1
  obtain ⟨l, h5, rfl⟩ := Option.map_eq_some_iff.mp h4
  obtain ⟨r2, hl⟩ := r1.toDs h5
  refine ⟨sz_ok (by rw [r1.len]; exact of_decide_eq_true (gd_some h3).1), fun q hq => ?_⟩
  obtain ⟨g', ez, _⟩ := g1.laid (o := .tup vs) hq
  exact h2 _ _ _ ez g' (rep_tup.mpr ⟨q, _, rfl, SqT.of upd_same, r2.mono ez⟩)
theorem i_list {ev : Env → Expr → M Val} {es : List Expr} (c : Bool) (ha : PA X es (tIA X.K X.mg xa W fun σ => seqE (ev σ) es)) :
    PE X (.List es p) (tI X.K X.mg xa W fun σ => bnd (seqE (ev σ) es) fun vs => bnd (rd fun _ => gd (decide (vs.length ≤ 16777216)) () |>.bind fun _ => toDs vs) fun l => if c = true then alloc (.lst l) else ret (.d (.lst l))) := by
  refine PE.imp (pe_lst ha) fun σ H Q h => ?_
  obtain ⟨σ', s, e, gd, o⟩ := h
  refine ⟨σ', s, e, gd, (Out.bnd o).imp (fun vs' s1 x1 o1 vs H1 g1 r1 => ?_) fun _ _ _ z => z⟩
  obtain ⟨l, h1, h2⟩ := Out.rd (Out.bnd o1)
  have h2 := h2 s1.m s1.Z (Ext.refl s1)
  obtain ⟨_, h3, h4⟩ := Option.bind_eq_some_iff.mp h1
  obtain ⟨r2, hl⟩ := r1.toDs h4
  refine ⟨sz_ok (by rw [r1.len]; exact of_decide_eq_true (gd_some h3).1), ?_⟩
  cases c with
  | true => exact alloc_end (o := .lst l) g1 ⟨vs, rfl, r2⟩ h2
  | false =>
    intro q hq
    obtain ⟨g', ez, _⟩ := g1.laid (o := .lst vs) hq
    exact h2 s1.m _ (Ext.ofZ ez) _ _ g' (rep_lst.mpr ⟨q, _, rfl, upd_same, r2.mono ez⟩)
theorem i_dict (c : Bool) : PE X (.Dict [] [] p) (tI X.K X.mg xa W fun _ => if c = true then alloc (.dict []) else ret (.d .edict)) := by
  refine PE.imp pe_dnewK fun σ H Q h => ?_
  obtain ⟨σ', s, e, gd, o⟩ := h
  cases c with
  | true => exact alloc_end (o := .dict []) gd ⟨[], rfl, rfl⟩ o
  | false =>
    intro q hq
    obtain ⟨g', ez, _⟩ := gd.laid (o := .dK []) hq
    exact o s.m _ (Ext.ofZ ez) _ _ g' (rep_ed.mpr ⟨q, rfl, upd_same⟩)
/-! ### subscripts -/
theorem i_ix (hb' : ∀ lo hi q, b ≠ .Slice lo hi none q) (ha : PE X a (tI X.K X.mg xa W fa)) (hb : PE X b (tI X.K X.mg xa W fb)) :
    PE X (.Subscript a b p) (tI X.K X.mg xa W fun σ => bnd (fa σ) fun x => bnd (fb σ) fun y => rd (pIx x y)) := by
  have pl : PlainIx b := by
    intro o i
    cases b with
    | Slice lo hi st q =>
      cases st with
      | none => exact absurd rfl (hb' lo hi q)
      | some _ => rfl
    | _ => rfl
  refine PE.imp (pe_ix ix_seq ha hb pl) fun σ H Q h => ?_
  obtain ⟨σ', s, e, gd, o⟩ := h
  refine out_bnd e gd o fun s1 x' x H1 _ e1 g1 r1 o1 => ?_
  refine out_bnd e1 g1 o1 fun s2 y' y H2 x2 e2 g2 r2 o2 => ?_
  obtain ⟨z', h1, h2⟩ := rd_end (H := H2) o2
  exact opi_ix s2 H2 x y x' y' z' g2 (r1.mono x2) r2 h1 Q h2
def tIO (K : PySem.W.Frag) (mg : Str → Option Value) (xa : XA) (W : WX) (f : Env → M (Option Int)) : TO := fun σ H Q => ∃ σ' s, EnvR K xa s σ' σ ∧ Good K s H ∧
  Out s (f σ' s.h) (fun b s' => ∀ H', Good K s' H' → Q b H') (PXE K mg fun c d H' => W c d σ H')
theorem PO.imp {e : Option Expr} {t t' : TO} (h : PO X e t) (k : ∀ σ H Q, t' σ H Q → t σ H Q) : PO X e t' := ⟨fun pins s σ H Q I q => h.run pins s σ H Q I (k σ H Q q)⟩
theorem i_part {ev : Env → Expr → M Val} (he : ∀ e, PE X e (tI X.K X.mg xa W fun σ => ev σ e)) : ∀ o : Option Expr, PO X o (tIO X.K X.mg xa W fun σ => partE (ev σ) o)
  | none => by
    refine PO.imp po_none fun σ H Q h => ?_
    obtain ⟨σ', s, e, gd, o⟩ := h
    exact o s.m s.Z (Ext.refl s) H gd
  | some e => by
    refine PO.imp (po_some (he e)) fun σ H Q h => ?_
    obtain ⟨σ', s, e', gd, o⟩ := h
    refine ⟨σ', s, e', gd, (Out.bnd o).imp (fun x' s1 x1 o1 v H1 g1 r1 => ?_) fun _ _ _ z => z⟩
    obtain ⟨i, h1, h2⟩ := Out.rd o1
    obtain ⟨j, h3, rfl⟩ := Option.map_eq_some_iff.mp h1
    unfold intV at h3
    split at h3
    · cases h3
      obtain rfl := rep_int.mp r1
      exact ⟨_, rfl, h2 s1.m s1.Z (Ext.refl s1) H1 g1⟩
    · cases h3
theorem i_slice {lo hi : Option Expr} {p2 : Pos} {fl fh : Env → M (Option Int)} (ha : PE X a (tI X.K X.mg xa W fa)) (hl : PO X lo (tIO X.K X.mg xa W fl)) (hh : PO X hi (tIO X.K X.mg xa W fh)) :
    PE X (.Subscript a (.Slice lo hi none p2) p) (tI X.K X.mg xa W fun σ => bnd (fa σ) fun x => bnd (fl σ) fun l => bnd (fh σ) fun u => rd (cutD x l u)) := by
  refine PE.imp (pe_slice slr_any ha hl hh) fun σ H Q h => ?_
  obtain ⟨σ', s, e, gd, o⟩ := h
  refine out_bnd e gd o fun s1 x' x H1 _ e1 g1 r1 o1 => ?_
  refine ⟨σ', s1, e1, g1, (Out.bnd o1).imp (fun l s2 x2 o2 H2 g2 => ?_) fun _ _ _ z => z⟩
  refine ⟨σ', s2, e1.mono x2, g2, (Out.bnd o2).imp (fun u s3 x3 o3 H3 g3 => ?_) fun _ _ _ z => z⟩
  obtain ⟨z', h1, h2⟩ := rd_end (H := H3) o3
  exact sli_any g3 ((r1.mono x2).mono x3) h1 h2

/-! ### calls -/
theorem pCall_nil {f : Str} {h : MH} : pCall f [] h = none := by
  unfold pCall
  simp
theorem i_blt {f : Str} {ev : Env → Expr → M Val} {es : List Expr} {q : Pos} (c : CtxOk g cf xa W X C k) (hf : bltins.contains f = true) (hcal : C.calm = true) (hp : plainN f = true) (hg : glB C.sc f = true) (hs : noStar es = true)
    (ha : PA X es (tIA X.K X.mg xa W fun σ => seqE (ev σ) es)) : PE X (.Call (.Name f q) es [] p) (tI X.K X.mg xa W fun σ => bnd (seqE (ev σ) es) fun vs => rd (pCall f vs)) := by
  obtain ⟨u, r, B⟩ := blt_all' (K := X.K) (xa := xa) hf
  cases es with
  | nil =>
    refine PE.no fun σ H Q => ?_
    rintro ⟨σ', s, e, gd, o⟩
    obtain ⟨z', h1, h2⟩ := rd_end (K := X.K) (H := H) (Out.ret (Out.bnd o) s.m s.Z (Ext.refl s))
    rw [pCall_nil] at h1
    cases h1
  | cons e es =>
    have hm : X.mg f = none := c.gok.bl f (by
      have hf : f ∈ bltins := by simpa using hf
      unfold bltins at hf
      unfold bltNames
      simp only [List.mem_cons, List.not_mem_nil, or_false] at hf ⊢
      rcases hf with h | h | h | h | h | h | h | h | h | h | h <;> simp [h])
    refine PE.imp (pe_blt B (c.calm hcal) hp (c.gl hg) hm hs ha) fun σ H Q h => ?_
    obtain ⟨σ', s, e, gd, o⟩ := h
    refine ⟨σ', s, e, gd, (Out.bnd o).imp (fun vs' s1 x1 o1 vs H1 g1 r1 => ?_) fun _ _ _ z => z⟩
    obtain ⟨z', h1, h2⟩ := rd_end (H := H1) o1
    exact B.by' s1 H1 vs vs' z' g1 r1 h1 Q h2
/-- a call of a def -/
theorem pe_callS0 {CX : CXT} {k : Nat} {f : Addr} {fd : FuncData} {ps : List Str} {sp : Sp} {E : L2.St → XK} {x : Str} {q pos : Pos} (F : FnOk X.prog X.w X.K X.mg X.base CX k f fd ps sp) (hr : Room k X.A) (hg : Gl X x) (hm : X.mg x = some (.ref f)) (hk : PySem.W.keepIn X.K (.ref f) = true)
    (hb : Binds X.K fd ps []) (hx : ∀ σ, PassesAt CX X σ (E σ)) (hdb : (x == ("__debug__" : Str)) = false) : PE X (.Call (.Name x q) [] [] pos) (tCallS sp E tNil) := by
  refine ⟨fun pins s σ H Q I h => ?_⟩
  refine wpAny_Call_Name_kw (ld_glob I hg hm ?_ hdb)
  exact PySem.W.callWith_K0 I.kIn hk (run_fnS (us := []) F hr hb (hx σ) I .nil h)
theorem repVs_noxa (hn : ∀ e v, ¬ xa e v) {s : S} : ∀ {xs : List Val} {vs : List V}, RepVs K xa s xs vs → RepVs K noxa s xs vs
  | [], _, h => h
  | x :: xs, _, h => by
    obtain ⟨v, r, e1, e2, e3⟩ := h
    refine ⟨v, r, e1, ?_, repVs_noxa hn e3⟩
    cases x with
    | d x => exact e2
    | m i => exact e2
    | scr ns => exact e2
    | exc e => exact absurd e2 (hn e v)
theorem repV_noxa {s : S} {x : Val} {v : V} (h : RepV K noxa s x v) : RepV K xa s x v := by
  cases x with
  | d x => exact h
  | m i => exact h
  | scr ns => exact h
  | exc e => exact False.elim h
theorem i_user {f : Str} {fd : Fd} {ev : Env → Expr → M Val} {es : List Expr} {q : Pos} (c : CtxOk g cf xa W X C k) (hf : g.fns.lookup f = some fd) (hcal : C.calm = true) (hp : plainN f = true) (hg : glB C.sc f = true) (hs : noStar es = true)
    (ha : PA X es (tIA X.K X.mg xa W fun σ => seqE (ev σ) es)) : PE X (.Call (.Name f q) es [] p) (tI X.K X.mg xa W fun σ => bnd (seqE (ev σ) es) fun vs => if vs.length = fd.ps.length then cf f vs else stk) := by
  obtain ⟨af, fdat, hm, hk, hb, F⟩ := c.gok.fn f fd hf
  obtain ⟨hd, _, _⟩ := plain_of hp
  have fin : ∀ {σ : L2.St} {H1 : L2.Hp} {Q : VK} {s1 : S} {vs' : List Val} {vs : List V}, Good X.K s1 H1 → RepVs X.K xa s1 vs' vs →
      Out s1 ((if vs'.length = fd.ps.length then cf f vs' else stk) s1.h) (PQ X.K xa Q) (PXE X.K X.mg fun c d H' => W c d σ H') → spI X.K X.mg cf f fd.ps.length vs H1 Q (fun c d H' => W c d σ H') := by
    intro σ H1 Q s1 vs' vs g1 r1 o1
    by_cases hl : vs'.length = fd.ps.length
    · rw [if_pos hl] at o1
      refine ⟨by rw [r1.len]; exact hl, s1, vs', g1, repVs_noxa (c.nox hcal) r1, o1.imp (fun v' s2 _ o2 v H2 g2 r2 => o2 v H2 g2 (repV_noxa r2)) fun _ _ _ z => z⟩
    · rw [if_neg hl] at o1
      exact o1.elim
  cases es with
  | nil =>
    refine PE.imp (pe_callS0 (E := fun σ c d H' => W c d σ H') F (c.room hcal) (c.gl hg) hm hk hb (c.pas hcal) hd) fun σ H Q h => ?_
    obtain ⟨σ', s, e, gd, o⟩ := h
    exact fin (vs' := []) gd rfl (Out.ret (Out.bnd o) s.m s.Z (Ext.refl s))
  | cons e es =>
    obtain ⟨h1, h2⟩ := noStar_cons hs
    refine PE.imp (pe_callS (E := fun σ c d H' => W c d σ H') F (c.room hcal) (c.gl hg) hm hk hb (c.pas hcal) ha hd (star_cons h1) (star_plain h2 _ _)) fun σ H Q h => ?_
    obtain ⟨σ', s, e, gd, o⟩ := h
    exact ⟨σ', s, e, gd, (Out.bnd o).imp (fun vs' s1 x1 o1 vs H1 g1 r1 => fin g1 r1 o1) fun _ _ _ z => z⟩
/-! ### isinstance -/
theorem kitB_inst {t c : Str} {T T2 : String} (ht : t = Str.ofString T) (hc : c = Str.ofString T2) (h1 : T ∈ ["NoneType", "bool", "int", "str", "tuple", "list", "dict"]) (h2 : T2 ∈ ["int", "str", "tuple", "list", "bool", "dict"]) : kitB T T2 = some (instB t c) := by
  subst ht hc
  simp only [List.mem_cons, List.not_mem_nil, or_false] at h1 h2
  rcases h1 with rfl | rfl | rfl | rfl | rfl | rfl | rfl <;> rcases h2 with rfl | rfl | rfl | rfl | rfl | rfl <;> decide +kernel
theorem rep_ty {s : S} {H : L2.Hp} {x' : Val} {x : V} {t : Str} (gd : Good K s H) (r : RepV K xa s x' x) (e : tyD x' s.h = some t) : ∃ T : String, t = Str.ofString T ∧ T ∈ ["NoneType", "bool", "int", "str", "tuple", "list", "dict"] ∧ TyX K H x (.type T) := by
  unfold tyD at e
  split at e
  · cases e; obtain rfl := rep_non.mp r; exact ⟨"NoneType", rfl, by simp, .base .non⟩
  · cases e; obtain rfl := rep_bl.mp r; exact ⟨"bool", rfl, by simp, .base (.bl _)⟩
  · cases e; obtain rfl := rep_int.mp r; exact ⟨"int", rfl, by simp, .base (.int _)⟩
  · cases e; obtain rfl := rep_str.mp r; exact ⟨"str", rfl, by simp, .base (.str _)⟩
  · cases e
    obtain ⟨p, vs, rfl, h1, h2⟩ := rep_tup.mp r
    refine ⟨"tuple", rfl, by simp, ?_⟩
    rcases exT gd.ex h1 with (h | ⟨o, h⟩) | ⟨o, its, n, h3, h4, _⟩
    · exact .base (.tup h)
    · exact .fTuple h
    · exact .kTuple h3 h4
  · cases e
    obtain ⟨p, vs, rfl, h1, h2⟩ := rep_lst.mp r
    exact ⟨"list", rfl, by simp, .base (.lst (gd.ex _ _ h1))⟩
  · cases e
    obtain ⟨p, rfl, h1⟩ := rep_ed.mp r
    exact ⟨"dict", rfl, by simp, .base (.dK (gd.ex _ _ h1))⟩
  · rename_i i
    obtain ⟨rfl, hi⟩ := r
    split at e
    · rename_i ys e2
      cases e
      obtain ⟨_, vs, h1, h2⟩ := gd.obj i _ e2
      exact ⟨"list", rfl, by simp, .base (.lst h1)⟩
    · rename_i kvs e2
      cases e
      obtain ⟨_, ws, h1, h2⟩ := gd.obj i _ e2
      exact ⟨"dict", rfl, by simp, .base (.dK h1)⟩
    · cases e
  · cases e
end MI
set_option maxRecDepth 100000
namespace MI
open PySem PySem.Spec PyProof.Rows L2
variable {X : Cx} {K : PySem.W.Frag} {xa : XA} {g : G} {cf : Str → List Val → M Val} {W : WX} {C : Ctx} {k n : Nat}
variable {a b d t : Expr} {fa fb fc : Env → M Val} {p : Pos}

/-- a class as it is named in the text -/
theorem i_cls (c : CtxOk g cf xa W X C k) {x : Str} {q : Pos} (hp : plainN x = true) (hg : glB C.sc x = true) (hx : (kinds.contains x || clsOf g x) = true) (hv : X.mg "ValueError" = none) :
    ∃ v u, PE X (.Name x q) (tC v) ∧ ClsV v u ∧ (∀ T : String, kinds.contains x = true → x = Str.ofString T → T ∈ ["int", "str", "tuple", "list", "bool", "dict"] → u = .type T) ∧
      ∀ cv, ((X.mg x = some cv ∧ ∃ D, cv = .ref D) ∨ (X.mg x = none ∧ bootBuiltins x = some cv ∧ x ≠ "__name__" ∧ ∃ n, cv = .type n)) → u = cv := by
  obtain ⟨h1, h2, h3⟩ := plain_of hp
  by_cases hk : kinds.contains x = true
  · have hk' : x ∈ kinds := by simpa using hk
    have hm : X.mg x = none := c.gok.bl x (by
      unfold kinds at hk'
      unfold bltNames
      simp only [List.mem_cons, List.not_mem_nil, or_false] at hk' ⊢
      rcases hk' with h | h | h | h | h | h <;> simp [h])
    have hb : ∃ T : String, x = Str.ofString T ∧ T ∈ ["int", "str", "tuple", "list", "bool", "dict"] ∧ bootBuiltins x = some (.type T) := by
      unfold kinds at hk'
      simp only [List.mem_cons, List.not_mem_nil, or_false] at hk'
      rcases hk' with h | h | h | h | h | h <;> subst h
      · exact ⟨"int", rfl, by simp, by decide +kernel⟩
      · exact ⟨"str", rfl, by simp, by decide +kernel⟩
      · exact ⟨"tuple", rfl, by simp, by decide +kernel⟩
      · exact ⟨"list", rfl, by simp, by decide +kernel⟩
      · exact ⟨"bool", rfl, by simp, by decide +kernel⟩
      · exact ⟨"dict", rfl, by simp, by decide +kernel⟩
    obtain ⟨T, hT, hT2, hbt⟩ := hb
    refine ⟨.ty T, .type T, pe_bltn (c.gl hg) hm hbt rfl h3 h1, .ty T, fun T' _ hT' hm' => ?_, fun cv hcv => ?_⟩
    · rw [hT] at hT'
      simp only [List.mem_cons, List.not_mem_nil, or_false] at hT2 hm'
      rcases hT2 with rfl | rfl | rfl | rfl | rfl | rfl <;> rcases hm' with rfl | rfl | rfl | rfl | rfl | rfl <;> first | rfl | exact absurd hT' (by decide +kernel)
    · rcases hcv with ⟨h, _⟩ | ⟨_, h, _⟩
      · rw [hm] at h; cases h
      · rw [hbt] at h; exact Option.some.inj h
  · have hc : clsOf g x = true := by
      rcases Bool.or_eq_true_iff.mp hx with h | h
      · exact absurd h hk
      · exact h
    unfold clsOf at hc
    rcases Bool.or_eq_true_iff.mp hc with h | h
    · obtain ⟨Ca, hm⟩ : ∃ Ca, X.mg x = some (.ref Ca) := by
        rcases Bool.or_eq_true_iff.mp h with h | h
        · obtain ⟨l, hl⟩ := Option.isSome_iff_exists.mp h
          obtain ⟨Ca, hm, _⟩ := c.gok.ex x l hl
          exact ⟨Ca, hm⟩
        · exact c.gok.mr x h
      refine ⟨.ref Ca, .ref Ca, pe_glob (c.gl hg) hm rfl h1, .own Ca, fun T hk' => absurd hk' hk, fun cv hcv => ?_⟩
      rcases hcv with ⟨h, _⟩ | ⟨h, _⟩
      · rw [hm] at h; exact Option.some.inj h
      · rw [hm] at h; cases h
    · have hx : x = "ValueError" := beq_iff_eq.mp h
      subst hx
      have hb : bootBuiltins "ValueError" = some (.type "ValueError") := by decide +kernel
      refine ⟨.ty "ValueError", .type "ValueError", pe_bltn (c.gl hg) hv hb rfl h3 h1, .ty _, fun T hk' => absurd hk' hk, fun cv hcv => ?_⟩
      rcases hcv with ⟨h, _⟩ | ⟨_, h, _⟩
      · rw [hv] at h; cases h
      · rw [hb] at h; exact Option.some.inj h
theorem i_isinst {x : Str} {q q2 : Pos} (c : CtxOk g cf xa W X C k) (hp : plainN x = true) (hgi : glB C.sc ("isinstance" : Str) = true) (hg : glB C.sc x = true) (hs : notStar a = true) (hx : (kinds.contains x || clsOf g x) = true)
    (ha : PE X a (tI X.K X.mg xa W fa)) : PE X (.Call (.Name "isinstance" q) [a, .Name x q2] [] p) (tI X.K X.mg xa W fun σ => bnd (fa σ) fun v => rd fun h => (isInst g v x h).map bl) := by
  have hv : X.mg "ValueError" = none := c.gok.bl _ (by decide +kernel)
  obtain ⟨cv, cu, pc, hcl, hk1, hk2⟩ := i_cls c (q := q2) hp hg hx hv
  have hm : X.mg "isinstance" = none := c.gok.bl _ (by decide +kernel)
  refine PE.imp (pe_callB (CallR.or call_isi c.isE) (c.gl hgi) hm (by decide +kernel) (pa_cons ha (pa_cons pc pa_nil) (star_cons hs)) (by decide) (by decide) (star_cons hs) (star_plain (es := [.Name x q2]) rfl _ _)) fun σ H Q h => ?_
  obtain ⟨σ', s, e, gd, o⟩ := h
  refine out_bnd e gd o fun s1 x' y H1 _ e1 g1 r1 o1 => ?_
  obtain ⟨z', h1, h2⟩ := rd_end (H := H1) o1
  obtain ⟨bb, h3, rfl⟩ := Option.map_eq_some_iff.mp h1
  have done := fin_d g1 h2 (rep_bl (i := bb).mpr rfl)
  unfold isInst at h3
  split at h3
  · rename_i ex
    have r1' : xa ex y := r1
    obtain ⟨l, hl⟩ := c.xl ex y r1'
    obtain ⟨Ca, hm2, ef⟩ := c.gok.ex _ l hl
    rw [hl] at h3
    simp only at h3
    split at h3
    · rename_i hco
      cases h3
      obtain ⟨cv2, h4, h5, h6⟩ := ef.is x hco
      have hu := hk2 cv2 h4
      subst hu
      refine .inr ⟨ex, y, cv, cu, Ca, rfl, r1', hm2, fun u hu => hcl.eq hu, _, h5, done⟩
    · cases h3
  · split at h3
    · rename_i tt ht
      split at h3
      · rename_i hkk
        cases h3
        obtain ⟨T, hT, hT2, ty⟩ := rep_ty g1 r1 ht
        have hk' : x ∈ kinds := by simpa using hkk
        have hb : ∃ T : String, x = Str.ofString T ∧ T ∈ ["int", "str", "tuple", "list", "bool", "dict"] := by
          unfold kinds at hk'
          simp only [List.mem_cons, List.not_mem_nil, or_false] at hk'
          rcases hk' with h | h | h | h | h | h <;> subst h
          · exact ⟨"int", rfl, by simp⟩
          · exact ⟨"str", rfl, by simp⟩
          · exact ⟨"tuple", rfl, by simp⟩
          · exact ⟨"list", rfl, by simp⟩
          · exact ⟨"bool", rfl, by simp⟩
          · exact ⟨"dict", rfl, by simp⟩
        obtain ⟨T2, hx2, hT3⟩ := hb
        have hu := hk1 T2 hkk hx2 hT3
        subst hu
        exact .inl ⟨y, cv, .type T, .type T2, _, rfl, hcl, ty, kit_ty (kitB_inst hT hx2 hT2 hT3), done⟩
      · cases h3
    · cases h3

/-! ### methods of texts and lists -/
theorem base_of {o : Expr} {m : Str} {env : PySem.Env} (h : okBase o = true) : attributeBase o m env (eval o env) = eval o env := by
  cases o <;> first | rfl | exact absurd (show false = true from h) Bool.false_ne_true
theorem i_upper {q : Pos} (hb : okBase a = true) (hl : (q.endLine == p.line) = true) (ha : PE X a (tI X.K X.mg xa W fa)) :
    PE X (.Call (.Attribute a "upper" q) [] [] p) (tI X.K X.mg xa W fun σ => bnd (fa σ) fun x => rd fun _ => match x with | .d (.str s) => gd (decide (s.length ≤ 5592405)) (.d (.str (Txt.upper s))) | _ => none) := by
  refine PE.imp (pe_upper ha (base_of hb) hl) fun σ H Q h => ?_
  obtain ⟨σ', s, e, gd', o⟩ := h
  refine out_bnd e gd' o fun s1 x' y H1 _ e1 g1 r1 o1 => ?_
  obtain ⟨z', h1, h2⟩ := rd_end (H := H1) o1
  split at h1
  · obtain ⟨h3, rfl⟩ := gd_some h1
    obtain rfl := rep_str.mp r1
    exact ⟨⟨_, rfl⟩, _, rfl, rfl, of_decide_eq_true h3, fin_d g1 h2 (rep_str.mpr rfl)⟩
  · cases h1
theorem few_one {a : Expr} {env : PySem.Env} {p : Pos} (hs : notStar a = true) : ((backTo p (starEach [a] env)).all (fun x => !x.1) && (backToKw p (keywordEach [] env)).all (fun x => x.1.isSome) && decide ([a].length + ([] : List Keyword).length + (if ([] : List Keyword).isEmpty then 0 else 1) < 30)) = true := by
  rw [star_cons hs]
  rfl
theorem i_append {q : Pos} (hs : notStar b = true) (hb : okBase a = true) (hl : (q.endLine == p.line) = true) (ha : PE X a (tI X.K X.mg xa W fa)) (hb2 : PE X b (tI X.K X.mg xa W fb)) :
    PE X (.Call (.Attribute a "append" q) [b] [] p) (tI X.K X.mg xa W fun σ => bnd (fa σ) fun x => bnd (rd fun h => mlst x h) fun _ => bnd (fb σ) fun y => fun h => match x, y with
          | .m i, .d v => match h[i]? with
            | some (.lst xs) => if xs.length < 16777216 then .ok (.d .non) (h.set i (.lst (xs ++ [v]))) else .stuck
            | _ => .stuck
          | _, _ => .stuck) := by
  refine PE.imp (pe_bm PySem.F.plainAttrs_list PySem.F.slot_list_append PySem.F.type_list_append mt_append ha (pa_cons hb2 pa_nil (star_cons hs)) (base_of hb) (few_one hs) hl (star_cons hs) rfl) fun σ H Q h => ?_
  obtain ⟨σ', s, e, gd', o⟩ := h
  refine out_bnd e gd' o fun s1 x' y H1 _ e1 g1 r1 o1 => ?_
  obtain ⟨its, h1, h2⟩ := Out.rd (Out.bnd o1)
  have h2 := h2 s1.m s1.Z (Ext.refl s1)
  cases x' with
  | m i =>
    obtain ⟨rfl, hi⟩ := r1
    refine ⟨?_, ?_⟩
    · have h1 : items (.m i) s1.h = some its := h1
      unfold items at h1
      simp only at h1
      split at h1
      · rename_i ys e2
        obtain ⟨_, vs, h3, h4⟩ := g1.obj i _ e2
        exact .inl ⟨rfl, vs, SqL.of h3⟩
      · cases h1
    · refine out_bnd e1 g1 h2 fun s2 y' y H2 x2 e2 g2 r2 o2 => ?_
      cases y' with
      | d v =>
        cases h5 : s2.h[i]? with
        | none => simp only [h5] at o2; exact o2.elim
        | some ob =>
          cases ob with
          | dict kvs => simp only [h5] at o2; exact o2.elim
          | lst xs =>
            simp only [h5] at o2
            split at o2
            · rename_i hlen
              obtain ⟨_, vs, h3, h4⟩ := g2.obj i _ h5
              have hi2 : i < s2.h.length := (List.getElem?_eq_some_iff.mp h5).1
              refine ⟨s2.m i, vs, y, by rw [x2.m i hi], rfl, h3, by rw [h4.len, sizeLine_eq]; exact hlen, ?_⟩
              have r2' : Rep X.K s2.Z v y := r2
              exact o2 s2.m s2.Z Ext.write .non _ (g2.write hi2 ⟨_, rfl, h4.append (.cons r2' .nil)⟩) (rep_non.mpr rfl)
            · exact o2.elim
      | m j => exact o2.elim
      | scr ns => exact o2.elim
      | exc ee => exact o2.elim
  | d v => cases h1
  | scr ns => cases h1
  | exc ee => cases h1

/-! ### ranges -/
theorem okRg_of {i j : Int} (h : okRg i j = true) : RgOk i j := by
  unfold okRg at h
  simp only [Bool.and_eq_true, decide_eq_true_eq] at h
  obtain ⟨⟨⟨⟨h1, h2⟩, h3⟩, h4⟩, h5⟩ := h
  exact ⟨h1, h2, h3, h4, h5⟩
theorem rgD_rep {Z : L2.Hp} (i j : Int) : RepL K Z (rgD i j) (rgV i j) := by
  unfold rgD rgV
  generalize (j - i).toNat = m
  have : ∀ l : List Nat, RepL K Z (l.map fun (q : Nat) => D.int (i + (q : Nat))) (l.map fun (q : Nat) => V.int (i + (q : Nat))) := by
    intro l
    induction l with
    | nil => exact .nil
    | cons x r ih => exact .cons (by unfold Rep; rfl) ih
  exact this _
def tIR (K : PySem.W.Frag) (mg : Str → Option Value) (xa : XA) (W : WX) (f : Env → M (Int × Int)) : L2.St → L2.Hp → (Int → Int → L2.Hp → Prop) → Prop := fun σ H Q => ∃ σ' s, EnvR K xa s σ' σ ∧ Good K s H ∧
  Out s (f σ' s.h) (fun q s' => ∀ H', Good K s' H' → okRg q.1 q.2 = true → Q q.1 q.2 H') (PXE K mg fun c d H' => W c d σ H')
theorem PRg.imp {e : Expr} {t t' : L2.St → L2.Hp → (Int → Int → L2.Hp → Prop) → Prop} (h : PRg X e t) (k : ∀ σ H Q, t' σ H Q → t σ H Q) : PRg X e t' := fun pins s σ H Q I q => h pins s σ H Q I (k σ H Q q)
theorem PRg.no {e : Expr} {t : L2.St → L2.Hp → (Int → Int → L2.Hp → Prop) → Prop} (k : ∀ σ H Q, ¬ t σ H Q) : PRg X e t := fun pins s σ H Q I q => (k σ H Q q).elim
theorem i_range {ev : Env → Expr → M Val} {es : List Expr} {q : Pos} (c : CtxOk g cf xa W X C k) (hg : glB C.sc ("range" : Str) = true) (hs : noStar es = true) (he : ∀ e, PE X e (tI X.K X.mg xa W fun σ => ev σ e)) :
    PRg X (.Call (.Name "range" q) es [] p) (tIR X.K X.mg xa W fun σ => rangeE (ev σ) es) := by
  have hm : X.mg "range" = none := c.gok.bl _ (by decide +kernel)
  match es, hs with
  | [], _ => exact PRg.no fun σ H Q ⟨σ', s, e, gd, o⟩ => o
  | [a], hs =>
    obtain ⟨h1, h2⟩ := noStar_cons hs
    refine PRg.imp (prg_1 (c.gl hg) hm (he a) (star_cons h1)) fun σ H Q h => ?_
    obtain ⟨σ', s, e, gd, o⟩ := h
    refine ⟨σ', s, e, gd, (Out.bnd o).imp (fun x' s1 x1 o1 v H1 g1 r1 => ?_) fun _ _ _ z => z⟩
    obtain ⟨pr, h3, h4⟩ := Out.rd o1
    obtain ⟨i, h5, h6⟩ := Option.bind_eq_some_iff.mp h3
    obtain ⟨h7, rfl⟩ := gd_some h6
    unfold intV at h5
    split at h5
    · cases h5
      obtain rfl := rep_int.mp r1
      exact ⟨_, rfl, h4 s1.m s1.Z (Ext.refl s1) H1 g1 h7⟩
    · cases h5
  | [a, b], hs =>
    obtain ⟨h1, h2⟩ := noStar_cons hs
    obtain ⟨h2a, _⟩ := noStar_cons h2
    refine PRg.imp (prg_2 (c.gl hg) hm (he a) (he b) (star_cons h1) (star_cons h2a) (star_plain h2 _ _)) fun σ H Q h => ?_
    obtain ⟨σ', s, e, gd, o⟩ := h
    refine ⟨σ', s, e, gd, (Out.bnd o).imp (fun x' s1 x1 o1 v H1 g1 r1 => ?_) fun _ _ _ z => z⟩
    refine ⟨σ', s1, e.mono x1, g1, (Out.bnd o1).imp (fun y' s2 x2 o2 w H2 g2 r2 => ?_) fun _ _ _ z => z⟩
    obtain ⟨pr, h3, h4⟩ := Out.rd o2
    obtain ⟨i, h5, h6⟩ := Option.bind_eq_some_iff.mp h3
    obtain ⟨j, h8, h9⟩ := Option.bind_eq_some_iff.mp h6
    obtain ⟨h7, rfl⟩ := gd_some h9
    unfold intV at h5 h8
    split at h5
    · cases h5
      split at h8
      · cases h8
        obtain rfl := rep_int.mp (r1.mono x2)
        obtain rfl := rep_int.mp r2
        exact ⟨_, _, rfl, rfl, h4 s2.m s2.Z (Ext.refl s2) H2 g2 h7⟩
      · cases h8
    · cases h5
  | a :: b :: d :: r, _ => exact PRg.no fun σ H Q ⟨σ', s, e, gd, o⟩ => o
theorem i_lrange {f : Str} {q q2 p2 : Pos} {ev : Env → Expr → M Val} {es : List Expr} (c : CtxOk g cf xa W X C k) (hf : (f == ("list" : Str) || f == ("tuple" : Str)) = true) (hgf : glB C.sc f = true) (hg : glB C.sc ("range" : Str) = true) (hcal : C.calm = true) (hs : noStar es = true)
    (he : ∀ e, PE X e (tI X.K X.mg xa W fun σ => ev σ e)) :
    PE X (.Call (.Name f q) [.Call (.Name "range" q2) es [] p2] [] p) (tI X.K X.mg xa W fun σ => bnd (rangeE (ev σ) es) fun r => ret (.d (if f == ("list" : Str) then .lst (rgD r.1 r.2) else .tup (rgD r.1 r.2)))) := by
  have hr := i_range (p := p2) (q := q2) c hg hs he
  rcases Bool.or_eq_true_iff.mp hf with h | h
  · obtain rfl := beq_iff_eq.mp h
    have hm : X.mg "list" = none := c.gok.bl _ (by decide +kernel)
    refine PE.imp (pe_listRg (c.calm hcal) (c.gl hgf) hm hr rfl) fun σ H Q h => ?_
    obtain ⟨σ', s, e, gd, o⟩ := h
    refine ⟨σ', s, e, gd, (Out.bnd o).imp (fun pr s1 x1 o1 H1 g1 ok => ?_) fun _ _ _ z => z⟩
    refine ⟨okRg_of ok, fun u hu => ?_⟩
    obtain ⟨g', ez, _⟩ := g1.laid (o := .lst (rgV pr.1 pr.2)) hu
    exact o1 s1.m _ (Ext.ofZ ez) _ _ g' (rep_lst.mpr ⟨u, _, rfl, upd_same, rgD_rep _ _⟩)
  · obtain rfl := beq_iff_eq.mp h
    have hm : X.mg "tuple" = none := c.gok.bl _ (by decide +kernel)
    refine PE.imp (pe_tupRg (c.calm hcal) (c.gl hgf) hm hr rfl) fun σ H Q h => ?_
    obtain ⟨σ', s, e, gd, o⟩ := h
    refine ⟨σ', s, e, gd, (Out.bnd o).imp (fun pr s1 x1 o1 H1 g1 ok => ?_) fun _ _ _ z => z⟩
    refine ⟨okRg_of ok, fun u hu => ?_⟩
    obtain ⟨g', ez, _⟩ := g1.laid (o := .tup (rgV pr.1 pr.2)) hu
    exact o1 s1.m _ (Ext.ofZ ez) _ _ g' (rep_tup.mpr ⟨u, _, rfl, SqT.of upd_same, rgD_rep _ _⟩)

/-! ### what is gone through -/
/-- the walk J gives these items, whatever happens on the way -/
def Serves (K : PySem.W.Frag) (J : It) (its : List D) (s0 : S) : Prop := ∀ (s : S) (H : L2.Hp), ExH s0.Z s.Z → Good K s H →
  (∀ (i : Nat) (x : D), its[i]? = some x → J.go i H ∧ ∀ v H', J.yld i H v H' → ∃ Z', ExH s.Z Z' ∧ Good K ⟨s.m, Z', s.h, s.F⟩ H' ∧ Rep K Z' x v) ∧ (∀ i, its.length ≤ i → J.stop i H)
theorem serves_list {s0 : S} {p : Addr} {vs : List V} {its : List D} (h : s0.Z p = some (.lst vs)) (r : RepL K s0.Z its vs) : Serves K (Itl K p) its s0 := by
  intro s H ez gd
  have hq : SqL K H p vs := SqL.of (gd.ex _ _ (ez _ _ h))
  refine ⟨fun i x e => ?_, fun i hi => ⟨vs, hq, by rw [r.len]; exact hi⟩⟩
  obtain ⟨v, h1, h2⟩ := r.get e
  refine ⟨⟨vs, v, hq, h1⟩, fun u H' hy => ?_⟩
  obtain ⟨rfl, hy⟩ := hy
  have := hy vs hq
  rw [h1] at this
  cases this
  exact ⟨s.Z, ExH.refl _, gd, h2.mono ez⟩
theorem serves_tup {s0 : S} {p : Addr} {vs : List V} {its : List D} (h : SqT K s0.Z p vs) (r : RepL K s0.Z its vs) : Serves K (Itt K p) its s0 := by
  intro s H ez gd
  have hq : SqT K H p vs := exT gd.ex (exT ez h)
  refine ⟨fun i x e => ?_, fun i hi => ⟨vs, hq, by rw [r.len]; exact hi⟩⟩
  obtain ⟨v, h1, h2⟩ := r.get e
  refine ⟨⟨vs, v, hq, h1⟩, fun u H' hy => ?_⟩
  obtain ⟨rfl, hy⟩ := hy
  have := hy vs hq
  rw [h1] at this
  cases this
  exact ⟨s.Z, ExH.refl _, gd, h2.mono ez⟩
theorem serves_range {s0 : S} (i j : Int) : Serves K (Itr i (j - i).toNat) (rgD i j) s0 := by
  intro s H ez gd
  have hl : (rgD i j).length = (j - i).toNat := by unfold rgD; rw [List.length_map, List.length_range]
  refine ⟨fun m x e => ?_, fun m hm => by rw [hl] at hm; exact hm⟩
  have hm : m < (j - i).toNat := by rw [← hl]; exact (List.getElem?_eq_some_iff.mp e).1
  refine ⟨hm, fun u H' hy => ?_⟩
  obtain ⟨rfl, rfl⟩ := hy
  refine ⟨s.Z, ExH.refl _, gd, ?_⟩
  unfold rgD at e
  rw [List.getElem?_map, List.getElem?_range hm] at e
  cases e
  unfold Rep
  rfl
theorem zipD_len : ∀ xs ys : List D, (zipD xs ys).length = min xs.length ys.length
  | [], ys => by cases ys <;> simp [zipD]
  | x :: xs, [] => by simp [zipD]
  | x :: xs, y :: ys => by
    unfold zipD
    rw [List.length_cons, zipD_len xs ys, List.length_cons, List.length_cons]
    omega
theorem zipD_get : ∀ {xs ys : List D} {i : Nat} {x : D}, (zipD xs ys)[i]? = some x → ∃ a b, x = .tup [a, b] ∧ xs[i]? = some a ∧ ys[i]? = some b
  | [], ys, i, x, h => by
    have : zipD [] ys = [] := by cases ys <;> rfl
    rw [this] at h; simp at h
  | a :: xs, [], i, x, h => by simp [zipD] at h
  | a :: xs, b :: ys, 0, x, h => by
    have h : D.tup [a, b] = x := by simpa [zipD] using h
    exact ⟨a, b, h.symm, rfl, rfl⟩
  | a :: xs, b :: ys, i + 1, x, h => by
    obtain ⟨c, d, h1, h2, h3⟩ := zipD_get (xs := xs) (ys := ys) (i := i) (x := x) (by simpa [zipD] using h)
    exact ⟨c, d, h1, by simpa using h2, by simpa using h3⟩
theorem serves_zipL {s0 : S} {p q : Addr} {vs ws : List V} {xs ys : List D} (h : s0.Z p = some (.lst vs)) (r : RepL K s0.Z xs vs) (h' : s0.Z q = some (.lst ws)) (r' : RepL K s0.Z ys ws) : Serves K (Itz K p q) (zipD xs ys) s0 := by
  intro s H ez gd
  have hp : SqL K H p vs := SqL.of (gd.ex _ _ (ez _ _ h))
  have hq : SqL K H q ws := SqL.of (gd.ex _ _ (ez _ _ h'))
  refine ⟨fun i x e => ?_, fun i hi => ⟨vs, ws, hp, hq, ?_⟩⟩
  · obtain ⟨a, b, rfl, e1, e2⟩ := zipD_get e
    obtain ⟨v, h1, h2⟩ := r.get e1
    obtain ⟨w, h3, h4⟩ := r'.get e2
    refine ⟨⟨vs, ws, v, w, hp, hq, h1, h3⟩, fun u H' hy => ?_⟩
    obtain ⟨T, y, z, rfl, hT, rfl, f1, f2⟩ := hy
    have f1 := f1 vs hp
    have f2 := f2 ws hq
    rw [h1] at f1; rw [h3] at f2
    cases f1; cases f2
    obtain ⟨g', ez', _⟩ := gd.laid (o := .tup [v, w]) hT
    refine ⟨_, ez', g', ?_⟩
    unfold Rep
    exact ⟨T, [v, w], rfl, SqT.of upd_same, .cons (h2.mono (ez.trans ez')) (.cons (h4.mono (ez.trans ez')) .nil)⟩
  · rw [zipD_len] at hi
    rw [r.len, r'.len]
    omega
theorem serves_zipT {s0 : S} {p q : Addr} {vs ws : List V} {xs ys : List D} (h : SqT K s0.Z p vs) (r : RepL K s0.Z xs vs) (h' : SqT K s0.Z q ws) (r' : RepL K s0.Z ys ws) : Serves K (RZ.ItzT K p q) (zipD xs ys) s0 := by
  intro s H ez gd
  have hp : SqT K H p vs := exT gd.ex (exT ez h)
  have hq : SqT K H q ws := exT gd.ex (exT ez h')
  refine ⟨fun i x e => ?_, fun i hi => ⟨vs, ws, hp, hq, ?_⟩⟩
  · obtain ⟨a, b, rfl, e1, e2⟩ := zipD_get e
    obtain ⟨v, h1, h2⟩ := r.get e1
    obtain ⟨w, h3, h4⟩ := r'.get e2
    refine ⟨⟨vs, ws, v, w, hp, hq, h1, h3⟩, fun u H' hy => ?_⟩
    obtain ⟨T, y, z, rfl, hT, rfl, f1, f2⟩ := hy
    have f1 := f1 vs hp
    have f2 := f2 ws hq
    rw [h1] at f1; rw [h3] at f2
    cases f1; cases f2
    obtain ⟨g', ez', _⟩ := gd.laid (o := .tup [v, w]) hT
    refine ⟨_, ez', g', ?_⟩
    unfold Rep
    exact ⟨T, [v, w], rfl, SqT.of upd_same, .cons (h2.mono (ez.trans ez')) (.cons (h4.mono (ez.trans ez')) .nil)⟩
  · rw [zipD_len] at hi
    rw [r.len, r'.len]
    omega
def tII (K : PySem.W.Frag) (mg : Str → Option Value) (xa : XA) (W : WX) (f : Env → M (List D)) : TI := fun σ H R => ∃ σ' s, EnvR K xa s σ' σ ∧ Good K s H ∧
  Out s (f σ' s.h) (fun its s' => ∀ J H', Good K s' H' → Serves K J its s' → R J H') (PXE K mg fun c d H' => W c d σ H')
theorem PIn.imp {tg e : Expr} {t t' : TI} (h : PI X tg e t) (k : ∀ σ H Q, t' σ H Q → t σ H Q) : PI X tg e t' := ⟨fun pins s σ H Q I q => h.run pins s σ H Q I (k σ H Q q)⟩
theorem PIn.no {tg e : Expr} {t : TI} (k : ∀ σ H Q, ¬ t σ H Q) : PI X tg e t := ⟨fun pins s σ H Q I q => (k σ H Q q).elim⟩
theorem PIn.or {tg e : Expr} {t t' : TI} (h : PI X tg e t) (h' : PI X tg e t') : PI X tg e (fun σ H R => t σ H R ∨ t' σ H R) := ⟨fun pins s σ H Q I q => q.elim (fun q => h.run pins s σ H Q I q) fun q => h'.run pins s σ H Q I q⟩
/-- one walk or the other, by what the thing is -/
theorem pi_lt {tg l : Expr} {tl : TE} (hl : PE X l tl) : PI X tg l (fun σ H R => tl σ H fun x H1 => (∃ a, x = .ref a ∧ (∃ xs, SqL X.K H1 a xs) ∧ R (Itl X.K a) H1) ∨ (∃ a, x = .ref a ∧ (∃ xs, SqT X.K H1 a xs) ∧ R (Itt X.K a) H1)) := by
  refine ⟨fun pins s σ H R I h => ?_⟩
  refine thn (hl.run pins s σ H _ I h) fun v s1 ⟨x, H1, I1, r1, q1⟩ => ?_
  rcases q1 with ⟨a, e, ⟨xs, hq⟩, q⟩ | ⟨a, e, ⟨xs, hq⟩, q⟩
  · subst e
    cases r1
    obtain ⟨its, rv, p, hz⟩ := I1.list hq
    refine wpAny_pyIter_list p.isList ?_
    refine ⟨s1.heap.objs.size, [s1.heap.objs.size], _, _, H1, rfl, I1.kept (t' := s1.toks) fun b o e => Heap.get?_push_of_some _ e, turn_list a _, ⟨_, Heap.get?_push_size _ rfl, rfl, rfl⟩, fun b hb => ?_, q⟩
    have e : b = s1.heap.objs.size := by simpa using hb
    subst e
    exact I1.fpOk (Nat.le_refl _) (I1.hok.fresh (Nat.le_refl _))
  · subst e
    cases r1
    obtain ⟨its, rv, p, hz⟩ := I1.tuple hq
    refine wpAny_pyIter_tuple (show s1.heap.IsTuple a its.toArray from p) ?_
    refine ⟨s1.heap.objs.size, [s1.heap.objs.size], _, _, H1, rfl, I1.kept (t' := s1.toks) fun b o e => Heap.get?_push_of_some _ e, turn_tuple a _, ⟨_, Heap.get?_push_size _ rfl, rfl, rfl⟩, fun b hb => ?_, q⟩
    have e : b = s1.heap.objs.size := by simpa using hb
    subst e
    exact I1.fpOk (Nat.le_refl _) (I1.hok.fresh (Nat.le_refl _))
theorem i_iter {tg : Expr} (ha : PE X a (tI X.K X.mg xa W fa)) : PI X tg a (tII X.K X.mg xa W fun σ => bnd (fa σ) fun x => rd fun _ => frozen x) := by
  refine PIn.imp (pi_lt ha) fun σ H R h => ?_
  obtain ⟨σ', s, e, gd, o⟩ := h
  refine ⟨σ', s, e, gd, (Out.bnd o).imp (fun x' s1 x1 o1 v H1 g1 r1 => ?_) fun _ _ _ z => z⟩
  obtain ⟨its, h1, h2⟩ := Out.rd o1
  have h2 := h2 s1.m s1.Z (Ext.refl s1)
  unfold frozen at h1
  split at h1
  · cases h1
    obtain ⟨q, vs, rfl, h3, h4⟩ := rep_lst.mp r1
    exact .inl ⟨q, rfl, ⟨vs, SqL.of (g1.ex _ _ h3)⟩, h2 _ _ g1 (serves_list h3 h4)⟩
  · cases h1
    obtain ⟨q, vs, rfl, h3, h4⟩ := rep_tup.mp r1
    exact .inr ⟨q, rfl, ⟨vs, exT g1.ex h3⟩, h2 _ _ g1 (serves_tup h3 h4)⟩
  · cases h1
theorem i_irange {tg : Expr} {ev : Env → Expr → M Val} {es : List Expr} {q : Pos} (c : CtxOk g cf xa W X C k) (hg : glB C.sc ("range" : Str) = true) (hs : noStar es = true) (he : ∀ e, PE X e (tI X.K X.mg xa W fun σ => ev σ e)) :
    PI X tg (.Call (.Name "range" q) es [] p) (tII X.K X.mg xa W fun σ => bnd (rangeE (ev σ) es) fun r => ret (rgD r.1 r.2)) := by
  have hm : X.mg "range" = none := c.gok.bl _ (by decide +kernel)
  match es, hs with
  | [], _ => exact PIn.no fun σ H Q ⟨σ', s, e, gd, o⟩ => o
  | [a], hs =>
    obtain ⟨h1, h2⟩ := noStar_cons hs
    refine PIn.imp (pi_range1 (c.gl hg) hm (pa_cons (he a) pa_nil (star_cons h1)) (by rw [star_cons h1] <;> rfl)) fun σ H Q h => ?_
    obtain ⟨σ', s, e, gd, o⟩ := h
    refine ⟨σ', s, e, gd, (Out.bnd (Out.bnd o)).imp (fun x' s1 x1 o1 v H1 g1 r1 => ?_) fun _ _ _ z => z⟩
    obtain ⟨pr, h3, h4⟩ := Out.rd o1
    have h4 := h4 s1.m s1.Z (Ext.refl s1)
    obtain ⟨i, h5, h6⟩ := Option.bind_eq_some_iff.mp h3
    obtain ⟨h7, rfl⟩ := gd_some h6
    unfold intV at h5
    split at h5
    · cases h5
      obtain rfl := rep_int.mp r1
      have ok := okRg_of h7
      have sv := serves_range (K := X.K) (s0 := s1) 0 i
      rw [Int.sub_zero] at sv
      exact ⟨i, rfl, ok.2.2.1, ok.2.2.2.1, h4 s1.m s1.Z (Ext.refl s1) _ _ g1 sv⟩
    · cases h5
  | [a, b], hs =>
    obtain ⟨h1, h2⟩ := noStar_cons hs
    obtain ⟨h2a, _⟩ := noStar_cons h2
    refine PIn.imp (pi_range2 (c.gl hg) hm (pa_cons (he a) (pa_cons (he b) pa_nil (star_cons h2a)) (star_cons h1)) (by rw [star_cons h1, star_cons h2a] <;> rfl) (by rw [star_cons h2a] <;> rfl)) fun σ H Q h => ?_
    obtain ⟨σ', s, e, gd, o⟩ := h
    refine ⟨σ', s, e, gd, (Out.bnd (Out.bnd o)).imp (fun x' s1 x1 o1 v H1 g1 r1 => ?_) fun _ _ _ z => z⟩
    refine ⟨σ', s1, e.mono x1, g1, (Out.bnd o1).imp (fun y' s2 x2 o2 w H2 g2 r2 => ?_) fun _ _ _ z => z⟩
    obtain ⟨pr, h3, h4⟩ := Out.rd o2
    have h4 := h4 s2.m s2.Z (Ext.refl s2)
    obtain ⟨i, h5, h6⟩ := Option.bind_eq_some_iff.mp h3
    obtain ⟨j, h8, h9⟩ := Option.bind_eq_some_iff.mp h6
    obtain ⟨h7, rfl⟩ := gd_some h9
    unfold intV at h5 h8
    split at h5
    · cases h5
      split at h8
      · cases h8
        obtain rfl := rep_int.mp (r1.mono x2)
        obtain rfl := rep_int.mp r2
        have ok := okRg_of h7
        exact ⟨_, _, rfl, ⟨ok.1, ok.2.1, ok.2.2.1, ok.2.2.2.1⟩, h4 s2.m s2.Z (Ext.refl s2) _ _ g2 (serves_range _ _)⟩
      · cases h8
    · cases h5
  | a :: b :: d :: r, _ => exact PIn.no fun σ H Q ⟨σ', s, e, gd, o⟩ => o
theorem i_izip {tp : Pos} {elts : List Expr} {kk : Nat} {ev : Env → Expr → M Val} {q : Pos} (c : CtxOk g cf xa W X C k) (hg : glB C.sc ("zip" : Str) = true) (hs : noStar [a, b] = true) (ha : PA X [a, b] (tIA X.K X.mg xa W fun σ => seqE (ev σ) [a, b])) :
    PI X (.Tuple elts kk tp) (.Call (.Name "zip" q) [a, b] [] p) (tII X.K X.mg xa W fun σ => bnd (seqE (ev σ) [a, b]) fun vs => rd fun _ => match vs with
            | [.d (.lst l), .d (.lst k)] => some (zipD l k)
            | [.d (.tup l), .d (.tup k)] => some (zipD l k)
            | _ => none) := by
  have hm : X.mg "zip" = none := c.gok.bl _ (by decide +kernel)
  obtain ⟨h1, h2⟩ := noStar_cons hs
  refine PIn.imp (RZ.pi_zipA (c.gl hg) hm ha (star_cons h1) (star_plain h2 _ _)) fun σ H R h => ?_
  obtain ⟨σ', s, e, gd, o⟩ := h
  refine ⟨σ', s, e, gd, (Out.bnd o).imp (fun vs' s1 x1 o1 vs H1 g1 r1 => ?_) fun _ _ _ z => z⟩
  obtain ⟨its, h3, h4⟩ := Out.rd o1
  have h4 := h4 s1.m s1.Z (Ext.refl s1)
  split at h3
  · cases h3
    obtain ⟨v, w, rfl, r2, r3⟩ := r1.two
    obtain ⟨u, us, rfl, h5, h6⟩ := rep_lst.mp r2
    obtain ⟨u', us', rfl, h7, h8⟩ := rep_lst.mp r3
    exact ⟨u, u', us, us', rfl, .inl ⟨SqL.of (g1.ex _ _ h5), SqL.of (g1.ex _ _ h7), h4 _ _ g1 (serves_zipL h5 h6 h7 h8)⟩⟩
  · cases h3
    obtain ⟨v, w, rfl, r2, r3⟩ := r1.two
    obtain ⟨u, us, rfl, h5, h6⟩ := rep_tup.mp r2
    obtain ⟨u', us', rfl, h7, h8⟩ := rep_tup.mp r3
    exact ⟨u, u', us, us', rfl, .inr ⟨exT g1.ex h5, exT g1.ex h7, h4 _ _ g1 (serves_zipT h5 h6 h7 h8)⟩⟩
  · cases h3
end MI
set_option maxRecDepth 100000
namespace MI
open PySem PySem.Spec PyProof.Rows L2
variable {X : Cx} {K : PySem.W.Frag} {xa : XA} {g : G} {cf : Str → List Val → M Val} {W : WX} {C : Ctx} {k n : Nat}
variable {a b d t : Expr} {fa fb fc : Env → M Val} {p : Pos}

/-! ### targets -/
def gS (K : PySem.W.Frag) : Bool × List Nat → TG
  | (false, [i]) => gName i
  | (true, [i, j]) => gTup K 2 (gCons (gName i) (gCons (gName j) gNil))
  | (true, [i, j, k]) => gTup K 3 (gCons (gName i) (gCons (gName j) (gCons (gName k) gNil)))
  | _ => fun _ _ _ _ => False
theorem pg_slots {N : List Str} {sc : Scope} {tg : Expr} {sl : Bool × List Nat} (hN : X.N = N) (nd : X.N.Nodup) (hc : X.calm = true) (hl : ∀ x, locB sc x = true → Loc X.env.scope x ∧ (X.fn x = true ∨ X.env.scope.names.lookup x = some .local)) (h : slotsT N sc tg = some sl) : PG X tg (gS X.K sl) := by
  have one : ∀ {x : Str} {i : Nat} {q : Pos}, locB sc x = true → slot N x = some i → PG X (.Name x q) (gName i) := fun {x i q} h1 h2 =>
    pg_name nd (by rw [hN]; exact slot_get h2) (hl x h1).1 (hl x h1).2
  unfold slotsT at h
  split at h
  · split at h
    · rename_i hb
      obtain ⟨i, h1, rfl⟩ := Option.map_eq_some_iff.mp h
      exact one (Bool.and_eq_true_iff.mp hb).1 h1
    · cases h
  · split at h
    · rename_i hb
      simp only [Bool.and_eq_true] at hb
      split at h
      · rename_i i j h1 h2
        cases h
        exact pg_tup hc (pgs_cons (one hb.1.1.1 h1) (pgs_cons (one hb.1.2 h2) pgs_nil))
      · cases h
    · cases h
  · split at h
    · rename_i hb
      simp only [Bool.and_eq_true] at hb
      split at h
      · rename_i i j l h1 h2 h3
        cases h
        exact pg_tup hc (pgs_cons (one hb.1.1.1.1.1 h1) (pgs_cons (one hb.1.1.1.2 h2) (pgs_cons (one hb.1.2 h3) pgs_nil)))
      · cases h
    · cases h
  · cases h
theorem wipe_len (σ : L2.St) (vs : List Nat) : (wipe σ vs).length = σ.length := wipe_length σ vs
theorem wipe_at (σ : L2.St) : ∀ (vs : List Nat) (j : Nat), (wipe σ vs)[j]? = if j ∈ vs ∧ j < σ.length then some none else σ[j]?
  | [], j => by simp [wipe]
  | v :: vs, j => by
    unfold wipe
    by_cases hj : v = j
    · subst hj
      by_cases hl : v < σ.length
      · rw [List.getElem?_set_self (by rw [wipe_len]; exact hl), if_pos ⟨List.mem_cons_self, hl⟩]
      · rw [if_neg (fun q => hl q.2), List.getElem?_eq_none (by rw [List.length_set, wipe_len]; omega), List.getElem?_eq_none (by omega)]
    · rw [List.getElem?_set_ne hj, wipe_at σ vs j]
      have : (j ∈ v :: vs) ↔ j ∈ vs := by
        rw [List.mem_cons]
        exact ⟨fun q => q.elim (fun z => absurd z.symm hj) id, .inr⟩
      simp only [this]
theorem wipe_set {σ : L2.St} {vs : List Nat} {i : Nat} {y : Option V} (h : i ∈ vs) : wipe (σ.set i y) vs = wipe σ vs := by
  apply List.ext_getElem?
  intro j
  rw [wipe_at, wipe_at, List.length_set]
  by_cases hj : j ∈ vs ∧ j < σ.length
  · rw [if_pos hj, if_pos hj]
  · rw [if_neg hj, if_neg hj]
    by_cases hi : i = j
    · subst hi
      have : ¬ i < σ.length := fun q => hj ⟨h, q⟩
      rw [List.getElem?_eq_none (by rw [List.length_set]; omega), List.getElem?_eq_none (by omega)]
    · rw [List.getElem?_set_ne hi]
theorem wipe_wipe {σ : L2.St} {vs : List Nat} : wipe (wipe σ vs) vs = wipe σ vs := by
  apply List.ext_getElem?
  intro j
  rw [wipe_at (wipe σ vs), wipe_len, wipe_at]
  by_cases hj : j ∈ vs ∧ j < σ.length
  · simp only [if_pos hj]
  · simp only [if_neg hj]
theorem EnvR.wipe {s : S} {σ' : Env} {σ : L2.St} (h : EnvR K xa s σ' σ) : ∀ vs : List Nat, EnvR K xa s (wipeE σ' vs) (L2.wipe σ vs)
  | [] => h
  | v :: vs => (EnvR.wipe h vs).unset
/-- an item goes to its names -/
theorem gS_do {s : S} {H : L2.Hp} {sl : Bool × List Nat} {v : D} {x : V} {σ' σ1 : Env} {σ : L2.St} {Q : L2.St → L2.Hp → Prop} (gd : Good K s H) (e : EnvR K xa s σ' σ) (r : Rep K s.Z v x) (h : bindS sl v σ' = some σ1)
    (q : ∀ σ2, EnvR K xa s σ1 σ2 → (∀ vs, (∀ i ∈ sl.2, i ∈ vs) → L2.wipe σ2 vs = L2.wipe σ vs) → Q σ2 H) : gS K sl x σ H Q := by
  unfold bindS at h
  split at h
  · cases h
    exact q _ (e.set (x := .d v) r) fun vs hv => wipe_set (hv _ (by simp))
  · cases h
    unfold Rep at r
    obtain ⟨p, ws, rfl, h1, h2⟩ := r
    obtain ⟨u, r1, rfl, k1, h2⟩ := h2.cons_inv
    obtain ⟨w, r2, rfl, k2, h2⟩ := h2.cons_inv
    have := h2.nil_inv
    subst this
    exact ⟨p, _, rfl, exT gd.ex h1, rfl, u, _, rfl, w, _, rfl, rfl, q _ ((e.set (x := .d _) k1).set (x := .d _) k2) fun vs hv => by rw [wipe_set (hv _ (by simp)), wipe_set (hv _ (by simp))]⟩
  · cases h
    unfold Rep at r
    obtain ⟨p, ws, rfl, h1, h2⟩ := r
    obtain ⟨u, r1, rfl, k1, h2⟩ := h2.cons_inv
    obtain ⟨w, r2, rfl, k2, h2⟩ := h2.cons_inv
    obtain ⟨y, r3, rfl, k3, h2⟩ := h2.cons_inv
    have := h2.nil_inv
    subst this
    exact ⟨p, _, rfl, exT gd.ex h1, rfl, u, _, rfl, w, _, rfl, y, _, rfl, rfl, q _ (((e.set (x := .d _) k1).set (x := .d _) k2).set (x := .d _) k3) fun vs hv => by rw [wipe_set (hv _ (by simp)), wipe_set (hv _ (by simp)), wipe_set (hv _ (by simp))]⟩
  · cases h

/-! ### comprehensions -/
theorem Good.addF {s : S} {H : L2.Hp} {p : Addr} {o : HO} (g : Good K s H) (hp : H p = none) : Good K ⟨s.m, s.Z, s.h, upd s.F p o⟩ (upd H p o) := by
  have hz : s.Z p = none := by
    cases e : s.Z p with
    | none => rfl
    | some u => rw [g.ex p u e] at hp; cases hp
  have hm : ∀ i, i < s.h.length → s.m i ≠ p := fun i hi q => by
    obtain ⟨_, h2⟩ := g.obj i _ (List.getElem?_eq_getElem hi)
    obtain ⟨x, hx⟩ := h2.some_of
    rw [q, hp] at hx; cases hx
  refine ⟨fun a u e => ?_, fun i ob e => ?_, g.inj, fun a u e => ?_⟩
  · have := g.ex a u e
    rw [upd_ne (ne_of_none this hp)]
    exact this
  · obtain ⟨h1, h2⟩ := g.obj i ob e
    have ne := hm i (List.getElem?_eq_some_iff.mp e).1
    exact ⟨h1, by show ObjR K s.Z ob (upd H p o (s.m i)); rw [upd_ne ne]; exact h2⟩
  · have e : upd s.F p o a = some u := e
    by_cases ha : a = p
    · subst ha
      rw [upd_same] at e ⊢
      exact ⟨e, hz, hm⟩
    · rw [upd_ne ha] at e ⊢
      exact g.fr a u e
theorem Good.setF {s : S} {H : L2.Hp} {F : L2.Hp} {p : Addr} {o o' : HO} (g : Good K ⟨s.m, s.Z, s.h, upd F p o⟩ H) : Good K ⟨s.m, s.Z, s.h, upd F p o'⟩ (upd H p o') := by
  obtain ⟨hp, hz, hm⟩ := g.fr p o upd_same
  refine ⟨fun a u e => ?_, fun i ob e => ?_, g.inj, fun a u e => ?_⟩
  · have ne : a ≠ p := fun q => by
      have e : s.Z a = some u := e
      rw [q] at e
      rw [show s.Z p = none from hz] at e; cases e
    rw [upd_ne ne]
    exact g.ex a u e
  · obtain ⟨h1, h2⟩ := g.obj i ob e
    have ne : s.m i ≠ p := hm i (List.getElem?_eq_some_iff.mp e).1
    exact ⟨h1, by show ObjR K s.Z ob (upd H p o' (s.m i)); rw [upd_ne ne]; exact h2⟩
  · have e : upd F p o' a = some u := e
    by_cases ha : a = p
    · subst ha
      rw [upd_same] at e ⊢
      exact ⟨e, hz, hm⟩
    · rw [upd_ne ha] at e ⊢
      exact g.fr a u (by show upd F p o a = some u; rw [upd_ne ha]; exact e)
theorem Out.noexc {α : Type} {s : S} {x : M α} {P : α → S → Prop} {E : Exc → S → Prop} (h : Out s (noexc x s.h) P E) : Out s (x s.h) P fun _ _ => False := by
  unfold MI.noexc at h
  cases e : x s.h with
  | ok a h' => rw [e] at h; exact h
  | exc a h' => rw [e] at h; exact h.elim
  | stuck => rw [e] at h; exact h
/-- from a later state with the same objects -/
theorem Out.ext {α : Type} {s s' : S} {r : Res α} {P : α → S → Prop} {E : Exc → S → Prop} (x : Ext s s') (h : Out s r P E) : Out s' r P E := by
  have hf := x.f
  cases r with
  | stuck => exact h
  | ok a h' =>
    intro m' Z' y
    have := h m' Z' (by
      have z := x.trans y
      rw [hf] at z
      exact z)
    rw [hf]
    exact this
  | exc a h' =>
    intro m' Z' y
    have := h m' Z' (by
      have z := x.trans y
      rw [hf] at z
      exact z)
    rw [hf]
    exact this
theorem PTs.imp {e : List Expr} {t t' : TT} (h : PTs X e t) (k : ∀ σ H Q, t' σ H Q → t σ H Q) : PTs X e t' := ⟨fun pins s σ H Q I q => h.run pins s σ H Q I (k σ H Q q)⟩
theorem i_tests {ev : Env → Expr → M Bool} (he : ∀ e, PT X e (tIT X.K X.mg xa W fun σ => ev σ e)) : ∀ ifs : List Expr, PTs X ifs (tIT X.K X.mg xa W fun σ => evalFs (ev σ) ifs)
  | [] => PTs.imp pts_nil fun σ H Q ⟨σ', s, e, gd, o⟩ => o s.m s.Z (Ext.refl s) H gd
  | [t] => pts_one (he t)
  | a :: b :: r => ⟨fun pins s σ H Q I ⟨σ', s', e, gd, o⟩ => o.elim⟩
theorem i_lc {elt tg iter : Expr} {ifs : List Expr} {scope : Scope} {own : List (Str × Nat)} {sl : Bool × List Nat} {fi : Env → M (List D)} {ft : Env → M Bool} {fe : Env → M Val} {c : Bool} (hc : X.calm = true) (nd : X.N.Nodup)
    (hi : PI X tg iter (tII X.K X.mg xa W fi)) (ok : BlkOk X.N X.env.scope scope own) (hsl : ∀ i ∈ sl.2, i ∈ own.map (·.2))
    (hg : ∀ (s : Shared) (H : L2.Hp) (C : Addr) (cl : List (Str × Addr)) (fp : List Addr), PG (X.blk s H scope (compEnvC scope cl C X.env) fp) tg (gS X.K sl))
    (ht : ∀ (s : Shared) (H : L2.Hp) (C : Addr) (cl : List (Str × Addr)) (fp : List Addr), PTs (X.blk s H scope (compEnvC scope cl C X.env) fp) ifs (tIT X.K X.mg xa (fun _ _ _ _ => False) ft))
    (he : ∀ (s : Shared) (H : L2.Hp) (C : Addr) (cl : List (Str × Addr)) (fp : List Addr), PE (X.blk s H scope (compEnvC scope cl C X.env) fp) elt (tI X.K X.mg xa (fun _ _ _ _ => False) fe))
    (hs : ∀ x, foldedSetIterable iter X.env x = pure x) :
    ∀ σ H Q, tI X.K X.mg xa W (fun σ => bnd (fi σ) fun its => bnd (rd fun _ => gd (decide (its.length ≤ 16777216)) ()) fun _ =>
      bnd (noexc (loopC (itemC sl (own.map (·.2)) ft fe σ) its)) fun xs => if c = true then alloc (.lst xs) else ret (.d (.lst xs))) σ H Q →
    tLc (tII X.K X.mg xa W fi) (gS X.K sl) (tIT X.K X.mg xa (fun _ _ _ _ => False) ft) (tI X.K X.mg xa (fun _ _ _ _ => False) fe) (own.map (·.2)) σ H Q := by
  intro σ H Q h
  obtain ⟨σ', s, e, gd, o⟩ := h
  refine ⟨σ', s, e, gd, (Out.bnd o).imp (fun its s1 x1 o1 J H1 g1 sv => ?_) fun _ _ _ z => z⟩
  intro Dl hD
  obtain ⟨_, hsz, o2⟩ := Out.rd (Out.bnd o1)
  have hsz : its.length ≤ 16777216 := of_decide_eq_true (gd_some hsz).1
  have o2 := o2 s1.m s1.Z (Ext.refl s1)
  have o3 := Out.noexc (Out.bnd o2)
  have e1 := e.mono x1
  have hF : s1.F Dl = none := by
    cases q : s1.F Dl with
    | none => rfl
    | some u => rw [(g1.fr Dl u q).1] at hD; cases hD
  -- the invariant
  let Iv : Nat → L2.Hp → Prop := fun i H => ∃ (si : S) (acc : List V) (accD : List D), Ext s1 si ∧ Good X.K ⟨si.m, si.Z, si.h, upd s1.F Dl (.lst acc)⟩ H ∧ RepL X.K si.Z accD acc ∧ acc.length ≤ i ∧
    Out si (loopC (itemC sl (own.map (·.2)) ft fe σ') (its.drop i) si.h) (fun ys s' => Out s' ((if c = true then alloc (.lst (accD ++ ys)) else ret (.d (.lst (accD ++ ys)))) s'.h) (PQ X.K xa Q) (PXE X.K X.mg fun c d H' => W c d σ H')) fun _ _ => False
  have start : Iv 0 (upd H1 Dl (.lst [])) := ⟨s1, [], [], Ext.refl s1, g1.addF hD, .nil, Nat.le_refl _, by simpa using o3⟩
  refine ⟨fun i m H => m = its.length - i ∧ i ≤ its.length ∧ Iv i H, ⟨its.length, by simp, Nat.zero_le _, start⟩, ?_⟩
  rintro i m Hi ⟨rfl, hle, si, acc, accD, xi, gi, ri, li, oi⟩
  obtain ⟨hgo, hstop⟩ := sv ⟨si.m, si.Z, si.h, upd s1.F Dl (.lst acc)⟩ Hi xi.z gi
  by_cases hlt : i < its.length
  · obtain ⟨go, yl⟩ := hgo i its[i] (List.getElem?_eq_getElem hlt)
    refine .inr ⟨go, Iv (i + 1), fun H' p' => ⟨its.length - (i + 1), by omega, rfl, hlt, p'⟩, fun v H' hy => ?_⟩
    obtain ⟨Z', ez, g', rv⟩ := yl v H' hy
    rw [List.drop_eq_getElem_cons hlt] at oi
    have oi := Out.ext (s' := ⟨si.m, Z', si.h, si.F⟩) (Ext.ofZ ez) (Out.bnd oi)
    have oi := Out.frame (upd s1.F Dl (.lst acc)) oi
    unfold itemC at oi
    cases hb : bindS sl its[i] (wipeE σ' (own.map (·.2))) with
    | none => rw [hb] at oi; exact oi.elim
    | some σ1 =>
      rw [hb] at oi
      have ei : EnvR X.K xa ⟨si.m, Z', si.h, upd s1.F Dl (.lst acc)⟩ σ' σ := by
        have x := (e1.mono xi).mono (Ext.ofZ (s := si) ez)
        exact ⟨x.len, fun i y h => let ⟨v, h1, h2⟩ := x.get i y h; ⟨v, h1, by cases y <;> exact h2⟩⟩
      refine gS_do g' (ei.wipe _) rv hb fun σ2 e2 hw => ⟨by rw [hw _ hsl, wipe_wipe], ?_⟩
      refine ⟨σ1, _, e2, g', (Out.bnd oi).imp (fun kk s3 x3 o3 H3 g3 => ?_) fun _ _ _ z => z.elim⟩
      have f3 : s3.F = upd s1.F Dl (.lst acc) := x3.f
      cases kk with
      | true =>
        refine ⟨σ1, s3, e2.mono x3, g3, (Out.bnd o3).imp (fun y' s4 x4 o4 y H4 g4 r4 => ?_) fun _ _ _ z => z.elim⟩
        have f4 : s4.F = upd s1.F Dl (.lst acc) := x4.f.trans f3
        obtain ⟨yo, h1, h2⟩ := Out.rd o4
        have h2 := h2 s4.m s4.Z (Ext.refl s4)
        obtain ⟨yd, h3, rfl⟩ := Option.map_eq_some_iff.mp h1
        have g4' : Good X.K ⟨s4.m, s4.Z, s4.h, upd s1.F Dl (.lst acc)⟩ H4 := by
          have := g4
          obtain ⟨m4, Z4, h4, F4⟩ := s4
          subst f4
          exact this
        refine ⟨acc, (g4'.fr Dl _ upd_same).1, by rw [sizeLine_eq]; omega, ⟨s4.m, s4.Z, s4.h, si.F⟩, acc ++ [y], accD ++ [yd], ?_, g4'.setF, ?_, by rw [List.length_append, List.length_singleton]; omega, ?_⟩
        · have z := (x3.trans x4)
          exact ⟨fun i hi => (z.m i (Nat.lt_of_lt_of_le hi xi.n)).trans (xi.m i hi), (xi.z.trans ez).trans z.z, Nat.le_trans xi.n z.n, xi.f⟩
        · have ez4 : ExH si.Z s4.Z := ez.trans (x3.trans x4).z
          refine (ri.mono ez4).append (.cons ?_ .nil)
          cases y' with
          | d y' => have h3 : some y' = some yd := h3; cases h3; exact r4
          | m j => cases h3
          | scr ns => cases h3
          | exc ee => cases h3
        · refine (Out.bnd h2).imp (fun ys s5 x5 o5 => ?_) fun _ _ _ z => z
          have o5 := Out.ret o5 s5.m s5.Z (Ext.refl s5)
          have e5 : accD ++ [yd] ++ ys = accD ++ (yd :: ys) := by simp
          rw [e5]
          exact o5
      | false =>
        have h2 := Out.ret o3 s3.m s3.Z (Ext.refl s3)
        have g3' : Good X.K ⟨s3.m, s3.Z, s3.h, upd s1.F Dl (.lst acc)⟩ H3 := by
          have := g3
          obtain ⟨m4, Z4, h4, F4⟩ := s3
          subst f3
          exact this
        refine ⟨⟨s3.m, s3.Z, s3.h, si.F⟩, acc, accD, ?_, g3', ri.mono (ez.trans x3.z), by omega, ?_⟩
        · exact ⟨fun i hi => (x3.m i (Nat.lt_of_lt_of_le hi xi.n)).trans (xi.m i hi), (xi.z.trans ez).trans x3.z, Nat.le_trans xi.n x3.n, xi.f⟩
        · refine (Out.bnd h2).imp (fun ys s5 x5 o5 => ?_) fun _ _ _ z => z
          exact Out.ret o5 s5.m s5.Z (Ext.refl s5)
  · have hi' : i = its.length := by omega
    refine .inl ⟨hstop i (by omega), ?_⟩
    rw [List.drop_eq_nil_of_le (by omega)] at oi
    have oi := Out.ret oi si.m si.Z (Ext.refl si)
    simp only [List.append_nil] at oi
    obtain ⟨hp, hz, hm⟩ := gi.fr Dl _ upd_same
    have gu : Good X.K si Hi := by
      have := gi.unframe (F' := si.F) (fun a o q => by
        rw [xi.f] at q
        have ne : a ≠ Dl := fun z => by rw [z, hF] at q; cases q
        show upd s1.F Dl _ a = some o
        rw [upd_ne ne]; exact q)
      exact this
    have hFi : si.F Dl = none := by rw [xi.f]; exact hF
    cases c with
    | true =>
      have oi : ∀ m' Z', Ext si ⟨m', Z', si.h ++ [.lst accD], si.F⟩ → PQ X.K xa Q (.m si.h.length) ⟨m', Z', si.h ++ [.lst accD], si.F⟩ := oi
      refine oi _ _ (Ext.make (p := Dl)) (.ref Dl) _ (gu.adopt hp hz hm hFi ⟨acc, rfl, ri⟩) ⟨?_, ?_⟩
      · show V.ref Dl = .ref (if si.h.length = si.h.length then Dl else _)
        rw [if_pos rfl]
      · show si.h.length < (si.h ++ [_]).length
        simp
    | false =>
      obtain ⟨gf, ezf⟩ := gu.freeze hp hz hm hFi
      exact oi si.m _ (Ext.ofZ ezf) (.ref Dl) Hi gf (rep_lst.mpr ⟨Dl, acc, rfl, upd_same, ri.mono ezf⟩)
end MI
set_option maxRecDepth 100000
namespace MI
open PySem PySem.Spec PyProof.Rows L2
variable {X : Cx} {K : PySem.W.Frag} {xa : XA} {g : G} {cf : Str → List Val → M Val} {W : WX} {C : Ctx} {k n : Nat}
variable {a b d t : Expr} {fa fb fc : Env → M Val} {p : Pos}

theorem tI.ite {c : Prop} [Decidable c] {e : Expr} {A B : Env → M Val} (h1 : c → PE X e (tI X.K X.mg xa W A)) (h2 : ¬ c → PE X e (tI X.K X.mg xa W B)) : PE X e (tI X.K X.mg xa W fun σ => if c then A σ else B σ) := by
  by_cases h : c
  · have q : (fun σ => if c then A σ else B σ) = A := by funext σ; rw [if_pos h]
    rw [q]; exact h1 h
  · have q : (fun σ => if c then A σ else B σ) = B := by funext σ; rw [if_neg h]
    rw [q]; exact h2 h
theorem tII.ite {c : Prop} [Decidable c] {tg e : Expr} {A B : Env → M (List D)} (h1 : c → PI X tg e (tII X.K X.mg xa W A)) (h2 : ¬ c → PI X tg e (tII X.K X.mg xa W B)) : PI X tg e (tII X.K X.mg xa W fun σ => if c then A σ else B σ) := by
  by_cases h : c
  · have q : (fun σ => if c then A σ else B σ) = A := by funext σ; rw [if_pos h]
    rw [q]; exact h1 h
  · have q : (fun σ => if c then A σ else B σ) = B := by funext σ; rw [if_neg h]
    rw [q]; exact h2 h
theorem tI.no {e : Expr} : PE X e (tI X.K X.mg xa W fun _ => stk) := PE.no fun σ H Q => no_out (X := X) fun σ' h' => rfl
theorem tII.no {tg e : Expr} : PI X tg e (tII X.K X.mg xa W fun _ => stk) := PIn.no fun σ H Q ⟨σ', s, e, gd, o⟩ => o
theorem tI.opt {α : Type} {o : Option α} {e : Expr} {A : α → Env → M Val} (h : ∀ a, o = some a → PE X e (tI X.K X.mg xa W (A a))) : PE X e (tI X.K X.mg xa W fun σ => optM o fun a => A a σ) := by
  cases o with
  | none => exact tI.no
  | some a => exact h a rfl

section
variable {ev : Expr → Env → M Val} {args : List Expr} {q : Pos}
theorem i_isN (c : CtxOk g cf xa W X C k) (hgi : glB C.sc ("isinstance" : Str) = true) (he : ∀ e, PE X e (tI X.K X.mg xa W (ev e))) : PE X (.Call (.Name "isinstance" q) args [] p) (tI X.K X.mg xa W (isN g C ev args)) := by
  match args with
  | [] => exact tI.no
  | [_] => exact tI.no
  | _ :: _ :: _ :: _ => exact tI.no
  | [a, b] =>
    cases b with
    | Name x q2 =>
      refine tI.ite (fun h => ?_) fun _ => tI.no
      simp only [Bool.and_eq_true] at h
      exact i_isinst c h.1.1.2 hgi h.1.1.1 h.1.2 h.2 (he a)
    | _ => exact tI.no
theorem i_plainCall {f : Str} (c : CtxOk g cf xa W X C k) (hf : bltins.contains f = true) (hp : plainN f = true) (hg : glB C.sc f = true) (he : ∀ e, PE X e (tI X.K X.mg xa W (ev e))) (hst : ∀ e σ h, notStar e = false → ev e σ h = .stuck) :
    PE X (.Call (.Name f q) args [] p) (tI X.K X.mg xa W (plainCall C ev f args)) := by
  refine tI.ite (fun h => ?_) fun _ => tI.no
  simp only [Bool.and_eq_true] at h
  exact i_blt (ev := fun σ e => ev e σ) c hf h.1 hp hg h.2 (i_args he hst args)
theorem i_bltN {f : Str} (c : CtxOk g cf xa W X C k) (hf : bltins.contains f = true) (hp : plainN f = true) (hg : glB C.sc f = true) (he : ∀ e, PE X e (tI X.K X.mg xa W (ev e))) (hst : ∀ e σ h, notStar e = false → ev e σ h = .stuck) :
    PE X (.Call (.Name f q) args [] p) (tI X.K X.mg xa W (bltN C ev f args)) := by
  have dflt := i_plainCall (args := args) (p := p) (q := q) c hf hp hg he hst
  match args, dflt with
  | [], dflt => exact dflt
  | _ :: _ :: _, dflt => exact dflt
  | [a], dflt =>
    cases a with
    | Call fn ras kws p2 =>
      cases fn with
      | Name r q2 =>
        cases kws with
        | nil =>
          refine tI.ite (fun h => ?_) fun _ => dflt
          simp only [Bool.and_eq_true] at h
          obtain rfl := beq_iff_eq.mp h.1
          refine tI.ite (fun h2 => ?_) fun _ => tI.no
          simp only [Bool.and_eq_true] at h2
          exact i_lrange (ev := fun σ e => ev e σ) c h.2 hg h2.1.1 h2.1.2 h2.2 he
        | cons _ _ => exact dflt
      | _ => exact dflt
    | _ => exact dflt
theorem i_callN {f : Str} (c : CtxOk g cf xa W X C k) (he : ∀ e, PE X e (tI X.K X.mg xa W (ev e))) (hst : ∀ e σ h, notStar e = false → ev e σ h = .stuck) :
    PE X (.Call (.Name f q) args [] p) (tI X.K X.mg xa W (callN g cf C ev f args)) := by
  refine tI.ite (fun h => ?_) fun _ => tI.no
  obtain ⟨hp, hg⟩ := Bool.and_eq_true_iff.mp h
  refine tI.ite (fun h => ?_) fun _ => ?_
  · obtain rfl := beq_iff_eq.mp h
    exact i_isN c hg he
  · refine tI.ite (fun h => i_bltN c h hp hg he hst) fun _ => ?_
    refine tI.ite (fun h => ?_) fun _ => tI.no
    obtain ⟨h1, h2⟩ := Bool.and_eq_true_iff.mp h
    exact tI.opt (A := fun fd σ => bnd (seqE (fun e => ev e σ) args) fun vs => if vs.length = fd.ps.length then cf f vs else stk) fun fd hfd => i_user (ev := fun σ e => ev e σ) c hfd h1 hp hg h2 (i_args he hst args)
theorem i_methN {m : Str} {o : Expr} {apos : Pos} (he : ∀ e, PE X e (tI X.K X.mg xa W (ev e))) : PE X (.Call (.Attribute o m apos) args [] p) (tI X.K X.mg xa W (methN ev o m apos p args)) := by
  refine tI.ite (fun h => ?_) fun _ => tI.no
  obtain ⟨hl, hb⟩ := Bool.and_eq_true_iff.mp h
  refine tI.ite (fun h => ?_) fun _ => tI.ite (fun h => ?_) fun _ => tI.no
  · obtain rfl := beq_iff_eq.mp h
    match args with
    | [] => exact i_upper hb hl (he o)
    | _ :: _ => exact tI.no
  · obtain rfl := beq_iff_eq.mp h
    match args with
    | [] => exact tI.no
    | _ :: _ :: _ => exact tI.no
    | [a] => exact tI.ite (fun h => i_append h hb hl (he o) (he a)) fun _ => tI.no
theorem i_iterN {f : Str} {tg : Expr} (c : CtxOk g cf xa W X C k) (he : ∀ e, PE X e (tI X.K X.mg xa W (ev e))) (hst : ∀ e σ h, notStar e = false → ev e σ h = .stuck) :
    PI X tg (.Call (.Name f q) args [] p) (tII X.K X.mg xa W (iterN C ev (isTup tg) f q p args)) := by
  refine tII.ite (fun h => ?_) fun _ => tII.no
  simp only [Bool.and_eq_true] at h
  obtain ⟨⟨⟨hp, hg⟩, hcal⟩, hs⟩ := h
  refine tII.ite (fun h => ?_) fun _ => tII.ite (fun h => ?_) fun _ => ?_
  · obtain rfl := beq_iff_eq.mp h
    exact i_irange (ev := fun σ e => ev e σ) c hg hs he
  · obtain rfl := beq_iff_eq.mp h
    match args, hs with
    | [], _ => exact tII.no
    | [_], _ => exact tII.no
    | _ :: _ :: _ :: _, _ => exact tII.no
    | [a, b], hs =>
      cases tg with
      | Tuple elts kk tp => exact i_izip (ev := fun σ e => ev e σ) c hg hs (i_args he hst [a, b])
      | _ => exact tII.no
  · exact i_iter (he _)
end

theorem fold_ok {iter : Expr} {env : PySem.Env} (h : notSet iter = true) : ∀ x, foldedSetIterable iter env x = pure x := by
  intro x
  cases iter <;> first | rfl | exact absurd (show false = true from h) Bool.false_ne_true
theorem look_relS {scope sc : Scope} {x : Str} {kk : NameKind} (hk : kk ≠ .free) (h : scope.names.lookup x = some kk) : (relS scope sc).names.lookup x = some kk := lookup_relS_keep hk h
/-- the context of a comprehension's block -/
theorem CtxOk.blk (c : CtxOk g cf xa W X C k) (hcal : C.calm = true) {s : Shared} {H : L2.Hp} {scope : Scope} {Ca : Addr} {cl : List (Str × Addr)} {fp : List Addr} :
    CtxOk g cf xa (fun _ _ _ _ => False) (X.blk s H scope (compEnvC scope cl Ca X.env) fp) ⟨C.N, relS scope C.sc, C.calm⟩ k where
  N := c.N
  sc := by
    show relS scope X.env.scope = relS scope C.sc
    rw [c.sc]
  nd := c.nd
  gok := c.gok
  calm := c.calm
  room := c.room
  pas := fun _ σ pins H s e s' I h => by
    obtain ⟨_, _, _, _, _, _, _, _, _, _, _, _, z⟩ := h
    exact z.elim
  nox := c.nox
  xl := c.xl
  isE := fun pins s σ H xs us Q I r h => by
    obtain ⟨e, v, _, _, _, _, h1, _⟩ := h
    exact absurd h1 (c.nox hcal e v)
theorem blk_loc {s : Shared} {H : L2.Hp} {scope : Scope} {Ca : Addr} {cl : List (Str × Addr)} {fp : List Addr} : ∀ x, locB scope x = true →
    Loc (X.blk s H scope (compEnvC scope cl Ca X.env) fp).env.scope x ∧ ((X.blk s H scope (compEnvC scope cl Ca X.env) fp).fn x = true ∨ (X.blk s H scope (compEnvC scope cl Ca X.env) fp).env.scope.names.lookup x = some .local) := by
  intro x h
  have hs : (X.blk s H scope (compEnvC scope cl Ca X.env) fp).env.scope = relS scope X.env.scope := rfl
  rcases loc_of h with h | h
  · have := look_relS (sc := X.env.scope) (by decide) h
    rw [hs]
    exact ⟨.inl this, .inr this⟩
  · have := look_relS (sc := X.env.scope) (by decide) h
    rw [hs]
    exact ⟨.inr this, .inl (by show (scope.names.lookup x == some NameKind.cell) = true; rw [h] <;> rfl)⟩

/-! ### comparisons as tests -/
theorem cmp_test_end {s : S} {H : L2.Hp} {op : CmpOp} {x' y' : Val} {x y : V} {Q : Bool → L2.Hp → Prop} {E E' : Exc → S → Prop} (gd : Good K s H) (rx : RepV K xa s x' x) (ry : RepV K xa s y' y)
    (o : Out s (rd (pCmp op x' y') s.h) (fun z' s' => Out s' (rd (truth z') s'.h) (fun b s' => ∀ H', Good K s' H' → Q b H') E) E') : rCmp K op x y H (fun z H' => ∃ k, z = .bl k ∧ Q k H') := by
  obtain ⟨z', h1, h2⟩ := Out.rd o
  obtain ⟨b, rfl⟩ := cmp_bl h1
  refine opi_cmp op s H x y x' y' _ gd rx ry h1 _ fun Z' H' z ez g' r => ⟨b, rep_bl.mp r, ?_⟩
  obtain ⟨kk, h3, h4⟩ := Out.rd (h2 s.m Z' (Ext.ofZ ez))
  have h3 : some b = some kk := h3
  cases h3
  exact h4 s.m Z' (Ext.refl _) H' g'
theorem bl_test_end {s : S} {H : L2.Hp} {b : Bool} {Q : Bool → L2.Hp → Prop} {E E' : Exc → S → Prop} (gd : Good K s H)
    (o : Out s (ret (bl b) s.h) (fun z' s' => Out s' (rd (truth z') s'.h) (fun b s' => ∀ H', Good K s' H' → Q b H') E) E') : Q b H := by
  obtain ⟨kk, h3, h4⟩ := Out.rd (Out.ret o s.m s.Z (Ext.refl s))
  have h3 : some b = some kk := h3
  cases h3
  exact h4 s.m s.Z (Ext.refl _) H gd
abbrev tst (f : Env → M Val) : Env → M Bool := fun σ => bnd (f σ) fun x => rd (truth x)
theorem t_cmp {op : CmpOp} (hm : behindInMarks op b = false) (ha : PE X a (tI X.K X.mg xa W fa)) (hb : PE X b (tI X.K X.mg xa W fb)) :
    PT X (.Compare a [op] [b] p) (tIT X.K X.mg xa W (tst fun σ => bnd (fa σ) fun x => bnd (fb σ) fun y => rd (pCmp op x y))) := by
  refine PT.imp (pt_cmpR (opr_cmp op) ha hb hm) fun σ H Q h => ?_
  obtain ⟨σ', s, e, gd, o⟩ := h
  refine outT_bnd e gd (Out.bnd o) fun s1 x' x H1 _ e1 g1 r1 o1 => ?_
  refine outT_bnd e1 g1 o1 fun s2 y' y H2 x2 e2 g2 r2 o2 => ?_
  exact cmp_test_end g2 (r1.mono x2) r2 o2
theorem t_chain {op op2 : CmpOp} (hm : lastMarks [op, op2] [b, d] = false) (ha : PE X a (tI X.K X.mg xa W fa)) (hb : PE X b (tI X.K X.mg xa W fb)) (hd : PE X d (tI X.K X.mg xa W fc)) :
    PT X (.Compare a [op, op2] [b, d] p) (tIT X.K X.mg xa W (tst fun σ => bnd (fa σ) fun x => bnd (fb σ) fun y => bnd (rd fun h => (pCmp op x y h).bind boolV) fun k =>
        if k = true then bnd (fc σ) fun z => rd (pCmp op2 y z) else ret (bl false))) := by
  refine PT.imp (pt_chain (opr_cmp op) (opr_cmp op2) ha hb hd hm) fun σ H Q h => ?_
  obtain ⟨σ', s, e, gd, o⟩ := h
  refine outT_bnd e gd (Out.bnd o) fun s1 x' x H1 _ e1 g1 r1 o1 => ?_
  refine outT_bnd e1 g1 o1 fun s2 y' y H2 x2 e2 g2 r2 o2 => ?_
  refine link_end g2 (r1.mono x2) r2 o2 fun Z' H' k ez g3 o3 => ⟨k, rfl, ?_⟩
  cases k with
  | true =>
    have e3 := e2.mono (Ext.ofZ ez)
    refine outT_bnd (s := ⟨s2.m, Z', s2.h, s2.F⟩) e3 g3 o3 fun s4 z' z H4 x4 e4 g4 r4 o4 => ?_
    exact cmp_test_end g4 ((r2.mono (Ext.ofZ ez)).mono x4) r4 o4
  | false => exact ⟨false, rfl, bl_test_end g3 o3⟩
variable {fd' : Env → M Val}
theorem pt_chain3 {op op' op'' : CmpOp} {r r' r'' : R2} {ta tb tc td : TE} (ho : OpR X (compareOp op) r) (ho' : OpR X (compareOp op') r') (ho'' : OpR X (compareOp op'') r'') (ha : PE X a ta) (hb : PE X b tb) (hc : PE X d tc) (hd : PE X t td)
    (hm : lastMarks [op, op', op''] [b, d, t] = false) : PT X (.Compare a [op, op', op''] [b, d, t] p) (tTest (tChain3 r r' r'' ta tb tc td)) := by
  refine ⟨fun pins s σ H Q I h => ?_⟩
  refine isTrue_chain (thn (ha.run pins s σ H _ I h) fun v s1 ⟨x, H1, I1, r1, q1⟩ => test_link (thn (hb.run pins s1 σ H1 _ I1 q1) fun u s2 ⟨y, H2, I2, r2, q2⟩ =>
    thn (ho pins s2 σ H2 x y v u _ I2 r1 r2 q2) fun d s3 ⟨z, H3, I3, r3, k, e, q3⟩ => ?_)) hm
  subst e
  cases r3
  refine wpAny_truthy_bool ?_
  cases k with
  | false =>
    obtain ⟨k', e', q'⟩ := q3
    cases e'
    exact ite_ff ⟨H3, I3, q'⟩
  | true =>
    refine ite_tt (test_link (thn (hc.run pins s3 σ H3 _ I3 q3) fun w' s4 ⟨z', H4, I4, r4, q4⟩ => thn (ho' pins s4 σ H4 y z' u w' _ I4 r2 r4 q4) fun d2 s5 ⟨z2, H5, I5, r5, k2, e2, q5⟩ => ?_))
    subst e2
    cases r5
    refine wpAny_truthy_bool ?_
    cases k2 with
    | false =>
      obtain ⟨k', e', q'⟩ := q5
      cases e'
      exact ite_ff ⟨H5, I5, q'⟩
    | true =>
      refine ite_tt (test_last (thn (hd.run pins s5 σ H5 _ I5 q5) fun w2 s6 ⟨z3, H6, I6, r6, q6⟩ => thn (ho'' pins s6 σ H6 z' z3 w' w2 _ I6 r4 r6 q6) fun d' s7 ⟨z4, H7, I7, r7, k3, e3, q7⟩ => ?_))
      subst e3
      cases r7
      exact wpAny_truthy_bool ⟨H7, I7, q7⟩
theorem t_chain3 {op op2 op3 : CmpOp} (hm : lastMarks [op, op2, op3] [b, d, t] = false) (ha : PE X a (tI X.K X.mg xa W fa)) (hb : PE X b (tI X.K X.mg xa W fb)) (hd : PE X d (tI X.K X.mg xa W fc)) (ht : PE X t (tI X.K X.mg xa W fd')) :
    PT X (.Compare a [op, op2, op3] [b, d, t] p) (tIT X.K X.mg xa W (tst fun σ => bnd (fa σ) fun x => bnd (fb σ) fun y => bnd (rd fun h => (pCmp op x y h).bind boolV) fun k =>
        if k = true then bnd (fc σ) fun z => bnd (rd fun h => (pCmp op2 y z h).bind boolV) fun k2 => if k2 = true then bnd (fd' σ) fun w => rd (pCmp op3 z w) else ret (bl false) else ret (bl false))) := by
  refine PT.imp (pt_chain3 (opr_cmp op) (opr_cmp op2) (opr_cmp op3) ha hb hd ht hm) fun σ H Q h => ?_
  obtain ⟨σ', s, e, gd, o⟩ := h
  refine outT_bnd e gd (Out.bnd o) fun s1 x' x H1 _ e1 g1 r1 o1 => ?_
  refine outT_bnd e1 g1 o1 fun s2 y' y H2 x2 e2 g2 r2 o2 => ?_
  refine link_end g2 (r1.mono x2) r2 o2 fun Z' H' k ez g3 o3 => ⟨k, rfl, ?_⟩
  cases k with
  | true =>
    have e3 := e2.mono (Ext.ofZ ez)
    refine outT_bnd (s := ⟨s2.m, Z', s2.h, s2.F⟩) e3 g3 o3 fun s4 z' z H4 x4 e4 g4 r4 o4 => ?_
    refine link_end g4 ((r2.mono (Ext.ofZ ez)).mono x4) r4 o4 fun Z5 H5 k2 ez5 g5 o5 => ⟨k2, rfl, ?_⟩
    cases k2 with
    | true =>
      refine outT_bnd (s := ⟨s4.m, Z5, s4.h, s4.F⟩) (e4.mono (Ext.ofZ ez5)) g5 o5 fun s6 w' w H6 x6 e6 g6 r6 o6 => ?_
      exact cmp_test_end g6 ((r4.mono (Ext.ofZ ez5)).mono x6) r6 o6
    | false => exact ⟨false, rfl, bl_test_end g5 o5⟩
  | false => exact ⟨false, rfl, bl_test_end g3 o3⟩
theorem tIT.no {e : Expr} : PT X e (tIT X.K X.mg xa W (tst fun _ => stk)) := PT.no fun σ H Q ⟨σ', s, e, gd, o⟩ => o
theorem tIT.iteN {c : Prop} [Decidable c] {e : Expr} {B : Env → M Val} (h2 : ¬ c → PT X e (tIT X.K X.mg xa W (tst B))) : PT X e (tIT X.K X.mg xa W (tst fun σ => if c then stk else B σ)) := by
  by_cases h : c
  · have q : (fun σ => if c then (stk : M Val) else B σ) = fun _ => stk := by funext σ; rw [if_pos h]
    rw [q]; exact tIT.no
  · have q : (fun σ => if c then (stk : M Val) else B σ) = B := by funext σ; rw [if_neg h]
    rw [q]; exact h2 h
theorem pw_of {op : BoolOp} {vs : List Expr} {tt : TT} (h : PT X (.BoolOp op vs p) tt) : PW X (.BoolOp op vs p) tt := ⟨fun whole pins s σ H Q I q => h.run pins s σ H Q I q⟩

theorem evalE_star {e : Expr} {σ : Env} {h : MH} (hs : notStar e = false) : ∀ n, evalE g cf n C e σ h = .stuck := by
  intro n
  cases n with
  | zero => rfl
  | succ n =>
    cases e <;> first | exact absurd (show true = false from hs) (by decide) | rfl
/-- THE EXPRESSIONS -/
theorem snd_E (g : G) (cf : Str → List Val → M Val) (k : Nat) : ∀ n : Nat,
    (∀ (X : Cx) (C : Ctx) (W : WX) (xa : XA), CtxOk g cf xa W X C k → ∀ e, PE X e (tI X.K X.mg xa W fun σ => evalE g cf n C e σ)) ∧
    (∀ (X : Cx) (C : Ctx) (W : WX) (xa : XA), CtxOk g cf xa W X C k → ∀ e, PT X e (tIT X.K X.mg xa W fun σ => evalT g cf n C e σ)) ∧
    (∀ (X : Cx) (C : Ctx) (W : WX) (xa : XA), CtxOk g cf xa W X C k → ∀ tg e, PI X tg e (tII X.K X.mg xa W fun σ => evalI g cf n C (isTup tg) e σ))
  | 0 => ⟨fun X C W xa c e => tI.no, fun X C W xa c e => PT.no fun σ H Q ⟨σ', s, e, gd, o⟩ => o, fun X C W xa c tg e => tII.no⟩
  | n + 1 => by
    obtain ⟨IE, IT, II⟩ := snd_E g cf k n
    have E1 : ∀ (X : Cx) (C : Ctx) (W : WX) (xa : XA), CtxOk g cf xa W X C k → ∀ e, PE X e (tI X.K X.mg xa W fun σ => evalE g cf (n + 1) C e σ) := by
      intro X C W xa c e
      have ie := IE X C W xa c
      have it := IT X C W xa c
      have ist : ∀ e σ h, notStar e = false → evalE g cf n C e σ h = .stuck := fun e σ h hs => evalE_star hs n
      cases e with
      | Name x p => exact i_name c
      | Constant v j p => exact i_const
      | BinOp a op b p => exact i_bin (ie a) (ie b)
      | UnaryOp op a p =>
        cases op with
        | Not => exact i_not (ie a)
        | USub => exact i_usub (ie a)
        | _ => exact tI.no
      | BoolOp op vs p =>
        match op, vs with
        | .And, [] => exact tI.no
        | .Or, [] => exact tI.no
        | .And, [a] => exact i_one (ie a)
        | .Or, [a] => exact i_one (ie a)
        | .And, a :: b :: r => exact i_and (ie a) (ie _)
        | .Or, a :: b :: r => exact i_or (ie a) (ie _)
      | Compare a ops cs p =>
        match ops, cs with
        | [op], [b] => exact tI.ite (fun _ => tI.no) fun h => i_cmp (by simpa using h) (ie a) (ie b)
        | [op, op2], [b, d] => exact tI.ite (fun _ => tI.no) fun h => i_chain (by simpa using h) (ie a) (ie b) (ie d)
        | [op, op2, op3], [b, d, t] => exact tI.ite (fun _ => tI.no) fun h => i_chain3 (by simpa using h) (ie a) (ie b) (ie d) (ie t)
        | [], _ => exact tI.no
        | [_], [] => exact tI.no
        | [_], _ :: _ :: _ => exact tI.no
        | [_, _], [] => exact tI.no
        | [_, _], [_] => exact tI.no
        | [_, _], _ :: _ :: _ :: _ => exact tI.no
        | [_, _, _], [] => exact tI.no
        | [_, _, _], [_] => exact tI.no
        | [_, _, _], [_, _] => exact tI.no
        | [_, _, _], _ :: _ :: _ :: _ :: _ => exact tI.no
        | _ :: _ :: _ :: _ :: _, _ => exact tI.no
      | IfExp t a b p => exact i_if (it t) (ie a) (ie b)
      | Tuple es kk p => exact i_tuple (ev := fun σ e => evalE g cf n C e σ) (i_args ie ist es)
      | List es p =>
        have := i_list (p := p) (ev := fun σ e => evalE g cf n C e σ) (g.chg.contains p) (i_args ie ist es)
        exact this
      | Dict ks vs p =>
        match ks, vs with
        | [], [] => exact i_dict (g.chg.contains p)
        | _ :: _, _ => exact tI.no
        | [], _ :: _ => exact tI.no
      | Subscript a b p =>
        cases b with
        | Slice lo hi st q =>
          cases st with
          | none => exact i_slice (ie a) (i_part (ev := fun σ e => evalE g cf n C e σ) ie lo) (i_part (ev := fun σ e => evalE g cf n C e σ) ie hi)
          | some st => exact i_ix (fun _ _ _ h => by cases h) (ie a) (ie _)
        | _ => exact i_ix (fun _ _ _ h => by cases h) (ie a) (ie _)
      | Call fn args kws p =>
        cases kws with
        | cons _ _ => cases fn <;> exact tI.no
        | nil =>
          cases fn with
          | Name f q => exact i_callN c ie ist
          | Attribute o m q => exact i_methN ie
          | _ => exact tI.no
      | ListComp elt gens scope p =>
        match gens with
        | [] => exact tI.no
        | ⟨_, _, _, _⟩ :: _ :: _ => exact tI.no
        | [⟨tg, iter, ifs, asy⟩] =>
          refine tI.ite (fun h => ?_) fun _ => tI.no
          simp only [Bool.and_eq_true] at h
          obtain ⟨⟨⟨h1, hcal⟩, hb⟩, hns⟩ := h
          obtain rfl := beq_iff_eq.mp h1
          refine tI.opt (A := fun (sl : Bool × List Nat) σ => if (sl.2.all fun i => ((ownOf C.N scope).map (·.2)).contains i) = true then _ else stk) fun sl hsl => ?_
          refine tI.ite (fun hsub => ?_) fun _ => tI.no
          have hsub' : ∀ i ∈ sl.2, i ∈ (ownOf C.N scope).map (·.2) := fun i hi => by
            have := List.all_eq_true.mp hsub i hi
            simpa using this
          have ok : BlkOk X.N X.env.scope scope (ownOf C.N scope) := by
            rw [c.N, c.sc]
            exact blkOk_by hb
          have hcx := c.calm hcal
          have hg : ∀ (s : Shared) (H : L2.Hp) (Ca : Addr) (cl : List (Str × Addr)) (fp : List Addr), PG (X.blk s H scope (compEnvC scope cl Ca X.env) fp) tg (gS X.K sl) := fun s H Ca cl fp => pg_slots (sc := scope) c.N c.nd hcx blk_loc hsl
          have ht : ∀ (s : Shared) (H : L2.Hp) (Ca : Addr) (cl : List (Str × Addr)) (fp : List Addr), PTs (X.blk s H scope (compEnvC scope cl Ca X.env) fp) ifs (tIT X.K X.mg xa (fun _ _ _ _ => False) fun σ => evalFs (fun t => evalT g cf n ⟨C.N, relS scope C.sc, C.calm⟩ t σ) ifs) :=
            fun s H Ca cl fp => i_tests (X := X.blk s H scope (compEnvC scope cl Ca X.env) fp) (ev := fun σ t => evalT g cf n ⟨C.N, relS scope C.sc, C.calm⟩ t σ) (IT _ _ _ xa (c.blk hcal)) ifs
          have he : ∀ (s : Shared) (H : L2.Hp) (Ca : Addr) (cl : List (Str × Addr)) (fp : List Addr), PE (X.blk s H scope (compEnvC scope cl Ca X.env) fp) elt (tI X.K X.mg xa (fun _ _ _ _ => False) fun σ => evalE g cf n ⟨C.N, relS scope C.sc, C.calm⟩ elt σ) :=
            fun s H Ca cl fp => IE _ _ _ xa (c.blk hcal) elt
          exact PE.imp (pe_lc (own := ownOf C.N scope) hcx c.nd (II X C W xa c tg iter) ok hg ht he (fold_ok hns)) (i_lc hcx c.nd (II X C W xa c tg iter) ok hsub' hg ht he (fold_ok hns))
      | _ => exact tI.no
    have T0 : ∀ (X : Cx) (C : Ctx) (W : WX) (xa : XA), CtxOk g cf xa W X C k → ∀ e, (∀ env whole, isTrue e env whole = (do let v ← whole; standAt e.pos; holding [v] (truthy v))) → PT X e (tIT X.K X.mg xa W fun σ => bnd (evalE g cf n C e σ) fun x => rd (truth x)) := by
      intro X C W xa c e hi
      refine PT.imp (pt_truth (IE X C W xa c e) (hi _)) fun σ H Q h => ?_
      obtain ⟨σ', s, e', gd, o⟩ := h
      refine outT_bnd e' gd o fun s1 x' x H1 _ e1 g1 r1 o1 => ?_
      obtain ⟨kk, h1, h2⟩ := Out.rd o1
      exact ⟨kk, rep_truth g1 r1 h1, h2 s1.m s1.Z (Ext.refl s1) H1 g1⟩
    have TC : ∀ (X : Cx) (C : Ctx) (W : WX) (xa : XA), CtxOk g cf xa W X C k → ∀ a ops cs p, PT X (.Compare a ops cs p) (tIT X.K X.mg xa W (tst fun σ => evalE g cf n C (.Compare a ops cs p) σ)) := by
      intro X C W xa c a ops cs p
      cases n with
      | zero => exact tIT.no
      | succ n =>
        have ie := (snd_E g cf k n).1 X C W xa c
        match ops, cs with
        | [op], [b] => exact tIT.iteN fun h => t_cmp (by simpa using h) (ie a) (ie b)
        | [op, op2], [b, d] => exact tIT.iteN fun h => t_chain (by simpa using h) (ie a) (ie b) (ie d)
        | [op, op2, op3], [b, d, t] => exact tIT.iteN fun h => t_chain3 (by simpa using h) (ie a) (ie b) (ie d) (ie t)
        | [], _ => exact tIT.no
        | [_], [] => exact tIT.no
        | [_], _ :: _ :: _ => exact tIT.no
        | [_, _], [] => exact tIT.no
        | [_, _], [_] => exact tIT.no
        | [_, _], _ :: _ :: _ :: _ => exact tIT.no
        | [_, _, _], [] => exact tIT.no
        | [_, _, _], [_] => exact tIT.no
        | [_, _, _], [_, _] => exact tIT.no
        | [_, _, _], _ :: _ :: _ :: _ :: _ => exact tIT.no
        | _ :: _ :: _ :: _ :: _, _ => exact tIT.no
    have T1 : ∀ (X : Cx) (C : Ctx) (W : WX) (xa : XA), CtxOk g cf xa W X C k → ∀ e, PT X e (tIT X.K X.mg xa W fun σ => evalT g cf (n + 1) C e σ) := by
      intro X C W xa c e
      have it := IT X C W xa c
      have t0 := T0 X C W xa c
      cases e with
      | UnaryOp op a p =>
        cases op with
        | Not =>
          refine PT.imp (pt_not (it a)) fun σ H Q h => ?_
          obtain ⟨σ', s, e', gd, o⟩ := h
          refine outB_bnd e' gd o fun s1 kk H1 _ e1 g1 o1 => ?_
          exact Out.ret o1 s1.m s1.Z (Ext.refl s1) H1 g1
        | _ => exact t0 _ fun _ _ => rfl
      | BoolOp op vs p =>
        match op, vs with
        | .And, [] => cases n <;> exact tIT.no
        | .Or, [] => cases n <;> exact tIT.no
        | .And, [a] => exact (pw_and1 (it a)).pt
        | .Or, [a] => exact (pw_or1 (it a)).pt
        | .And, a :: b :: r =>
          refine PT.imp (pw_and (it a) (pw_of (it (.BoolOp .And (b :: r) p)))).pt fun σ H Q h => ?_
          obtain ⟨σ', s, e', gd, o⟩ := h
          refine outB_bnd e' gd o fun s1 kk H1 _ e1 g1 o1 => ?_
          cases kk with
          | true => exact ⟨σ', s1, e1, g1, o1⟩
          | false => exact Out.ret o1 s1.m s1.Z (Ext.refl s1) H1 g1
        | .Or, a :: b :: r =>
          refine PT.imp (pw_or (it a) (pw_of (it (.BoolOp .Or (b :: r) p)))).pt fun σ H Q h => ?_
          obtain ⟨σ', s, e', gd, o⟩ := h
          refine outB_bnd e' gd o fun s1 kk H1 _ e1 g1 o1 => ?_
          cases kk with
          | false => exact ⟨σ', s1, e1, g1, o1⟩
          | true => exact Out.ret o1 s1.m s1.Z (Ext.refl s1) H1 g1
      | IfExp t a b p => exact PT.no fun σ H Q ⟨σ', s, e, gd, o⟩ => o
      | Compare a ops cs p => exact TC X C W xa c a ops cs p
      | _ => exact t0 _ fun _ _ => rfl
    have I1 : ∀ (X : Cx) (C : Ctx) (W : WX) (xa : XA), CtxOk g cf xa W X C k → ∀ tg e, PI X tg e (tII X.K X.mg xa W fun σ => evalI g cf (n + 1) C (isTup tg) e σ) := by
      intro X C W xa c tg e
      have ie := IE X C W xa c
      have ist : ∀ e σ h, notStar e = false → evalE g cf n C e σ h = .stuck := fun e σ h hs => evalE_star hs n
      have dflt := i_iter (tg := tg) (ie e)
      cases e with
      | Call fn args kws p =>
        cases kws with
        | cons _ _ => cases fn <;> exact dflt
        | nil =>
          cases fn with
          | Name f q => exact i_iterN (ev := fun e σ => evalE g cf n C e σ) c ie ist
          | _ => exact dflt
      | _ => exact dflt
    exact ⟨E1, T1, I1⟩
end MI
set_option maxRecDepth 100000
namespace MI
open PySem PySem.Spec PyProof.Rows L2
variable {X : Cx} {K : PySem.W.Frag} {xa : XA} {g : G} {cf : Str → List Val → M Val} {W : WX} {C : Ctx} {k n : Nat} {mg : Str → Option Value}

/-! ### statements: outcomes -/
def OutS (K : PySem.W.Frag) (mg : Str → Option Value) (xa : XA) (W : WX) (s : S) (r : ResS) (D : Ends) : Prop := match r with
  | .nx σ1 h1 => ∀ m' Z' H' σ2, Ext s ⟨m', Z', h1, s.F⟩ → Good K ⟨m', Z', h1, s.F⟩ H' → EnvR K xa ⟨m', Z', h1, s.F⟩ σ1 σ2 → D.nx σ2 H'
  | .bk σ1 h1 => ∀ m' Z' H' σ2, Ext s ⟨m', Z', h1, s.F⟩ → Good K ⟨m', Z', h1, s.F⟩ H' → EnvR K xa ⟨m', Z', h1, s.F⟩ σ1 σ2 → D.bk σ2 H'
  | .ct σ1 h1 => ∀ m' Z' H' σ2, Ext s ⟨m', Z', h1, s.F⟩ → Good K ⟨m', Z', h1, s.F⟩ H' → EnvR K xa ⟨m', Z', h1, s.F⟩ σ1 σ2 → D.ct σ2 H'
  | .rt v h1 => ∀ m' Z' H' y, Ext s ⟨m', Z', h1, s.F⟩ → Good K ⟨m', Z', h1, s.F⟩ H' → RepV K xa ⟨m', Z', h1, s.F⟩ v y → D.rt y H'
  | .exc e σ1 h1 => ∀ m' Z' H' σ2 c d, Ext s ⟨m', Z', h1, s.F⟩ → Good K ⟨m', Z', h1, s.F⟩ H' → EnvR K xa ⟨m', Z', h1, s.F⟩ σ1 σ2 → ExcV mg Z' e c d → W c d σ2 H'
  | .stuck => False
def tIS (K : PySem.W.Frag) (mg : Str → Option Value) (xa : XA) (W : WX) (f : Env → MH → ResS) : TS := fun D σ H => ∃ σ' s, EnvR K xa s σ' σ ∧ Good K s H ∧ OutS K mg xa W s (f σ' s.h) D
theorem OutS.ext {s s' : S} {r : ResS} {D : Ends} (x : Ext s s') (h : OutS K mg xa W s r D) : OutS K mg xa W s' r D := by
  have hf := x.f
  obtain ⟨m0, Z0, h0, F0⟩ := s'
  subst hf
  cases r with
  | nx σ1 h1 => exact fun m' Z' H' σ2 y => h m' Z' H' σ2 (x.trans y)
  | bk σ1 h1 => exact fun m' Z' H' σ2 y => h m' Z' H' σ2 (x.trans y)
  | ct σ1 h1 => exact fun m' Z' H' σ2 y => h m' Z' H' σ2 (x.trans y)
  | rt v h1 => exact fun m' Z' H' σ2 y => h m' Z' H' σ2 (x.trans y)
  | exc e σ1 h1 => exact fun m' Z' H' σ2 c d y => h m' Z' H' σ2 c d (x.trans y)
  | stuck => exact h
theorem OutS.ofE {α : Type} {s : S} {σ' : Env} {σ : L2.St} {x : M α} {kk : α → MH → ResS} {D : Ends} (e : EnvR K xa s σ' σ) (o : OutS K mg xa W s (ofE x σ' s.h kk) D) :
    Out s (x s.h) (fun a s1 => OutS K mg xa W s1 (kk a s1.h) D) (PXE K mg fun c d H' => W c d σ H') := by
  unfold MI.ofE at o
  cases q : x s.h with
  | stuck => rw [q] at o; exact o
  | ok a h' =>
    rw [q] at o
    intro m' Z' y
    exact OutS.ext y o
  | exc a h' =>
    rw [q] at o
    intro m' Z' y H' c d gd ev
    exact o m' Z' H' σ c d y gd (e.mono y) ev
theorem OutS.nx_of {s : S} {σ1 : Env} {σ : L2.St} {H : L2.Hp} {D : Ends} (o : OutS K mg xa W s (.nx σ1 s.h) D) (e : EnvR K xa s σ1 σ) (gd : Good K s H) : D.nx σ H := o s.m s.Z H σ (Ext.refl s) gd e
theorem OutS.rt_of {s : S} {v : Val} {y : V} {H : L2.Hp} {D : Ends} (o : OutS K mg xa W s (.rt v s.h) D) (e : RepV K xa s v y) (gd : Good K s H) : D.rt y H := o s.m s.Z H y (Ext.refl s) gd e
theorem tIS.no {st : Stmt} : PS X st (tIS X.K X.mg xa W fun _ _ => .stuck) := ⟨fun pins s σ H D I ⟨σ', s', e, gd, o⟩ => o.elim⟩
theorem tIS.ite {c : Prop} [Decidable c] {st : Stmt} {A B : Env → MH → ResS} (h1 : c → PS X st (tIS X.K X.mg xa W A)) (h2 : ¬ c → PS X st (tIS X.K X.mg xa W B)) : PS X st (tIS X.K X.mg xa W fun σ h => if c then A σ h else B σ h) := by
  by_cases h : c
  · have q : (fun σ h => if c then A σ h else B σ h) = A := by funext σ h'; rw [if_pos h]
    rw [q]; exact h1 h
  · have q : (fun σ h => if c then A σ h else B σ h) = B := by funext σ h'; rw [if_neg h]
    rw [q]; exact h2 h
/-- a statement's context -/
structure StOk (g : G) (cf : Str → List Val → M Val) (xa : XA) (W : WX) (X : Cx) (C : Ctx) (k : Nat) : Prop where
  cx : CtxOk g cf xa W X C k
  fn : ∀ x, locB C.sc x = true → Loc X.env.scope x ∧ (X.fn x = true ∨ X.env.scope.names.lookup x = some .local)
  kind : X.env.scope.kind = .function
  own : C.calm = true → PassesOwn (model X.prog X.w) X.A X.env X.xe
  tk : C.calm = true → Takes X W
  stk : C.calm = true → X.stack = X.env :: X.outer
  frm : C.calm = true → X.env.frame = some X.env.locals
theorem swaps_none {e : Expr} {l : Nat} {env : PySem.Env} (h : notComp e = true) (t : Option Expr) : swapsWith e t l env = pure false := by
  cases e <;> first | rfl | exact absurd (show false = true from h) Bool.false_ne_true
theorem swaps_cell {elt : Expr} {gens : List Comprehension} {sc : Scope} {p py : Pos} {x : Str} {l : Nat} {env : PySem.Env} (h : env.scope.names.lookup x ≠ some .local) : swapsWith (.ListComp elt gens sc p) (some (.Name x py)) l env = pure false := by
  have h2 : (env.kindOf x == some NameKind.local) = false := by
    have h3 : env.kindOf x ≠ some NameKind.local := h
    simpa using h3
  unfold swapsWith
  simp [h2]
theorem lc_parts (c : CtxOk g cf xa W X C k) {elt : Expr} {gens : List Comprehension} {scope : Scope} {p : Pos} : ∀ n,
    (∃ tg iter ifs wi gt tt te own, gens = [⟨tg, iter, ifs, 0⟩] ∧ X.calm = true ∧ PI X tg iter wi ∧ BlkOk X.N X.env.scope scope own ∧
      (∀ (s : Shared) (H : L2.Hp) (Ca : Addr) (cl : List (Str × Addr)) (fp : List Addr), PG (X.blk s H scope (compEnvC scope cl Ca X.env) fp) tg gt) ∧
      (∀ (s : Shared) (H : L2.Hp) (Ca : Addr) (cl : List (Str × Addr)) (fp : List Addr), PTs (X.blk s H scope (compEnvC scope cl Ca X.env) fp) ifs tt) ∧
      (∀ (s : Shared) (H : L2.Hp) (Ca : Addr) (cl : List (Str × Addr)) (fp : List Addr), PE (X.blk s H scope (compEnvC scope cl Ca X.env) fp) elt te) ∧ (∀ x, foldedSetIterable iter X.env x = pure x) ∧
      ∀ σ H Q, tI X.K X.mg xa W (fun σ => evalE g cf n C (.ListComp elt gens scope p) σ) σ H Q → tLc wi gt tt te (own.map (·.2)) σ H Q) ∨
    (∀ σ h, evalE g cf n C (.ListComp elt gens scope p) σ h = .stuck)
  | 0 => .inr fun _ _ => rfl
  | n + 1 => by
    match gens with
    | [] => exact .inr fun _ _ => rfl
    | ⟨_, _, _, _⟩ :: _ :: _ => exact .inr fun _ _ => rfl
    | [⟨tg, iter, ifs, asy⟩] =>
      by_cases h : ((asy == 0) && C.calm && L2.blkC C.N C.sc scope (ownOf C.N scope) && notSet iter) = true
      · have h' := h
        simp only [Bool.and_eq_true] at h
        obtain ⟨⟨⟨h1, hcal⟩, hb⟩, hns⟩ := h
        obtain rfl := beq_iff_eq.mp h1
        cases hsl : slotsT C.N scope tg with
        | none =>
          refine .inr fun σ h2 => ?_
          show (if _ then optM (slotsT C.N scope tg) _ else stk) h2 = .stuck
          rw [if_pos h', hsl]
          rfl
        | some sl =>
          by_cases hsub : (sl.2.all fun i => ((ownOf C.N scope).map (·.2)).contains i) = true
          · have hsub' : ∀ i ∈ sl.2, i ∈ (ownOf C.N scope).map (·.2) := fun i hi => by
              have := List.all_eq_true.mp hsub i hi
              simpa using this
            have ok : BlkOk X.N X.env.scope scope (ownOf C.N scope) := by
              rw [c.N, c.sc]
              exact blkOk_by hb
            have hcx := c.calm hcal
            obtain ⟨IE, IT, II⟩ := snd_E g cf k n
            have hg : ∀ (s : Shared) (H : L2.Hp) (Ca : Addr) (cl : List (Str × Addr)) (fp : List Addr), PG (X.blk s H scope (compEnvC scope cl Ca X.env) fp) tg (gS X.K sl) := fun s H Ca cl fp => pg_slots (sc := scope) c.N c.nd hcx blk_loc hsl
            have ht : ∀ (s : Shared) (H : L2.Hp) (Ca : Addr) (cl : List (Str × Addr)) (fp : List Addr), PTs (X.blk s H scope (compEnvC scope cl Ca X.env) fp) ifs (tIT X.K X.mg xa (fun _ _ _ _ => False) fun σ => evalFs (fun t => evalT g cf n ⟨C.N, relS scope C.sc, C.calm⟩ t σ) ifs) :=
              fun s H Ca cl fp => i_tests (X := X.blk s H scope (compEnvC scope cl Ca X.env) fp) (ev := fun σ t => evalT g cf n ⟨C.N, relS scope C.sc, C.calm⟩ t σ) (IT _ _ _ xa (c.blk hcal)) ifs
            have he : ∀ (s : Shared) (H : L2.Hp) (Ca : Addr) (cl : List (Str × Addr)) (fp : List Addr), PE (X.blk s H scope (compEnvC scope cl Ca X.env) fp) elt (tI X.K X.mg xa (fun _ _ _ _ => False) fun σ => evalE g cf n ⟨C.N, relS scope C.sc, C.calm⟩ elt σ) :=
              fun s H Ca cl fp => IE _ _ _ xa (c.blk hcal) elt
            refine .inl ⟨tg, iter, ifs, _, _, _, _, ownOf C.N scope, rfl, hcx, II X C W xa c tg iter, ok, hg, ht, he, fold_ok hns, fun σ H Q hq => ?_⟩
            refine i_lc (c := g.chg.contains p) hcx c.nd (II X C W xa c tg iter) ok hsub' hg ht he (fold_ok hns) σ H Q ?_
            obtain ⟨σ', s, e, gd, o⟩ := hq
            refine ⟨σ', s, e, gd, ?_⟩
            have o : Out s ((if (((0 : Int) == 0) && C.calm && L2.blkC C.N C.sc scope (ownOf C.N scope) && notSet iter) = true then optM (slotsT C.N scope tg) (fun sl => if (sl.2.all fun i => ((ownOf C.N scope).map (·.2)).contains i) = true then _ else stk) else stk) s.h) _ _ := o
            rw [if_pos h', hsl] at o
            have o : Out s ((if (sl.2.all fun i => ((ownOf C.N scope).map (·.2)).contains i) = true then _ else stk) s.h) _ _ := o
            rw [if_pos hsub] at o
            exact o
          · refine .inr fun σ h2 => ?_
            show (if _ then optM (slotsT C.N scope tg) _ else stk) h2 = .stuck
            rw [if_pos h', hsl]
            show (if _ then _ else stk) h2 = .stuck
            rw [if_neg hsub]
            rfl
      · refine .inr fun σ h2 => ?_
        show (if _ then optM (slotsT C.N scope tg) _ else stk) h2 = .stuck
        rw [if_neg h]
        rfl
/-- X() of an own class of errors without __init__ -/
theorem pmk0 {Ca : Addr} {bmB : List Value} {B newId initId : String} {x : Str} {p pos : Pos} (F : ExcBaseFacts B newId initId bmB) (q : PySem.W.excIn X.K Ca bmB newId = true) (gC : X.mg x = some (.ref Ca))
    (kC : PySem.W.keepIn X.K (.ref Ca) = true) (r : Raises X (.ref Ca)) (hg : Gl X x) (hdb : (x == ("__debug__" : Str)) = false) : PMk X (.Call (.Name x p) [] [] pos) (fun σ H Q => Q (.ref Ca) none H) := by
  intro pins s σ H Q I h
  refine wpAny_Call_Name_kw (ld_glob I hg gC ?_ hdb)
  refine PySem.W.callWith_K0 I.kIn kC ?_
  show wpAny _ _ (call (.ref Ca) []) _ _ _
  obtain ⟨bm, N, nm, qn, bs, hdct, sn, sub, ab, col, dd, k0, k1, k2, k3, k5, mN, hC, hN, hni, T⟩ := exc_obj I.kIn q
  refine wpAny_call_exc_subT F T hC hN hni (fun h' e hm => ?_) (Nat.zero_le _)
  exact mk_of I hm r h (I.hok.gone hm.new)
end MI
set_option maxRecDepth 100000
namespace MI
open PySem PySem.Spec PyProof.Rows L2
variable {X : Cx} {K : PySem.W.Frag} {xa : XA} {g : G} {cf : Str → List Val → M Val} {W : WX} {C : Ctx} {k n : Nat} {mg : Str → Option Value}

theorem swapped_none {t e : Expr} {env : PySem.Env} (h : ∀ es kk q, e ≠ .Tuple es kk q) : swappedStores [t] e env = pure none := by
  cases e <;> first
    | rfl
    | exact absurd rfl (h _ _ _)
    | (cases t <;> rfl)
theorem swappedSub {o i e : Expr} {q : Pos} {env : PySem.Env} : swappedStores [.Subscript o i q] e env = pure none := by
  cases e <;> rfl
theorem swapsSoleT {es : List Expr} {kk : Nat} {q : Pos} {e : Expr} {l : Nat} {env : PySem.Env} : swapsWithSole [.Tuple es kk q] e l env = pure false := by
  cases e <;> rfl
theorem swapsSoleS {o i : Expr} {q : Pos} {e : Expr} {l : Nat} {env : PySem.Env} : swapsWithSole [.Subscript o i q] e l env = pure false := by
  cases e <;> rfl
theorem isTup_of {es : List Expr} {kk : Nat} {q : Pos} : isTup (.Tuple es kk q) = true := rfl

/-- the context of an except suite -/
def xaS (g : G) (mg : Str → Option Value) (a : Addr) (cls : Value) (d : Option Addr) : XA := fun e v => v = .ref a ∧ mg e.cls = some cls ∧ e.fs = [] ∧ d = none ∧ ∃ l, g.excs.lookup e.cls = some l
theorem StOk.suite (c : StOk g cf xa W X C k) (hcal : C.calm = true) {a : Addr} {oe : Obj} {cls : Value} {d : Option Addr} {pn : List (Addr × Obj)} (hz : Zc cls d oe) (hf : ∃ vs, oe.data = .fields vs) :
    StOk g cf (xaS g X.mg a cls d) (fun _ _ _ _ => False) (X.suite a ((a, oe) :: pn)) ⟨C.N, C.sc, false⟩ k where
  cx := {
    N := c.cx.N
    sc := c.cx.sc
    nd := c.cx.nd
    gok := c.cx.gok
    calm := fun h => by cases h
    room := fun h => by cases h
    pas := fun h => by cases h
    nox := fun h => by cases h
    xl := fun e v h => h.2.2.2.2
    isE := fun pins s σ H xs us Q I r h => by
      obtain ⟨e, v, cc, cv, D, rfl, ⟨rfl, h2, h3, rfl, l, hl⟩, h5, h6, b, h7, q⟩ := h
      have h2 : X.mg e.cls = some cls := h2
      have h5 : X.mg e.cls = some (.ref D) := h5
      rw [h2] at h5
      cases h5
      obtain ⟨Ca, hm, ef⟩ := c.cx.gok.ex _ l hl
      rw [h2] at hm
      cases hm
      exact call_isE (X := X) (oe := oe) (pn := pn) ef.ec hz hf pins s σ H _ us Q I r ⟨cc, cv, b, rfl, h6, h7, q⟩ }
  fn := c.fn
  kind := c.kind
  own := fun h => by cases h
  tk := fun h => by cases h
  stk := fun h => by cases h
  frm := fun h => by cases h
theorem StOk.tr (c : StOk g cf xa W X C k) (hcal : C.calm = true) {W' : WX} {pn : List (Addr × Obj)} {xe : Value → Shared → Prop} (tk : Takes (X.tr pn xe) W') (own : PassesOwn (model X.prog X.w) X.A X.env xe) : StOk g cf xa W' (X.tr pn xe) C k where
  cx := {
    N := c.cx.N
    sc := c.cx.sc
    nd := c.cx.nd
    gok := c.cx.gok
    calm := c.cx.calm
    room := c.cx.room
    pas := fun _ σ => passAt tk σ
    nox := c.cx.nox
    xl := c.cx.xl
    isE := fun pins s σ H xs us Q I r h => by
      obtain ⟨e, v, _, _, _, _, h1, _⟩ := h
      exact absurd h1 (c.cx.nox hcal e v) }
  fn := c.fn
  kind := c.kind
  own := fun _ => own
  tk := fun _ => tk
  stk := c.stk
  frm := c.frm
theorem scrub_get {σ : Env} {i : Nat} {x : Val} (h : (scrub σ)[i]? = some (some x)) : σ[i]? = some (some x) ∧ isExc x = false := by
  unfold scrub at h
  rw [List.getElem?_map] at h
  obtain ⟨o, h1, h2⟩ := Option.map_eq_some_iff.mp h
  cases o with
  | none => cases h2
  | some v =>
    cases v with
    | exc e => cases h2
    | d y => cases h2; exact ⟨h1, rfl⟩
    | m j => cases h2; exact ⟨h1, rfl⟩
    | scr ns => cases h2; exact ⟨h1, rfl⟩
theorem EnvR.scrub {xb : XA} {s : S} {σ' : Env} {σ : L2.St} (h : EnvR K xa s σ' σ) : EnvR K xb s (MI.scrub σ') σ := by
  refine ⟨by unfold MI.scrub; rw [List.length_map]; exact h.len, fun i x e => ?_⟩
  obtain ⟨h1, h2⟩ := scrub_get e
  obtain ⟨v, h3, h4⟩ := h.get i x h1
  refine ⟨v, h3, ?_⟩
  cases x with
  | exc e => cases h2
  | d y => exact h4
  | m j => exact h4
  | scr ns => exact h4
theorem EnvR.calmed {xb : XA} (hn : ∀ e v, ¬ xa e v) {s : S} {σ' : Env} {σ : L2.St} (h : EnvR K xa s σ' σ) : EnvR K xb s σ' σ := by
  refine ⟨h.len, fun i x e => ?_⟩
  obtain ⟨v, h3, h4⟩ := h.get i x e
  refine ⟨v, h3, ?_⟩
  cases x with
  | exc ee => exact absurd h4 (hn ee v)
  | d y => exact h4
  | m j => exact h4
  | scr ns => exact h4

theorem cls_names (c : StOk g cf xa W X C k) {cn : Str} (hp : plainN cn = true) (hgl : glB C.sc cn = true) (hcls : clsOf g cn = true) : ∃ cv, Names X cn cv ∧ ∀ x l, g.excs.lookup x = some l → ∃ Ca, X.mg x = some (.ref Ca) ∧ PySem.W.exmOne X.K (.ref Ca) cv = some (l.contains cn) := by
  have main : ∀ cv, (X.mg cn = some cv ∨ (X.mg cn = none ∧ bootBuiltins cn = some cv ∧ cn ≠ "__name__")) → ∃ cv, Names X cn cv ∧ ∀ x l, g.excs.lookup x = some l → ∃ Ca, X.mg x = some (.ref Ca) ∧ PySem.W.exmOne X.K (.ref Ca) cv = some (l.contains cn) := by
    intro cv hcv
    refine ⟨cv, ⟨c.cx.gl hgl, (plain_of hp).1, hcv⟩, fun x l hl => ?_⟩
    obtain ⟨Ca, hm, ef⟩ := c.cx.gok.ex x l hl
    obtain ⟨cv', h1, _, h2⟩ := ef.is cn hcls
    have : cv' = cv := by
      rcases hcv with h3 | ⟨h3, h4, _⟩ <;> rcases h1 with ⟨h5, _⟩ | ⟨h5, h6, _⟩
      · rw [h3] at h5; cases h5; rfl
      · rw [h3] at h5; cases h5
      · rw [h3] at h5; cases h5
      · rw [h4] at h6; cases h6; rfl
    subst this
    exact ⟨Ca, hm, h2⟩
  unfold clsOf at hcls
  rw [Bool.or_eq_true, Bool.or_eq_true] at hcls
  rcases hcls with (h | h) | h
  · obtain ⟨l, hl⟩ := Option.isSome_iff_exists.mp h
    obtain ⟨Ca, hm, _⟩ := c.cx.gok.ex cn l hl
    exact main _ (.inl hm)
  · obtain ⟨Ca, hm⟩ := c.cx.gok.mr cn h
    exact main _ (.inl hm)
  · obtain rfl := beq_iff_eq.mp h
    exact main (.type "ValueError") (.inr ⟨c.cx.gok.bl _ (by decide), rfl, by decide⟩)
theorem i_try (c : StOk g cf xa W X C k) {n : Nat} {b₀ : Stmt} {suite : List Stmt} {cn nm : Str} {cp hp p : Pos}
    (IB : ∀ (W' : WX) (pn : List (Addr × Obj)) (xe : Value → Shared → Prop), Takes (X.tr pn xe) W' → PassesOwn (model X.prog X.w) X.A X.env xe → StOk g cf xa W' (X.tr pn xe) C k → ∀ ss, PSs (X.tr pn xe) ss (tIS X.K X.mg xa W' fun σ h => evalB g cf n C ss σ h))
    (IS : ∀ (X : Cx) (C : Ctx) (W : WX) (xa : XA), StOk g cf xa W X C k → PSs X (b₀ :: suite) (tIS X.K X.mg xa W fun σ h => evalB g cf n C (b₀ :: suite) σ h)) (body : List Stmt) :
    PS X (.Try body [.ExceptHandler (some (.Name cn cp)) (some nm) (b₀ :: suite) hp] [] [] p) (tIS X.K X.mg xa W fun σ h => evalS g cf (n + 1) C (.Try body [.ExceptHandler (some (.Name cn cp)) (some nm) (b₀ :: suite) hp] [] [] p) σ h) := by
  refine tIS.ite (fun h => ?_) fun _ => tIS.no
  simp only [Bool.and_eq_true] at h
  obtain ⟨⟨⟨⟨hcal, hloc⟩, hpl⟩, hgl⟩, hcls⟩ := h
  cases hs : slot C.N nm with
  | none => exact tIS.no
  | some i =>
    have hi : X.N[i]? = some nm := by rw [c.cx.N]; exact slot_get hs
    have hln : X.env.kindOf nm = some .local := by
      show X.env.scope.names.lookup nm = _
      rw [c.cx.sc]
      exact beq_iff_eq.mp hloc
    obtain ⟨cv, hcv, hex⟩ := cls_names c hpl hgl hcls
    refine PS.imp (ps_try_as (i := i) (tb := fun W' => tIS X.K X.mg xa W' fun σ h => evalB g cf n C body σ h) (ts := fun a cls d => tIS X.K X.mg (xaS g X.mg a cls d) (fun _ _ _ _ => False) fun σ h => evalB g cf n ⟨C.N, C.sc, false⟩ (b₀ :: suite) σ h) (Wout := W)
      (c.stk hcal) (c.frm hcal) c.cx.nd hi hln hcv (c.tk hcal) (fun W' pn xe tk own => IB W' pn xe tk own (c.tr hcal tk own) body) (fun a oe cls d pn hz hf => IS _ _ _ _ (c.suite hcal hz hf))) fun D σ H hq => ?_
    obtain ⟨σ', s, e, gd, o⟩ := hq
    refine ⟨σ', s, e, gd, ?_⟩
    show OutS X.K X.mg xa _ s (evalB g cf n C body σ' s.h) D
    have o : OutS X.K X.mg xa W s (match evalB g cf n C body σ' s.h with
          | .exc e σ1 h1 => match isInst g (.exc e) cn h1 with
            | some true => match evalB g cf n ⟨C.N, C.sc, false⟩ (b₀ :: suite) (σ1.set i (some (.exc e))) h1 with
              | .nx σ2 h2 => .nx (scrub (σ2.set i none)) h2
              | .bk σ2 h2 => .bk (scrub (σ2.set i none)) h2
              | .ct σ2 h2 => .ct (scrub (σ2.set i none)) h2
              | .rt v h2 => if isExc v then .stuck else .rt v h2
              | _ => .stuck
            | some false => .exc e σ1 h1
            | none => .stuck
          | r => r) D := o
    cases q : evalB g cf n C body σ' s.h with
    | nx σa h1 => rw [q] at o; exact o
    | ct σa h1 => rw [q] at o; exact o
    | bk σa h1 => rw [q] at o; exact o
    | rt v h1 => rw [q] at o; exact o
    | stuck => rw [q] at o; exact o
    | exc ee σ1 h1 =>
      rw [q] at o
      intro m' Z' H' σ2 cls d y gd' e' ev
      cases hl : g.excs.lookup ee.cls with
      | none =>
        have : isInst g (.exc ee) cn h1 = none := by unfold isInst; simp only [hl]
        simp only [this] at o
        exact o.elim
      | some l =>
        obtain ⟨Ca, hm, hx⟩ := hex _ l hl
        obtain ⟨ev1, ev2, ev3⟩ := ev
        rw [hm] at ev1
        cases ev1
        have hI : isInst g (.exc ee) cn h1 = some (l.contains cn) := by unfold isInst; simp only [hl, hcls, if_true]
        refine ⟨l.contains cn, hx, fun hb a ha => ?_, fun hb => ?_⟩
        · simp only [hI, hb] at o
          have e2 : EnvR X.K (xaS g X.mg a (.ref Ca) d) ⟨m', Z', h1, s.F⟩ (σ1.set i (some (.exc ee))) (σ2.set i (some (.ref a))) :=
            (e'.calmed (c.cx.nox hcal)).set (x := .exc ee) ⟨rfl, hm, ev2, ev3, l, hl⟩
          refine ⟨_, ⟨m', Z', h1, s.F⟩, e2, gd', ?_⟩
          show OutS X.K X.mg _ _ _ (evalB g cf n ⟨C.N, C.sc, false⟩ (b₀ :: suite) (σ1.set i (some (.exc ee))) h1) _
          cases q2 : evalB g cf n ⟨C.N, C.sc, false⟩ (b₀ :: suite) (σ1.set i (some (.exc ee))) h1 with
          | nx σa h3 => rw [q2] at o; exact fun m2 Z2 H2 σ4 y2 gd2 e4 => o m2 Z2 H2 _ (y.trans y2) gd2 e4.unset.scrub
          | ct σa h3 => rw [q2] at o; exact fun m2 Z2 H2 σ4 y2 gd2 e4 => o m2 Z2 H2 _ (y.trans y2) gd2 e4.unset.scrub
          | bk σa h3 => rw [q2] at o; exact fun m2 Z2 H2 σ4 y2 gd2 e4 => o m2 Z2 H2 _ (y.trans y2) gd2 e4.unset.scrub
          | rt v h3 =>
            rw [q2] at o
            intro m2 Z2 H2 y' y2 gd2 r
            have o : OutS X.K X.mg xa W s (if isExc v = true then .stuck else .rt v h3) D := o
            cases v with
            | exc e4 => exact o.elim
            | d x => exact o m2 Z2 H2 y' (y.trans y2) gd2 r
            | m j => exact o m2 Z2 H2 y' (y.trans y2) gd2 r
            | scr ns => exact o m2 Z2 H2 y' (y.trans y2) gd2 r
          | exc e4 σa h3 => rw [q2] at o; exact o.elim
          | stuck => rw [q2] at o; exact o.elim
        · simp only [hI, hb] at o
          exact o m' Z' H' σ2 _ d y gd' e' ⟨hm, ev2, ev3⟩

/-- THE STATEMENTS -/
theorem snd_S (g : G) (cf : Str → List Val → M Val) (k : Nat) : ∀ n : Nat,
    (∀ (X : Cx) (C : Ctx) (W : WX) (xa : XA), StOk g cf xa W X C k → ∀ st, PS X st (tIS X.K X.mg xa W fun σ h => evalS g cf n C st σ h)) ∧
    (∀ (X : Cx) (C : Ctx) (W : WX) (xa : XA), StOk g cf xa W X C k → ∀ ss, PSs X ss (tIS X.K X.mg xa W fun σ h => evalB g cf n C ss σ h))
  | 0 => ⟨fun X C W xa c st => tIS.no, fun X C W xa c ss => ⟨fun pins s σ H D I ⟨σ', s', e, gd, o⟩ => o.elim⟩⟩
  | n + 1 => by
    obtain ⟨IS, IB⟩ := snd_S g cf k n
    obtain ⟨IE, IT, II⟩ := snd_E g cf k n
    have B1 : ∀ (X : Cx) (C : Ctx) (W : WX) (xa : XA), StOk g cf xa W X C k → ∀ ss, PSs X ss (tIS X.K X.mg xa W fun σ h => evalB g cf (n + 1) C ss σ h) := by
      intro X C W xa c ss
      match ss with
      | [] => exact PSs.imp pss_nil fun D σ H ⟨σ', s, e, gd, o⟩ => o.nx_of e gd
      | [st] => exact pss_one (IS X C W xa c st)
      | st :: st2 :: r =>
        refine PSs.imp (pss_cons (IS X C W xa c st) (IB X C W xa c (st2 :: r))) fun D σ H h => ?_
        obtain ⟨σ', s, e, gd, o⟩ := h
        refine ⟨σ', s, e, gd, ?_⟩
        have o : OutS X.K X.mg xa W s (match evalS g cf n C st σ' s.h with
          | .nx σ1 h1 => evalB g cf n C (st2 :: r) σ1 h1
          | x => x) D := o
        show OutS X.K X.mg xa W s (evalS g cf n C st σ' s.h) _
        cases q : evalS g cf n C st σ' s.h with
        | nx σ1 h1 =>
          rw [q] at o
          exact fun m' Z' H' σ2 y gd' e' => ⟨σ1, _, e', gd', OutS.ext y o⟩
        | bk σ1 h1 => rw [q] at o; exact o
        | ct σ1 h1 => rw [q] at o; exact o
        | rt v h1 => rw [q] at o; exact o
        | exc ee σ1 h1 => rw [q] at o; exact o
        | stuck => rw [q] at o; exact o
    have S1 : ∀ (X : Cx) (C : Ctx) (W : WX) (xa : XA), StOk g cf xa W X C k → ∀ st, PS X st (tIS X.K X.mg xa W fun σ h => evalS g cf (n + 1) C st σ h) := by
      intro X C W xa c st
      have ie := IE X C W xa c.cx
      have it := IT X C W xa c.cx
      have ist : ∀ e σ h, notStar e = false → evalE g cf n C e σ h = .stuck := fun e σ h hs => evalE_star hs n
      cases st with
      | Pass p => exact PS.imp ps_pass fun D σ H ⟨σ', s, e, gd, o⟩ => o.nx_of e gd
      | Break p => exact PS.imp ps_break fun D σ H ⟨σ', s, e, gd, o⟩ => o s.m s.Z H σ (Ext.refl s) gd e
      | Continue p => exact PS.imp ps_continue fun D σ H ⟨σ', s, e, gd, o⟩ => o s.m s.Z H σ (Ext.refl s) gd e
      | Return v p =>
        cases v with
        | none => exact PS.imp ps_retN fun D σ H ⟨σ', s, e, gd, o⟩ => o.rt_of (rep_non.mpr rfl) gd
        | some v =>
          refine PS.imp (ps_ret (ie v)) fun D σ H ⟨σ', s, e, gd, o⟩ => ?_
          exact ⟨σ', s, e, gd, (OutS.ofE e o).imp (fun x' s1 x1 o1 y H1 g1 r1 => o1.rt_of r1 g1) fun _ _ _ z => z⟩
      | Expr e p =>
        have main : PS X (.Expr e p) (tIS X.K X.mg xa W fun σ h => if notComp e = true then ofE (evalE g cf n C e σ) σ h fun _ h' => .nx σ h' else .stuck) := by
          refine tIS.ite (fun h => ?_) fun _ => tIS.no
          refine PS.imp (ps_expr (ie e) (swaps_none h none)) fun D σ H ⟨σ', s, e', gd, o⟩ => ?_
          exact ⟨σ', s, e', gd, (OutS.ofE e' o).imp (fun x' s1 x1 o1 y H1 g1 r1 => o1.nx_of (e'.mono x1) g1) fun _ _ _ z => z⟩
        cases e with
        | Constant v j q =>
          cases v with
          | str x => exact PS.imp ps_doc fun D σ H ⟨σ', s, e, gd, o⟩ => o.nx_of e gd
          | _ => exact main
        | _ => exact main
      | If t a b p =>
        refine PS.imp (ps_if (it t) (IB X C W xa c a) (IB X C W xa c b)) fun D σ H ⟨σ', s, e, gd, o⟩ => ?_
        refine ⟨σ', s, e, gd, (OutS.ofE e o).imp (fun kk s1 x1 o1 H1 g1 => ?_) fun _ _ _ z => z⟩
        cases kk with
        | true => exact ⟨σ', s1, e.mono x1, g1, o1⟩
        | false => exact ⟨σ', s1, e.mono x1, g1, o1⟩
      | Assign ts e p =>
        match ts with
        | [] => exact tIS.no
        | a :: _ :: _ => cases a <;> exact tIS.no
        | [t] =>
          cases t with
          | Name x py =>
            refine tIS.ite (fun h => ?_) fun _ => tIS.no
            simp only [Bool.and_eq_true] at h
            obtain ⟨⟨hp, hl⟩, hsw⟩ := h
            obtain ⟨hx, hf⟩ := c.fn x hl
            cases hs : slot C.N x with
            | none => exact tIS.no
            | some i =>
              have hi : X.N[i]? = some x := by rw [c.cx.N]; exact slot_get hs
              have fin : ∀ {D : Ends} {σ : L2.St} {H : L2.Hp}, tIS X.K X.mg xa W (fun σ h => ofE (evalE g cf n C e σ) σ h fun v h' => .nx (σ.set i (some v)) h') D σ H →
                  tI X.K X.mg xa W (fun σ => evalE g cf n C e σ) σ H (fun y H1 => gName i y σ H1 D.nx) := fun {D σ H} ⟨σ', s, e', gd, o⟩ =>
                ⟨σ', s, e', gd, (OutS.ofE e' o).imp (fun x' s1 x1 o1 y H1 g1 r1 => o1.nx_of ((e'.mono x1).set r1) g1) fun _ _ _ z => z⟩
              have plain : swapsWith e (some (.Name x py)) p.line X.env = pure false → PS X (.Assign [.Name x py] e p) (tIS X.K X.mg xa W fun σ h => ofE (evalE g cf n C e σ) σ h fun v h' => .nx (σ.set i (some v)) h') := fun hsw =>
                PS.imp (ps_set c.cx.nd hi hx (ie e) hsw hf) fun D σ H h => fin h
              cases e with
              | ListComp elt gens sc2 p2 =>
                by_cases hloc : X.env.scope.names.lookup x = some .local
                · have hsw : ((py.line == p2.line) && !(sc2.names.any fun (n, k) => n == x && (k == .local || k == .cell))) = true := by
                    have q := hsw
                    unfold swapOk at q
                    rw [← c.cx.sc, hloc] at q
                    exact q
                  obtain ⟨h1, h2⟩ := Bool.and_eq_true_iff.mp hsw
                  rcases lc_parts c.cx (elt := elt) (gens := gens) (scope := sc2) (p := p2) n with ⟨tg, iter, ifs, wi, gt, tt, te, own, rfl, hcx, hi', ok, hg, ht, he, hfs, himp⟩ | hno
                  · refine PS.imp (ps_setLc hcx c.cx.nd hi hloc (sw_true c.kind hloc h1 (by simpa using h2)) hi' ok hg ht he hfs) fun D σ H h => himp _ _ _ (fin h)
                  · refine ⟨fun pins s σ H D I ⟨σ', s', e', gd, o⟩ => ?_⟩
                    have := OutS.ofE e' o
                    rw [hno] at this
                    exact this.elim
                · exact plain (swaps_cell hloc)
              | SetComp _ _ _ _ => cases hsw
              | DictComp _ _ _ _ _ => cases hsw
              | _ => exact plain (swaps_none rfl _)
          | Tuple es kk q =>
            have main : (∀ es kk q, e ≠ .Tuple es kk q) → PS X (.Assign [.Tuple es kk q] e p) (tIS X.K X.mg xa W fun σ h => if C.calm = true then ofE (evalE g cf n C e σ) σ h fun v h' => match v with
                | .d v => match (slotsT C.N C.sc (.Tuple es kk q)).bind fun sl => bindS sl v σ with
                  | some σ1 => .nx σ1 h'
                  | none => .stuck
                | _ => .stuck
              else .stuck) := fun hne => by
              refine tIS.ite (fun hcal => ?_) fun _ => tIS.no
              cases hsl : slotsT C.N C.sc (.Tuple es kk q) with
              | none =>
                have hg : PG X (.Tuple es kk q) (fun _ _ _ _ => False) := ⟨fun _ _ _ _ _ _ _ _ _ h => h.elim⟩
                refine PS.imp (ps_asg (ie e) hg swapsSoleT (swapped_none hne) rfl) fun D σ H ⟨σ', s, e', gd, o⟩ => ?_
                refine ⟨σ', s, e', gd, (OutS.ofE e' o).imp (fun x' s1 x1 o1 y H1 g1 r1 => ?_) fun _ _ _ z => z⟩
                cases x' <;> exact o1.elim
              | some sl =>
                have hg : PG X (.Tuple es kk q) (gS X.K sl) := pg_slots (N := C.N) (sc := C.sc) c.cx.N c.cx.nd (c.cx.calm hcal) c.fn hsl
                refine PS.imp (ps_asg (ie e) hg swapsSoleT (swapped_none hne) rfl) fun D σ H ⟨σ', s, e', gd, o⟩ => ?_
                refine ⟨σ', s, e', gd, (OutS.ofE e' o).imp (fun x' s1 x1 o1 y H1 g1 r1 => ?_) fun _ _ _ z => z⟩
                cases x' with
                | d v =>
                  have o1 : OutS X.K X.mg xa W s1 (match bindS sl v σ' with | some σ1 => .nx σ1 s1.h | none => .stuck) D := o1
                  cases hb : bindS sl v σ' with
                  | none => rw [hb] at o1; exact o1.elim
                  | some σ1 =>
                    rw [hb] at o1
                    exact gS_do g1 (e'.mono x1) r1 hb fun σ2 e3 _ => o1.nx_of e3 g1
                | m i => exact o1.elim
                | scr ns => exact o1.elim
                | exc ee => exact o1.elim
            cases e with
            | Tuple _ _ _ => exact tIS.no
            | _ => exact main fun _ _ _ z => by cases z
          | Subscript o i q =>
            refine tIS.ite (fun hsl => ?_) fun _ => tIS.no
            refine PS.imp (ps_asg (ie e) (pg_sub (ie o) (ie i) set_list (by intro v; cases i <;> first | rfl | exact absurd (show false = true from hsl) Bool.false_ne_true)) swapsSoleS swappedSub rfl) fun D σ H ⟨σ', s, e', gd, oo⟩ => ?_
            refine ⟨σ', s, e', gd, (OutS.ofE e' oo).imp (fun vx s1 x1 o1 v H1 g1 r1 => ?_) fun _ _ _ z => z⟩
            refine ⟨σ', s1, e'.mono x1, g1, (OutS.ofE (e'.mono x1) o1).imp (fun xx s2 x2 o2 xo H2 g2 r2 => ?_) fun _ _ _ z => z⟩
            refine ⟨σ', s2, (e'.mono x1).mono x2, g2, (OutS.ofE ((e'.mono x1).mono x2) o2).imp (fun yy s3 x3 o3 yi H3 g3 r3 => ?_) fun _ _ _ z => z⟩
            cases xx with
            | m a =>
              cases yy with
              | d yd =>
                cases yd with
                | int j =>
                  cases vx with
                  | d vd =>
                    have o3 : OutS X.K X.mg xa W s3 (match s3.h[a]? with
                      | some (.lst xs) => match L2.ixN xs.length j with
                        | some k => .nx σ' (s3.h.set a (.lst (xs.set k vd)))
                        | none => .stuck
                      | _ => .stuck) D := o3
                    cases h5 : s3.h[a]? with
                    | none => rw [h5] at o3; exact o3.elim
                    | some ob =>
                      rw [h5] at o3
                      cases ob with
                      | dict kvs => exact o3.elim
                      | lst xs =>
                        have o3 : OutS X.K X.mg xa W s3 (match L2.ixN xs.length j with
                          | some k => .nx σ' (s3.h.set a (.lst (xs.set k vd)))
                          | none => .stuck) D := o3
                        cases h6 : L2.ixN xs.length j with
                        | none => rw [h6] at o3; exact o3.elim
                        | some kq =>
                          rw [h6] at o3
                          obtain ⟨rfl, ha⟩ := r2
                          obtain ⟨_, vs, h3, h4⟩ := g3.obj a _ h5
                          have ha3 : a < s3.h.length := (List.getElem?_eq_some_iff.mp h5).1
                          have r3 : yi = .int j := rep_int.mp r3
                          have r1 : Rep X.K s1.Z vd v := r1
                          refine ⟨s3.m a, vs, j, kq, by rw [x3.m a ha], r3, h3, by rw [h4.len]; exact h6, ?_⟩
                          exact o3 s3.m s3.Z _ σ Ext.write (g3.write ha3 ⟨_, rfl, h4.set kq (r1.mono (x2.trans x3).z)⟩) ((((e'.mono x1).mono x2).mono x3).mono Ext.write)
                  | m _ => exact o3.elim
                  | scr _ => exact o3.elim
                  | exc _ => exact o3.elim
                | _ => cases vx <;> exact o3.elim
              | m _ => cases vx <;> exact o3.elim
              | scr _ => cases vx <;> exact o3.elim
              | exc _ => cases vx <;> exact o3.elim
            | d _ => cases yy <;> cases vx <;> exact o3.elim
            | scr _ => cases yy <;> cases vx <;> exact o3.elim
            | exc _ => cases yy <;> cases vx <;> exact o3.elim
          | _ => exact tIS.no
      | For tg iter body orelse p =>
        cases orelse with
        | cons _ _ => exact tIS.no
        | nil =>
          refine tIS.ite (fun h => ?_) fun _ => tIS.no
          obtain ⟨hcal, hns⟩ := Bool.and_eq_true_iff.mp h
          have hcx := c.cx.calm hcal
          cases hsl : slotsT C.N C.sc tg with
          | none => exact tIS.no
          | some sl =>
            have hg : PG X tg (gS X.K sl) := pg_slots (N := C.N) (sc := C.sc) c.cx.N c.cx.nd hcx c.fn hsl
            refine PS.imp (ps_for (c.own hcal) hcx (II X C W xa c.cx tg iter) hg (IB X C W xa c body) (fold_ok hns)) fun D σ H hq => ?_
            obtain ⟨σ', s, e, gd, o⟩ := hq
            refine ⟨σ', s, e, gd, (OutS.ofE e o).imp (fun its s1 x1 o1 J H1 g1 sv => ?_) fun _ _ _ z => z⟩
            have e1 := e.mono x1
            let Iv : Nat → L2.St → L2.Hp → Prop := fun i σ H => ∃ (σi : Env) (si : S), Ext s1 si ∧ EnvR X.K xa si σi σ ∧ Good X.K si H ∧ OutS X.K X.mg xa W si (loopF (bindS sl) (evalB g cf n C body) (its.drop i) σi si.h) D
            refine ⟨fun i m σ H => m = its.length - i ∧ i ≤ its.length ∧ Iv i σ H, ⟨its.length, by simp, Nat.zero_le _, σ', s1, Ext.refl s1, e1, g1, by simpa using o1⟩, ?_⟩
            rintro i m σi Hi ⟨rfl, hle, σi', si, xi, ei, gi, oi⟩
            obtain ⟨hgo, hstop⟩ := sv si Hi xi.z gi
            by_cases hlt : i < its.length
            · obtain ⟨go, yl⟩ := hgo i its[i] (List.getElem?_eq_getElem hlt)
              refine .inr ⟨go, Iv (i + 1), fun σ' H' p' => ⟨its.length - (i + 1), by omega, rfl, hlt, p'⟩, fun v H' hy => ?_⟩
              obtain ⟨Z', ez, g', rv⟩ := yl v H' hy
              rw [List.drop_eq_getElem_cons hlt] at oi
              have oi := OutS.ext (s' := ⟨si.m, Z', si.h, si.F⟩) (Ext.ofZ ez) oi
              have e2 := ei.mono (Ext.ofZ (s := si) ez)
              have xz : Ext s1 ⟨si.m, Z', si.h, si.F⟩ := xi.trans (Ext.ofZ ez)
              unfold loopF at oi
              cases hb : bindS sl its[i] σi' with
              | none => rw [hb] at oi; exact oi.elim
              | some σ1 =>
                rw [hb] at oi
                refine gS_do g' e2 rv hb fun σ2 e3 _ => ⟨σ1, _, e3, g', ?_⟩
                show OutS X.K X.mg xa W _ (evalB g cf n C body σ1 si.h) _
                have oi : OutS X.K X.mg xa W ⟨si.m, Z', si.h, si.F⟩ (match evalB g cf n C body σ1 si.h with
                  | .nx σ2 h2 => loopF (bindS sl) (evalB g cf n C body) (its.drop (i + 1)) σ2 h2
                  | .ct σ2 h2 => loopF (bindS sl) (evalB g cf n C body) (its.drop (i + 1)) σ2 h2
                  | .bk σ2 h2 => .nx σ2 h2
                  | .rt v h2 => .rt v h2
                  | .exc e σ2 h2 => .exc e σ2 h2
                  | .stuck => .stuck) D := oi
                cases q : evalB g cf n C body σ1 si.h with
                | nx σa h1 => rw [q] at oi; exact fun m' Z'' H'' σ4 y gd' e' => ⟨σa, _, xz.trans y, e', gd', OutS.ext y oi⟩
                | ct σa h1 => rw [q] at oi; exact fun m' Z'' H'' σ4 y gd' e' => ⟨σa, _, xz.trans y, e', gd', OutS.ext y oi⟩
                | bk σa h1 => rw [q] at oi; exact oi
                | rt v h1 => rw [q] at oi; exact oi
                | exc ee σa h1 => rw [q] at oi; exact oi
                | stuck => rw [q] at oi; exact oi
            · refine .inl ⟨hstop i (by omega), ?_⟩
              rw [List.drop_eq_nil_of_le (by omega)] at oi
              exact oi.nx_of ei gi
      | Raise ex cause p =>
        cases ex with
        | none => cases cause <;> exact tIS.no
        | some ex =>
          cases cause with
          | some _ =>
            cases ex with
            | Call f args kws cp =>
              cases f with
              | Name x q => cases args <;> cases kws <;> exact tIS.no
              | _ => exact tIS.no
            | _ => exact tIS.no
          | none =>
            cases ex with
            | Call f args kws cp =>
              cases f with
              | Name x q =>
                cases args with
                | cons _ _ => exact tIS.no
                | nil =>
                  cases kws with
                  | cons _ _ => exact tIS.no
                  | nil =>
                    refine tIS.ite (fun h => ?_) fun _ => tIS.no
                    simp only [Bool.and_eq_true] at h
                    obtain ⟨⟨⟨hcal, hp⟩, hgl⟩, hex⟩ := h
                    obtain ⟨l, hl⟩ := Option.isSome_iff_exists.mp hex
                    obtain ⟨Ca, hm, ef⟩ := c.cx.gok.ex x l hl
                    obtain ⟨bmB, rfl, hxc⟩ := ef.xc
                    refine PS.imp (ps_raise (c.cx.calm hcal) (c.tk hcal) (pmk0 PySem.F.excBase_ValueError hxc hm ef.kp (raises_own ef.tb.1 ef.tb.2) (c.cx.gl hgl) (plain_of hp).1)) fun D σ H ⟨σ', s, e', gd, o⟩ => ?_
                    exact o s.m s.Z H σ _ none (Ext.refl s) gd e' ⟨hm, rfl, rfl⟩
              | _ => exact tIS.no
            | _ => exact tIS.no
      | Try body hs orelse fin p =>
        cases hs with
        | nil => exact tIS.no
        | cons h1 hr =>
          cases hr with
          | cons _ _ =>
            obtain ⟨ty, nm, su, hp⟩ := h1
            cases ty with
            | none => exact tIS.no
            | some ty => cases ty <;> first | exact tIS.no | (cases nm <;> first | exact tIS.no | (cases su <;> exact tIS.no))
          | nil =>
            obtain ⟨ty, nm, su, hp⟩ := h1
            cases ty with
            | none => exact tIS.no
            | some ty =>
              cases ty with
              | Name cn cp =>
                cases nm with
                | none => exact tIS.no
                | some nm =>
                  cases su with
                  | nil => exact tIS.no
                  | cons b₀ suite =>
                    cases orelse with
                    | cons _ _ => exact tIS.no
                    | nil =>
                      cases fin with
                      | cons _ _ => exact tIS.no
                      | nil => exact i_try c (fun W' pn xe tk own c' => IB (X.tr pn xe) C W' xa c') (fun X' C' W' xa' c' => IB X' C' W' xa' c' (b₀ :: suite)) body
              | _ => exact tIS.no
      | _ => exact tIS.no
    exact ⟨S1, B1⟩
end MI
set_option maxRecDepth 100000
namespace MI
open PySem PySem.Spec PyProof.Rows L2
variable {K : PySem.W.Frag} {g : G} {mg : Str → Option Value}

/-! ### a call's end -/
theorem Good.take {m : Nat → Addr} {Z F H : L2.Hp} {h : MH} (gd : Good K ⟨m, Z, h, F⟩ H) (L : Nat) : Good K ⟨m, Z, h.take L, F⟩ H := by
  have lt : ∀ i, i < (h.take L).length → i < h.length := fun i hi => Nat.lt_of_lt_of_le hi (by rw [List.length_take]; exact Nat.min_le_right _ _)
  refine ⟨gd.ex, fun i o e => ?_, fun i j hi hj => gd.inj i j (lt i hi) (lt j hj), fun a o e => ?_⟩
  · have e : (h.take L)[i]? = some o := e
    have hi : i < (h.take L).length := (List.getElem?_eq_some_iff.mp e).1
    have hL : i < L := Nat.lt_of_lt_of_le hi (by rw [List.length_take]; exact Nat.min_le_left _ _)
    rw [List.getElem?_take_of_lt hL] at e
    exact gd.obj i o e
  · obtain ⟨h1, h2, h3⟩ := gd.fr a o e
    exact ⟨h1, h2, fun i hi => h3 i (lt i hi)⟩
theorem Ext.take {s : S} {m' : Nat → Addr} {Z' : L2.Hp} {h1 : MH} (x : Ext s ⟨m', Z', h1, s.F⟩) : Ext s ⟨m', Z', h1.take s.h.length, s.F⟩ :=
  ⟨x.m, x.z, by
    have hn : s.h.length ≤ h1.length := x.n
    show s.h.length ≤ (h1.take s.h.length).length
    rw [List.length_take]; omega, rfl⟩
/-- a list that was made in the call is handed back: it changes no more -/
theorem Good.still {s : S} {m' : Nat → Addr} {Z' H : L2.Hp} {h1 : MH} {i : Nat} {xs : List D} (x : Ext s ⟨m', Z', h1, s.F⟩) (gd : Good K ⟨m', Z', h1, s.F⟩ H) (hi : ¬ i < s.h.length) (e : h1[i]? = some (.lst xs)) :
    ∃ vs, Good K ⟨m', upd Z' (m' i) (.lst vs), h1.take s.h.length, s.F⟩ H ∧ Ext s ⟨m', upd Z' (m' i) (.lst vs), h1.take s.h.length, s.F⟩ ∧ RepL K (upd Z' (m' i) (.lst vs)) xs vs := by
  obtain ⟨hz, vs, h2, h3⟩ := gd.obj i _ e
  have hz : Z' (m' i) = none := hz
  have h3 : RepL K Z' xs vs := h3
  have ez : ExH Z' (upd Z' (m' i) (.lst vs)) := ExH.new hz
  have hil : i < h1.length := (List.getElem?_eq_some_iff.mp e).1
  have hlen : (h1.take s.h.length).length ≤ s.h.length := by rw [List.length_take]; exact Nat.min_le_left _ _
  have gt := gd.take s.h.length
  refine ⟨vs, ⟨fun a u q => ?_, fun j o q => ?_, gt.inj, fun a o q => ?_⟩, ⟨x.m, x.z.trans ez, x.take.n, rfl⟩, h3.mono ez⟩
  · have q : upd Z' (m' i) (.lst vs) a = some u := q
    by_cases ha : a = m' i
    · subst ha
      rw [upd_same] at q
      cases q
      exact h2
    · rw [upd_ne ha] at q
      exact gd.ex a u q
  · obtain ⟨h4, h5⟩ := gt.obj j o q
    have hj : j < s.h.length := Nat.lt_of_lt_of_le (List.getElem?_eq_some_iff.mp q).1 hlen
    have hj1 : j < h1.length := Nat.lt_of_lt_of_le hj x.n
    have ne : m' j ≠ m' i := fun z => by
      have : j = i := gd.inj j i hj1 hil z
      omega
    refine ⟨?_, h5.mono ez⟩
    show upd Z' (m' i) (.lst vs) (m' j) = none
    rw [upd_ne ne]
    exact h4
  · obtain ⟨h4, h5, h6⟩ := gt.fr a o q
    obtain ⟨_, _, h7⟩ := gd.fr a o q
    refine ⟨h4, ?_, h6⟩
    show upd Z' (m' i) (.lst vs) a = none
    rw [upd_ne (Ne.symm (h7 i hil))]
    exact h5
theorem startE_get {vs : List Val} {N : List Str} {i : Nat} {x : Val} (h : (startE N vs)[i]? = some (some x)) : vs[i]? = some x := by
  unfold startE at h
  by_cases hi : i < vs.length
  · rw [List.getElem?_append_left (by rw [List.length_map]; exact hi), List.getElem?_map] at h
    obtain ⟨y, h1, h2⟩ := Option.map_eq_some_iff.mp h
    cases h2
    exact h1
  · rw [List.getElem?_append_right (by rw [List.length_map]; omega)] at h
    have := List.mem_of_getElem? h
    have := List.eq_of_mem_replicate this
    cases this
theorem RepVs.get {xa : XA} {s : S} : ∀ {xs : List Val} {vs : List V} {i : Nat} {x : Val}, RepVs K xa s xs vs → xs[i]? = some x → ∃ v, vs[i]? = some v ∧ RepV K xa s x v
  | [], _, i, x, _, h => by simp at h
  | y :: xs, _, i, x, h, e => by
    obtain ⟨v, r, rfl, h1, h2⟩ := h
    cases i with
    | zero => simp at e; subst e; exact ⟨v, rfl, h1⟩
    | succ i => exact RepVs.get (i := i) h2 (by simpa using e)
theorem env_start {s : S} {N : List Str} {vs' : List Val} {vs : List V} (r : RepVs K noxa s vs' vs) : EnvR K noxa s (startE N vs') (L2.start N vs) := by
  have hl := r.len
  refine ⟨by unfold startE L2.start; simp [hl], fun i x e => ?_⟩
  obtain ⟨v, h1, h2⟩ := r.get (startE_get e)
  refine ⟨v, ?_, h2⟩
  unfold L2.start
  have hi : i < vs.length := (List.getElem?_eq_some_iff.mp h1).1
  rw [List.getElem?_append_left (by rw [List.length_map]; exact hi), List.getElem?_map, h1]
  rfl

/-! ### the text -/
structure Txt (g : G) (K : PySem.W.Frag) (mg : Str → Option Value) : Prop where
  fn : ∀ f fd, g.fns.lookup f = some fd → ∃ a fdat st, mg f = some (.ref a) ∧ Fun K f f st a fdat ∧ FnScope fd.N fd.ps (defScope st) ∧ defBody st = fd.body ∧ defScope st = fd.sc ∧ ∀ us : List Value, us.length = fd.ps.length → bindArgs fdat ⟨us, []⟩ = pure (fd.ps.zip us)
  cn : ∀ x d, g.consts.lookup x = some d → ∃ u v, mg x = some u ∧ RelV v u ∧ ∀ Z, Rep K Z d v
  bl : ∀ x, x ∈ bltNames → mg x = none
  ex : ∀ x l, g.excs.lookup x = some l → ∃ C, mg x = some (.ref C) ∧ ExF g K mg C l
  mr : ∀ x, g.more.contains x = true → ∃ C, mg x = some (.ref C)
theorem fin_out {s : S} {keep : Bool} {v : Val} {h1 : MH} {Q : VK} {E : Exc → S → Prop} (o : Out s (fin keep s.h.length v h1) (PQ K noxa Q) E) :
    ∀ m' Z' H' y, Ext s ⟨m', Z', h1, s.F⟩ → Good K ⟨m', Z', h1, s.F⟩ H' → RepV K noxa ⟨m', Z', h1, s.F⟩ v y → Q y H' := by
  intro m' Z' H' y x gd r
  unfold fin at o
  cases keep with
  | true => exact o m' Z' x y H' gd r
  | false =>
    rw [if_neg Bool.false_ne_true] at o
    cases v with
    | d d => exact o m' Z' x.take y H' (gd.take _) r
    | scr ns => exact o m' Z' x.take y H' (gd.take _) r
    | exc e => exact o.elim
    | m i =>
      by_cases hi : i < s.h.length
      · have o : Out s (if i < s.h.length then .ok (.m i) (h1.take s.h.length) else _) (PQ K noxa Q) E := o
        rw [if_pos hi] at o
        refine o m' Z' x.take y H' (gd.take _) ⟨r.1, ?_⟩
        exact Nat.lt_of_lt_of_le hi x.take.n
      · have o : Out s (if i < s.h.length then .ok (.m i) (h1.take s.h.length) else match h1[i]? with
          | some (.lst xs) => .ok (.d (.lst xs)) (h1.take s.h.length)
          | _ => .stuck) (PQ K noxa Q) E := o
        rw [if_neg hi] at o
        cases e : h1[i]? with
        | none => rw [e] at o; exact o.elim
        | some ob =>
          rw [e] at o
          cases ob with
          | dict kvs => exact o.elim
          | lst xs =>
            obtain ⟨vs, g2, x2, r2⟩ := gd.still x hi e
            refine o m' _ x2 y H' g2 ?_
            exact rep_lst.mpr ⟨m' i, vs, r.1, upd_same, r2⟩
theorem fn_step {P : Program} {w : World} {base : PySem.Heap} {d : Nat} (ih : GOk g (callF g d) P w K mg base d) {f : Str} {fd : Fd} {a : Addr} {fdat : FuncData} {st : Stmt} (h : g.fns.lookup f = some fd) (F : Fun K f f st a fdat) (S : FnScope fd.N fd.ps (defScope st))
    (h2 : defBody st = fd.body) (h3 : defScope st = fd.sc) : FnOk P w K mg base (L2.CX P w) (d + 1) a fdat fd.ps (spI K mg (callF g (d + 1)) f fd.ps.length) := by
  refine F.okX S (fun vs H Q E q => q.1) fun cdv A outer s H vs Q E hr hs => ?_
  refine ⟨tIS K mg noxa (fun c d _ H => E c d H) fun σ h => evalB g (callF g d) fuel ⟨fd.N, fd.sc, true⟩ fd.body σ h, ?_, ?_⟩
  · rw [← h2]
    have tk : Takes (cxOf (L2.CX P w) P w K mg base fd.N f (defScope st) a cdv A outer s H E) (fun c d _ H => E c d H) := takes_of rfl rfl rfl rfl
    refine (snd_S g (callF g d) d fuel).2 (cxOf (L2.CX P w) P w K mg base fd.N f (defScope st) a cdv A outer s H E) ⟨fd.N, fd.sc, true⟩ (fun c d _ H => E c d H) noxa ?_ (defBody st)
    exact {
      cx := {
        N := rfl
        sc := h3
        nd := S.nd
        gok := ih
        calm := fun _ => rfl
        room := fun _ => hr
        pas := fun _ σ => passAt tk σ
        nox := fun _ e v q => q
        xl := fun e v q => q.elim
        isE := fun pins s σ H xs us Q I r q => by
          obtain ⟨e, v, _, _, _, _, q1, _⟩ := q
          exact q1.elim }
      fn := fun x q => ⟨by
        have := loc_of q
        rw [← h3] at this
        exact this, .inl rfl⟩
      kind := S.kind
      own := fun _ => passes_of rfl
      tk := fun _ => tk
      stk := fun _ => rfl
      frm := fun _ => rfl }
  · obtain ⟨hl, s0, vs', gd, r, o⟩ := hs
    refine ⟨startE fd.N vs', s0, env_start r, gd, ?_⟩
    have hl' : vs'.length = fd.ps.length := by rw [← r.len]; exact hl
    have o : Out s0 (match g.fns.lookup f with
      | none => .stuck
      | some fd => if vs'.length = fd.ps.length then match evalB g (callF g d) fuel ⟨fd.N, fd.sc, true⟩ fd.body (startE fd.N vs') s0.h with
          | .rt v h' => fin fd.keep s0.h.length v h'
          | .nx _ h' => fin fd.keep s0.h.length (.d .non) h'
          | .exc e _ h' => .exc e (h'.take s0.h.length)
          | _ => .stuck
        else .stuck) (PQ K noxa Q) (PXE K mg E) := o
    rw [h] at o
    have o : Out s0 (if vs'.length = fd.ps.length then match evalB g (callF g d) fuel ⟨fd.N, fd.sc, true⟩ fd.body (startE fd.N vs') s0.h with
          | .rt v h' => fin fd.keep s0.h.length v h'
          | .nx _ h' => fin fd.keep s0.h.length (.d .non) h'
          | .exc e _ h' => .exc e (h'.take s0.h.length)
          | _ => .stuck
        else .stuck) (PQ K noxa Q) (PXE K mg E) := o
    rw [if_pos hl'] at o
    show OutS K mg noxa _ s0 (evalB g (callF g d) fuel ⟨fd.N, fd.sc, true⟩ fd.body (startE fd.N vs') s0.h) _
    cases q : evalB g (callF g d) fuel ⟨fd.N, fd.sc, true⟩ fd.body (startE fd.N vs') s0.h with
    | nx σ1 h1 =>
      rw [q] at o
      intro m' Z' H' σ2 x g2 e2
      exact fin_out o m' Z' H' .non x g2 (rep_non.mpr rfl)
    | rt v h1 =>
      rw [q] at o
      exact fin_out o
    | exc ee σ1 h1 =>
      rw [q] at o
      intro m' Z' H' σ2 c dd x g2 e2 ev
      exact o m' Z' x.take H' c dd (g2.take _) ev
    | bk σ1 h1 => rw [q] at o; exact o.elim
    | ct σ1 h1 => rw [q] at o; exact o.elim
    | stuck => rw [q] at o; exact o.elim
theorem gok_all (T : Txt g K mg) (P : Program) (w : World) (base : PySem.Heap) : ∀ d, GOk g (callF g d) P w K mg base d
  | 0 => {
      fn := fun f fd h => by
        obtain ⟨a, fdat, st, h1, F, S, h2, h3, B⟩ := T.fn f fd h
        refine ⟨a, fdat, h1, F.kp, .all B, ⟨fun vs H Q E q => q.1, fun A outer s H args us vs Q E hr he hb hv hs => ?_⟩⟩
        obtain ⟨_, s', vs', _, _, o⟩ := hs
        exact o.elim
      cn := T.cn
      bl := T.bl
      ex := T.ex
      mr := T.mr }
  | d + 1 => {
      fn := fun f fd h => by
        obtain ⟨a, fdat, st, h1, F, S, h2, h3, B⟩ := T.fn f fd h
        exact ⟨a, fdat, h1, F.kp, .all B, fn_step (gok_all T P w base d) h F S h2 h3⟩
      cn := T.cn
      bl := T.bl
      ex := T.ex
      mr := T.mr }
/-! ### the facts, piece by piece -/
def FnT (K : PySem.W.Frag) (mg : Str → Option Value) (f : Str) (fd : Fd) : Prop := ∃ a fdat st, mg f = some (.ref a) ∧ Fun K f f st a fdat ∧ FnScope fd.N fd.ps (defScope st) ∧ defBody st = fd.body ∧ defScope st = fd.sc ∧ ∀ us : List Value, us.length = fd.ps.length → bindArgs fdat ⟨us, []⟩ = pure (fd.ps.zip us)
theorem fnT_mk {K : PySem.W.Frag} {mg : Str → Option Value} {h : PySem.Heap} (X : K.In h) (G : h.Ns mainGlobals mg) {x : Str} {fd : Fd} (st : Stmt) {f : Addr} {oc : Value} {od an : Option Addr} {osl : Array (Option Value)} {kV doc pm cdv ct : Value}
    (a : PySem.W.nsIn K mainGlobals x = some (some (.ref f))) (l : K.lookup f = some ⟨oc, od, .func (PySem.W.fnOf x x (defArgs st) (defBody st) (defScope st) .none kV doc pm an cdv ct), osl⟩)
    (c : PySem.W.codeIn K cdv x = true) (k : PySem.W.keepIn K (.ref f) = true) (S : FnScope fd.N fd.ps (defScope st)) (hb : defBody st = fd.body) (hs : defScope st = fd.sc)
    (b : ∀ (kV doc pm : Value) (an : Option Addr) (cdv ct : Value) (us : List Value), us.length = fd.ps.length → bindArgs (PySem.W.fnOf x x (defArgs st) (defBody st) (defScope st) .none kV doc pm an cdv ct) ⟨us, []⟩ = pure (fd.ps.zip us)) : FnT K mg x fd :=
  ⟨f, _, st, PySem.W.mg_of X G a, fun_mk l c k, S, hb, hs, b kV doc pm an cdv ct⟩
def AllL {α : Type} (P : α → Prop) : List α → Prop
  | [] => True
  | x :: r => P x ∧ AllL P r
theorem AllL.mem {α : Type} {P : α → Prop} : ∀ {l : List α} {x : α}, AllL P l → x ∈ l → P x
  | y :: r, x, h, m => by
    rcases List.mem_cons.mp m with rfl | m
    · exact h.1
    · exact h.2.mem m
theorem look_mem {α : Type} : ∀ {l : List (Str × α)} {x : Str} {a : α}, l.lookup x = some a → (x, a) ∈ l
  | (y, b) :: r, x, a, h => by
    rw [List.lookup_cons] at h
    by_cases e : (x == y) = true
    · rw [e] at h
      have := beq_iff_eq.mp e
      cases h
      subst this
      exact List.mem_cons_self
    · have e : (x == y) = false := by simpa using e
      rw [e] at h
      exact List.mem_cons_of_mem _ (look_mem h)
/-- what an error of class C answers, asked for c -/
def AskF (K : PySem.W.Frag) (mg : Str → Option Value) (C : Addr) (l : List Str) (c : Str) : Prop := ∃ cv, ((mg c = some cv ∧ ∃ D, cv = .ref D) ∨ (mg c = none ∧ bootBuiltins c = some cv ∧ c ≠ "__name__" ∧ ∃ n, cv = .type n)) ∧ PySem.W.kitOne K (.ref C) cv = some (l.contains c) ∧ PySem.W.exmOne K (.ref C) cv = some (l.contains c)
theorem ask_own {K : PySem.W.Frag} {mg : Str → Option Value} {h : PySem.Heap} (X : K.In h) (G : h.Ns mainGlobals mg) {C D : Addr} {l : List Str} {c : Str} {b : Bool} (a : PySem.W.nsIn K mainGlobals c = some (some (.ref D)))
    (hD : PySem.W.isClsIn K D = true) (tD : PySem.W.typeIn K (.ref D) = some (.type "type")) (bD : PySem.W.subIn K (.ref D) (.type "BaseException") = some true) (sD : PySem.W.subIn K (.ref D) (.ref D) = some true)
    (s : PySem.W.subIn K (.ref C) (.ref D) = some b) (hb : l.contains c = b) : AskF K mg C l c := by
  have hk : PySem.W.kitCls K (.ref C) (.ref D) = some b := by
    show (if ((PySem.W.clsIn K D).isSome && PySem.W.typeIn K (.ref D) == some (.type "type")) = true then PySem.W.subIn K (.ref C) (.ref D) else none) = some b
    have h1 : (PySem.W.clsIn K D).isSome = true := hD
    rw [h1, tD, if_pos (by rfl)]
    exact s
  refine ⟨.ref D, .inl ⟨PySem.W.mg_of X G a, D, rfl⟩, ?_, ?_⟩
  · show (if ((Value.ref C) == (Value.ref D)) = true then some true else PySem.W.kitCls K (.ref C) (.ref D)) = _
    by_cases e : ((Value.ref C) == (Value.ref D)) = true
    · have e2 : C = D := Value.ref.inj (beq_iff_eq.mp e)
      subst e2
      rw [sD] at s
      rw [if_pos e, hb]
      exact s
    · rw [if_neg e, hk, hb]
  · show (if (PySem.W.subIn K (.ref D) (.type "BaseException") == some true) = true then PySem.W.kitCls K (.ref C) (.ref D) else none) = _
    rw [bD, if_pos (by rfl), hk, hb]
theorem ask_ve {K : PySem.W.Frag} {mg : Str → Option Value} {h : PySem.Heap} (X : K.In h) (G : h.Ns mainGlobals mg) {C : Addr} {l : List Str} (a : PySem.W.nsIn K mainGlobals "ValueError" = some none)
    (bV : PySem.W.subIn K (.type "ValueError") (.type "BaseException") = some true) (s : PySem.W.subIn K (.ref C) (.type "ValueError") = some true) (hb : l.contains "ValueError" = true) : AskF K mg C l "ValueError" := by
  have hk : PySem.W.kitCls K (.ref C) (.type "ValueError") = some true := by
    show (if PySem.W.kitMeta "ValueError" = true then PySem.W.subIn K (.ref C) (.type "ValueError") else none) = some true
    rw [if_pos (by decide +kernel)]
    exact s
  refine ⟨.type "ValueError", .inr ⟨PySem.W.mg_none_of X G a, by decide +kernel, by decide +kernel, _, rfl⟩, ?_, ?_⟩
  · show (if ((Value.ref C) == (Value.type "ValueError")) = true then some true else PySem.W.kitCls K (.ref C) (.type "ValueError")) = _
    rw [if_neg (by simp), hk, hb]
  · show (if (PySem.W.subIn K (.type "ValueError") (.type "BaseException") == some true) = true then PySem.W.kitCls K (.ref C) (.type "ValueError") else none) = _
    rw [bV, if_pos (by rfl), hk, hb]
theorem exF_mk {g : G} {K : PySem.W.Frag} {mg : Str → Option Value} {C : Addr} {l : List Str} (kp : PySem.W.keepIn K (.ref C) = true) (ec : ExcC K C) (xc : PySem.W.excIn K C [.type "ValueError", .type "Exception", .type "BaseException", .type "object"] "ValueError.__new__" = true)
    (tb : PySem.W.typeIn K (.ref C) = some (.type "type")) (is : AllL (AskF K mg C l) (g.excs.map (·.1) ++ g.more ++ [("ValueError" : Str)])) : ExF g K mg C l where
  kp := kp
  ec := ec
  xc := ⟨_, rfl, xc⟩
  tb := ⟨ec.hs, tb⟩
  is := fun c h => by
    refine is.mem ?_
    unfold clsOf at h
    rw [Bool.or_eq_true, Bool.or_eq_true] at h
    rcases h with (h | h) | h
    · obtain ⟨l, hl⟩ := Option.isSome_iff_exists.mp h
      exact List.mem_append_left _ (List.mem_append_left _ (List.mem_map_of_mem (f := (·.1)) (look_mem hl)))
    · exact List.mem_append_left _ (List.mem_append_right _ (by simpa using h))
    · have := beq_iff_eq.mp h
      subst this
      exact List.mem_append_right _ List.mem_cons_self
/-- a constant of the text -/
def CnT (K : PySem.W.Frag) (mg : Str → Option Value) (p : Str × D) : Prop := ∃ u v, mg p.1 = some u ∧ RelV v u ∧ ∀ Z, Rep K Z p.2 v
theorem cn_int {K : PySem.W.Frag} {mg : Str → Option Value} {h : PySem.Heap} (X : K.In h) (G : h.Ns mainGlobals mg) {x : Str} {i : Int} {t : PySem.Tok} (a : PySem.W.nsIn K mainGlobals x = some (some (.int i t))) : CnT K mg (x, .int i) :=
  ⟨_, .int i, PySem.W.mg_of X G a, ⟨t, rfl⟩, fun Z => by unfold Rep; rfl⟩
theorem txt_mk {g : G} {K : PySem.W.Frag} {mg : Str → Option Value} (fn : AllL (fun p => FnT K mg p.1 p.2) g.fns) (cn : AllL (CnT K mg) g.consts) (bl : AllL (fun x => mg x = none) bltNames)
    (ex : AllL (fun p => ∃ C, mg p.1 = some (.ref C) ∧ ExF g K mg C p.2) g.excs) (mr : AllL (fun x => ∃ C, mg x = some (Value.ref C)) g.more) : Txt g K mg where
  fn := fun f fd h => fn.mem (look_mem h)
  cn := fun x d h => cn.mem (look_mem h)
  bl := fun x h => bl.mem h
  ex := fun x l h => ex.mem (look_mem h)
  mr := fun x h => mr.mem (by simpa using h)
/-- a law's promise -/
def spLaw (K : PySem.W.Frag) (n : Nat) : Sp := fun vs H Q _ => ∃ (a : Addr) (ns : List Int), vs = [.ref a] ∧ SqL K H a (ns.map V.int) ∧ ns.length ≤ n ∧ ∀ H', Q (.bl true) H'
theorem law_ok {g : G} {K : PySem.W.Frag} {mg : Str → Option Value} {P : Program} {w : World} (T : Txt g K mg) {x f : Str} {fd : Fd} {fa : Addr} {d n : Nat} (hm : mg f = some (.ref fa)) (h : g.fns.lookup f = some fd) (hp : fd.ps = [x])
    (pure : ∀ ns : List Int, ns.length ≤ n → ∃ h', callF g (d + 1) f [.scr ns] [] = .ok (.d (.bl true)) h') :
    ∃ fdat : FuncData, (∀ (s : Shared) (v : Value), BindsTo s fdat ⟨[v], []⟩ [(x, v)]) ∧ ∀ base : PySem.Heap, K.In base → base.Ns mainGlobals mg → FnOk P w K mg base (L2.CX P w) (d + 1) fa fdat [x] (spLaw K n) := by
  obtain ⟨a, fdat, st, h1, F, S, h2, h3, B⟩ := T.fn f fd h
  rw [hm] at h1
  cases h1
  refine ⟨fdat, fun s v => .of_eq ?_, fun base _ _ => ?_⟩
  · have := B [v] (by rw [hp]; rfl)
    rw [hp] at this
    exact this
  · have := fn_step (gok_all T P w base d) h F S h2 h3
    rw [hp] at this
    refine this.imp fun vs H Q E q => ?_
    obtain ⟨a, ns, rfl, hS, hl, q⟩ := q
    obtain ⟨h', e⟩ := pure ns hl
    refine ⟨rfl, ⟨fun _ => 0, H, [], fun _ => none⟩, [.scr ns], ⟨ExH.refl _, fun i o e => by simp at e, fun i j hi => absurd hi (Nat.not_lt_zero _), fun a o e => by cases e⟩, ⟨_, _, rfl, ⟨a, rfl, hS⟩, rfl⟩, ?_⟩
    show Out _ (callF g (d + 1) f [.scr ns] []) _ _
    rw [e]
    intro m' Z' x v H' gd r
    have r : v = .bl true := rep_bl.mp r
    subst r
    exact q H'
theorem cl_mk {K : PySem.W.Frag} {mg : Str → Option Value} {h : PySem.Heap} (X : K.In h) (G : h.Ns mainGlobals mg) {x : Str} {C : Addr} (a : PySem.W.nsIn K mainGlobals x = some (some (.ref C))) : ∃ C, mg x = some (Value.ref C) := ⟨C, PySem.W.mg_of X G a⟩
theorem exx_mk {g : G} {K : PySem.W.Frag} {mg : Str → Option Value} {h : PySem.Heap} (X : K.In h) (G : h.Ns mainGlobals mg) {x : Str} {C : Addr} {l : List Str} (a : PySem.W.nsIn K mainGlobals x = some (some (.ref C))) (e : ExF g K mg C l) : ∃ C, mg x = some (Value.ref C) ∧ ExF g K mg C l := ⟨C, PySem.W.mg_of X G a, e⟩
abbrev FnTX {K : PySem.W.Frag} {h : PySem.Heap} (_ : K.In h) (mg : Str → Option Value) (f : Str) (fd : Fd) : Prop := FnT K mg f fd
abbrev CnTX {K : PySem.W.Frag} {h : PySem.Heap} (_ : K.In h) (mg : Str → Option Value) (p : Str × D) : Prop := CnT K mg p
abbrev ExFX {K : PySem.W.Frag} {h : PySem.Heap} (_ : K.In h) (g : G) (mg : Str → Option Value) (C : Addr) (l : List Str) : Prop := ExF g K mg C l
abbrev TxtX {K : PySem.W.Frag} {h : PySem.Heap} (_ : K.In h) (g : G) (mg : Str → Option Value) : Prop := Txt g K mg
end MI
set_option maxRecDepth 100000
namespace K9
open MI PySem
abbrev topS (i : Nat) : PySem.Stmt := PySem.Challenge.pw_slipleaf_k09_kinds_and_contents.main.body.getD i (.Pass ⟨0, 0, 0, 0⟩)
def fd_is_within : Fd := ⟨["thing", "low", "high"], ["thing", "low", "high"], L2.defBody (topS 1), L2.defScope (topS 1), false⟩
def fd_is_kind : Fd := ⟨["thing"], ["thing"], L2.defBody (topS 10), L2.defScope (topS 10), false⟩
def fd__ends : Fd := ⟨["kind"], ["kind"], L2.defBody (topS 11), L2.defScope (topS 11), false⟩
def fd_answers_of : Fd := ⟨["kind", "low", "high"], ["kind"], L2.defBody (topS 12), L2.defScope (topS 12), false⟩
def fd_size_of : Fd := ⟨["kind", "low", "high"], ["kind"], L2.defBody (topS 13), L2.defScope (topS 13), false⟩
def fd_is_answer : Fd := ⟨["kind", "thing", "low", "high"], ["kind", "thing"], L2.defBody (topS 14), L2.defScope (topS 14), false⟩
def fd_is_content : Fd := ⟨["kind", "thing", "low", "high"], ["kind", "thing"], L2.defBody (topS 15), L2.defScope (topS 15), false⟩
def fd_slips_between : Fd := ⟨["kind", "answer", "content"], ["kind", "answer", "content"], L2.defBody (topS 16), L2.defScope (topS 16), false⟩
def fd_ticked : Fd := ⟨["kind", "content"], ["kind", "content"], L2.defBody (topS 17), L2.defScope (topS 17), false⟩
def fd__boxes : Fd := ⟨["number", "box"], ["number"], L2.defBody (topS 18), L2.defScope (topS 18), false⟩
def fd__law_cell : Fd := ⟨["_law_script", "_law_k"], ["_law_script", "_law_k"], L2.defBody (topS 20), L2.defScope (topS 20), false⟩
def fd__law_stream : Fd := ⟨["_law_script", "_law_k", "_law_cell_here"], ["_law_script", "_law_k"], L2.defBody (topS 21), L2.defScope (topS 21), true⟩
def fd__law_next : Fd := ⟨["_law_draws", "_law_many", "_law_digit", "_law_mixed"], ["_law_draws", "_law_many"], L2.defBody (topS 22), L2.defScope (topS 22), false⟩
def fd__law_pick : Fd := ⟨["_law_draws", "_law_row"], ["_law_draws", "_law_row"], L2.defBody (topS 23), L2.defScope (topS 23), false⟩
def fd__law_is_int : Fd := ⟨["_law_thing"], ["_law_thing"], L2.defBody (topS 24), L2.defScope (topS 24), false⟩
def fd__law_alike : Fd := ⟨["_law_actual", "_law_due", "_law_one", "_law_other"], ["_law_actual", "_law_due"], L2.defBody (topS 25), L2.defScope (topS 25), false⟩
def fd__law_answers : Fd := ⟨["_law_kind"], ["_law_kind"], L2.defBody (topS 26), L2.defScope (topS 26), false⟩
def fd__law_boxes : Fd := ⟨["_law_number", "_law_box"], ["_law_number"], L2.defBody (topS 27), L2.defScope (topS 27), false⟩
def fd__law_any_kind : Fd := ⟨["_law_draws", "_law_way", "_law_low"], ["_law_draws"], L2.defBody (topS 28), L2.defScope (topS 28), false⟩
def fd__law_right_kind : Fd := ⟨["_law_thing"], ["_law_thing"], L2.defBody (topS 29), L2.defScope (topS 29), false⟩
def fd__law_near : Fd := ⟨["_law_kind", "_law_draws", "_law_word", "_law_number", "_law_last", "_law_odd", "_law_things_here", "_law_heads", "_law_head"], ["_law_kind", "_law_draws"], L2.defBody (topS 30), L2.defScope (topS 30), false⟩
def fd__law_things : Fd := ⟨["_law_draws", "_law_far"], ["_law_draws"], L2.defBody (topS 31), L2.defScope (topS 31), false⟩
def fd__law_no_kind : Fd := ⟨["_law_way", "_law_kind", "_law_thing", "error", "_law_plain"], ["_law_way", "_law_kind", "_law_thing"], L2.defBody (topS 32), L2.defScope (topS 32), false⟩
def fd__law_no_content : Fd := ⟨["_law_kind", "_law_thing", "error"], ["_law_kind", "_law_thing"], L2.defBody (topS 33), L2.defScope (topS 33), false⟩
def fd__law_boxes_told : Fd := ⟨["_law_kind", "_law_thing", "_law_content", "_law_due"], ["_law_kind", "_law_thing", "_law_content"], L2.defBody (topS 34), L2.defScope (topS 34), false⟩
def fd__law_kind_told : Fd := ⟨["_law_kind", "_law_things_here", "_law_row", "_law_thing", "_law_number", "_law_answer", "_law_content"], ["_law_kind", "_law_things_here"], L2.defBody (topS 35), L2.defScope (topS 35), false⟩
def fd_law : Fd := ⟨["_law_script", "_law_one", "_law_other", "_law_draws", "_law_things_here", "_law_kind", "_law_thing", "_law_due", "_law_way"], ["_law_script"], L2.defBody (topS 36), L2.defScope (topS 36), false⟩
def g : G where
  fns := [("is_within", fd_is_within), ("is_kind", fd_is_kind), ("_ends", fd__ends), ("answers_of", fd_answers_of), ("size_of", fd_size_of), ("is_answer", fd_is_answer), ("is_content", fd_is_content), ("slips_between", fd_slips_between), ("ticked", fd_ticked), ("_boxes", fd__boxes), ("_law_cell", fd__law_cell), ("_law_stream", fd__law_stream), ("_law_next", fd__law_next), ("_law_pick", fd__law_pick), ("_law_is_int", fd__law_is_int), ("_law_alike", fd__law_alike), ("_law_answers", fd__law_answers), ("_law_boxes", fd__law_boxes), ("_law_any_kind", fd__law_any_kind), ("_law_right_kind", fd__law_right_kind), ("_law_near", fd__law_near), ("_law_things", fd__law_things), ("_law_no_kind", fd__law_no_kind), ("_law_no_content", fd__law_no_content), ("_law_boxes_told", fd__law_boxes_told), ("_law_kind_told", fd__law_kind_told), ("law", fd_law)]
  consts := [("EMPTY", .int (-1)), ("UNREADABLE", .int (-2))]
  excs := [("BadKind", ["BadKind", "LeafError", "ValueError", "Exception", "BaseException"]), ("BadContent", ["BadContent", "LeafError", "ValueError", "Exception", "BaseException"])]
  chg := [⟨82, 11, 82, 33⟩, ⟨81, 15, 81, 55⟩]
  more := ["LeafError", "BadAnswer"]
end K9
set_option maxRecDepth 100000
namespace MI
open PySem
/-! MI15: the same as shallow text: what each construct becomes (the names are places in the list of values). -/
def getM (σ : Env) (i : Nat) : M Val := fun h => match getV σ i with
  | some v => .ok v h
  | none => .stuck
def binM (op : Operator) (a b : M Val) : M Val := bnd a fun x => bnd b fun y => rd (pBin op x y)
def cmpM (op : CmpOp) (a b : M Val) : M Val := bnd a fun x => bnd b fun y => rd (pCmp op x y)
def cmp2M (op op2 : CmpOp) (a b c : M Val) : M Val := bnd a fun x => bnd b fun y => bnd (rd fun h => (pCmp op x y h).bind boolV) fun k =>
  if k = true then bnd c fun z => rd (pCmp op2 y z) else ret (bl false)
def cmp3M (op op2 op3 : CmpOp) (a b c d : M Val) : M Val := bnd a fun x => bnd b fun y => bnd (rd fun h => (pCmp op x y h).bind boolV) fun k =>
  if k = true then bnd c fun z => bnd (rd fun h => (pCmp op2 y z h).bind boolV) fun k2 => if k2 = true then bnd d fun w => rd (pCmp op3 z w) else ret (bl false) else ret (bl false)
def notM (a : M Val) : M Val := bnd a fun x => rd fun h => (truth x h).map fun b => bl (!b)
def negM (a : M Val) : M Val := bnd a fun x => rd fun _ => (intV x).map fun i => .d (.int (-i))
def andM (a b : M Val) : M Val := bnd a fun x => bnd (rd (truth x)) fun k => if k = true then b else ret x
def orM (a b : M Val) : M Val := bnd a fun x => bnd (rd (truth x)) fun k => if k = true then ret x else b
def iteM (t : M Bool) (a b : M Val) : M Val := bnd t fun k => if k = true then a else b
def seqL : List (M Val) → M (List Val)
  | [] => ret []
  | e :: es => bnd e fun x => bnd (seqL es) fun xs => ret (x :: xs)
def tupM (es : List (M Val)) : M Val := bnd (seqL es) fun vs => rd fun _ => (gd (decide (vs.length ≤ 16777216)) ()).bind fun _ => (toDs vs).map fun l => .d (.tup l)
def lstM (es : List (M Val)) : M Val := bnd (seqL es) fun vs => bnd (rd fun _ => (gd (decide (vs.length ≤ 16777216)) ()).bind fun _ => toDs vs) fun l => ret (.d (.lst l))
def lstN (es : List (M Val)) : M Val := bnd (seqL es) fun vs => bnd (rd fun _ => (gd (decide (vs.length ≤ 16777216)) ()).bind fun _ => toDs vs) fun l => alloc (.lst l)
def ixM (a b : M Val) : M Val := bnd a fun x => bnd b fun y => rd (pIx x y)
def partM : Option (M Val) → M (Option Int)
  | none => ret none
  | some e => bnd e fun x => rd fun _ => (intV x).map some
def cutM (a : M Val) (lo hi : Option (M Val)) : M Val := bnd a fun x => bnd (partM lo) fun l => bnd (partM hi) fun u => rd (cutD x l u)
def isM (g : G) (a : M Val) (c : Str) : M Val := bnd a fun x => rd fun h => (isInst g x c h).map bl
def bltM (f : Str) (es : List (M Val)) : M Val := bnd (seqL es) fun vs => rd (pCall f vs)
def usrM (cf : Str → List Val → M Val) (f : Str) (n : Nat) (es : List (M Val)) : M Val := bnd (seqL es) fun vs => if vs.length = n then cf f vs else stk
def rg1M (a : M Val) : M (Int × Int) := bnd a fun x => rd fun _ => (intV x).bind fun i => gd (okRg 0 i) (0, i)
def rg2M (a b : M Val) : M (Int × Int) := bnd a fun x => bnd b fun y => rd fun _ => (intV x).bind fun i => (intV y).bind fun j => gd (okRg i j) (i, j)
def lrgM (r : M (Int × Int)) : M Val := bnd r fun p => ret (.d (.lst (rgD p.1 p.2)))
def trgM (r : M (Int × Int)) : M Val := bnd r fun p => ret (.d (.tup (rgD p.1 p.2)))
def upM (a : M Val) : M Val := bnd a fun x => rd fun _ => match x with | .d (.str s) => gd (decide (s.length ≤ 5592405)) (.d (.str (Txt.upper s))) | _ => none
def comM (its : M (List D)) (item : D → M (Option D)) : M Val := bnd its fun its => bnd (rd fun _ => gd (decide (its.length ≤ 16777216)) ()) fun _ => bnd (noexc (loopC item its)) fun xs => ret (.d (.lst xs))
def comN (its : M (List D)) (item : D → M (Option D)) : M Val := bnd its fun its => bnd (rd fun _ => gd (decide (its.length ≤ 16777216)) ()) fun _ => bnd (noexc (loopC item its)) fun xs => alloc (.lst xs)
/-! tests -/
def tstM (a : M Val) : M Bool := bnd a fun x => rd (truth x)
def notT (a : M Bool) : M Bool := bnd a fun b => ret (!b)
def andT (a b : M Bool) : M Bool := bnd a fun k => if k = true then b else ret false
def orT (a b : M Bool) : M Bool := bnd a fun k => if k = true then ret true else b
/-! what is gone through -/
def rgI (r : M (Int × Int)) : M (List D) := bnd r fun p => ret (rgD p.1 p.2)
def frI (a : M Val) : M (List D) := bnd a fun x => rd fun _ => frozen x
def zipI (es : List (M Val)) : M (List D) := bnd (seqL es) fun vs => rd fun _ => match vs with
  | [.d (.lst l), .d (.lst k)] => some (zipD l k)
  | [.d (.tup l), .d (.tup k)] => some (zipD l k)
  | _ => none
/-! statements -/
def retS (e : Env → M Val) : MS := fun σ h => ofE (e σ) σ h fun v h' => .rt v h'
def expS (e : Env → M Val) : MS := fun σ h => ofE (e σ) σ h fun _ h' => .nx σ h'
def setS (i : Nat) (e : Env → M Val) : MS := fun σ h => ofE (e σ) σ h fun v h' => .nx (σ.set i (some v)) h'
def unpS (sl : Bool × List Nat) (e : Env → M Val) : MS := fun σ h => ofE (e σ) σ h fun v h' => match v with
  | .d v => match bindS sl v σ with
    | some σ1 => .nx σ1 h'
    | none => .stuck
  | _ => .stuck
def subS (o i e : Env → M Val) : MS := fun σ h => ofE (e σ) σ h fun v h1 => ofE (o σ) σ h1 fun x h2 => ofE (i σ) σ h2 fun y h3 => match x, y, v with
  | .m a, .d (.int j), .d v => match h3[a]? with
    | some (.lst xs) => match L2.ixN xs.length j with
      | some k => .nx σ (h3.set a (.lst (xs.set k v)))
      | none => .stuck
    | _ => .stuck
  | _, _, _ => .stuck
def ifS (t : Env → M Bool) (a b : MS) : MS := fun σ h => ofE (t σ) σ h fun k h' => if k = true then a σ h' else b σ h'
def nxS : MS := fun σ h => .nx σ h
def forS (sl : Bool × List Nat) (its : Env → M (List D)) (body : MS) : MS := fun σ h => ofE (its σ) σ h fun its h' => loopF (bindS sl) body its σ h'
def raiS (x : Str) : MS := fun σ h => .exc ⟨x, []⟩ σ h
def stkS : MS := fun _ _ => .stuck
def seqS (a b : MS) : MS := fun σ h => match a σ h with
  | .nx σ1 h1 => b σ1 h1
  | x => x
def tryS (g : G) (c : Str) (i : Nat) (body suite : MS) : MS := fun σ h => match body σ h with
  | .exc e σ1 h1 => match isInst g (.exc e) c h1 with
    | some true => match suite (σ1.set i (some (.exc e))) h1 with
      | .nx σ2 h2 => .nx (scrub (σ2.set i none)) h2
      | .bk σ2 h2 => .bk (scrub (σ2.set i none)) h2
      | .ct σ2 h2 => .ct (scrub (σ2.set i none)) h2
      | .rt v h2 => if isExc v then .stuck else .rt v h2
      | _ => .stuck
    | some false => .exc e σ1 h1
    | none => .stuck
  | r => r
/-! a call -/
def endF (keep : Bool) (L : Nat) (r : ResS) : Res Val := match r with
  | .rt v h' => fin keep L v h'
  | .nx _ h' => fin keep L (.d .non) h'
  | .exc e _ h' => .exc e (h'.take L)
  | _ => .stuck
theorem callF_is {g : G} {d : Nat} {f : Str} {fd : Fd} {vs : List Val} {h : MH} {s : (Str → List Val → M Val) → MS} (hf : g.fns.lookup f = some fd) (hl : vs.length = fd.ps.length)
    (e : ∀ cf σ h, evalB g cf fuel ⟨fd.N, fd.sc, true⟩ fd.body σ h = s cf σ h) : callF g (d + 1) f vs h = endF fd.keep h.length (s (callF g d) (startE fd.N vs) h) := by
  rw [← e]
  show (match g.fns.lookup f with
    | none => Res.stuck
    | some fd => if vs.length = fd.ps.length then _ else Res.stuck) = _
  rw [hf]
  exact if_pos hl
end MI
set_option maxRecDepth 100000
namespace K9
open MI PySem
def s_is_within (cf : Str → List Val → M Val) : MS := retS (fun σ => andM (isM g (getM σ 0) "int") (andM (notM (isM g (getM σ 0) "bool")) (cmp2M .LtE .LtE (getM σ 1) (getM σ 0) (getM σ 2))))
theorem e_is_within (cf : Str → List Val → M Val) (σ : MI.Env) (h : MH) : evalB g cf fuel ⟨fd_is_within.N, fd_is_within.sc, true⟩ fd_is_within.body σ h = s_is_within cf σ h := by kernel_rfl
theorem c_is_within (d : Nat) (x0 x1 x2 : Val) (h : MH) : callF g (d + 1) "is_within" [x0, x1, x2] h = endF false h.length (s_is_within (callF g d) [some x0, some x1, some x2] h) := callF_is (fd := fd_is_within) (s := s_is_within) rfl rfl e_is_within
def s_is_kind (cf : Str → List Val → M Val) : MS := seqS (ifS (fun σ => (orT (notT (tstM (isM g (getM σ 0) "tuple"))) (orT (notT (tstM (getM σ 0))) (notT (tstM (isM g (ixM (getM σ 0) (ret (.d (.int (0))))) "str")))))) (retS (fun σ => ret (.d (.bl false)))) (nxS)) (seqS (ifS (fun σ => (tstM (cmpM .Eq (ixM (getM σ 0) (ret (.d (.int (0))))) (ret (.d (.str "pick")))))) (retS (fun σ => andM (cmpM .Eq (bltM "len" [getM σ 0]) (ret (.d (.int (2))))) (usrM cf "is_within" 3 [ixM (getM σ 0) (ret (.d (.int (1)))), ret (.d (.int (2))), ret (.d (.int (6)))]))) (nxS)) (seqS (ifS (fun σ => (tstM (cmpM .Eq (ixM (getM σ 0) (ret (.d (.int (0))))) (ret (.d (.str "tick")))))) (retS (fun σ => andM (cmpM .Eq (bltM "len" [getM σ 0]) (ret (.d (.int (2))))) (usrM cf "is_within" 3 [ixM (getM σ 0) (ret (.d (.int (1)))), ret (.d (.int (2))), ret (.d (.int (4)))]))) (nxS)) (seqS (ifS (fun σ => (tstM (cmpM .Eq (ixM (getM σ 0) (ret (.d (.int (0))))) (ret (.d (.str "count")))))) (retS (fun σ => andM (cmpM .Eq (bltM "len" [getM σ 0]) (ret (.d (.int (3))))) (andM (usrM cf "is_within" 3 [ixM (getM σ 0) (ret (.d (.int (1)))), ret (.d (.int (0))), ret (.d (.int (98)))]) (usrM cf "is_within" 3 [ixM (getM σ 0) (ret (.d (.int (2)))), binM .Add (ixM (getM σ 0) (ret (.d (.int (1))))) (ret (.d (.int (1)))), ret (.d (.int (99)))])))) (nxS)) (retS (fun σ => ret (.d (.bl false)))))))
theorem e_is_kind (cf : Str → List Val → M Val) (σ : MI.Env) (h : MH) : evalB g cf fuel ⟨fd_is_kind.N, fd_is_kind.sc, true⟩ fd_is_kind.body σ h = s_is_kind cf σ h := by kernel_rfl
theorem c_is_kind (d : Nat) (x0 : Val) (h : MH) : callF g (d + 1) "is_kind" [x0] h = endF false h.length (s_is_kind (callF g d) [some x0] h) := callF_is (fd := fd_is_kind) (s := s_is_kind) rfl rfl e_is_kind
def s__ends (cf : Str → List Val → M Val) : MS := seqS (ifS (fun σ => (notT (tstM (usrM cf "is_kind" 1 [getM σ 0])))) (raiS "BadKind") (nxS)) (seqS (ifS (fun σ => (tstM (cmpM .Eq (ixM (getM σ 0) (ret (.d (.int (0))))) (ret (.d (.str "pick")))))) (retS (fun σ => tupM [ret (.d (.int (0))), binM .Sub (ixM (getM σ 0) (ret (.d (.int (1))))) (ret (.d (.int (1))))])) (nxS)) (seqS (ifS (fun σ => (tstM (cmpM .Eq (ixM (getM σ 0) (ret (.d (.int (0))))) (ret (.d (.str "tick")))))) (retS (fun σ => tupM [ret (.d (.int (1))), binM .Sub (binM .LShift (ret (.d (.int (1)))) (ixM (getM σ 0) (ret (.d (.int (1)))))) (ret (.d (.int (1))))])) (nxS)) (retS (fun σ => tupM [ixM (getM σ 0) (ret (.d (.int (1)))), ixM (getM σ 0) (ret (.d (.int (2))))]))))
theorem e__ends (cf : Str → List Val → M Val) (σ : MI.Env) (h : MH) : evalB g cf fuel ⟨fd__ends.N, fd__ends.sc, true⟩ fd__ends.body σ h = s__ends cf σ h := by kernel_rfl
theorem c__ends (d : Nat) (x0 : Val) (h : MH) : callF g (d + 1) "_ends" [x0] h = endF false h.length (s__ends (callF g d) [some x0] h) := callF_is (fd := fd__ends) (s := s__ends) rfl rfl e__ends
def s_answers_of (cf : Str → List Val → M Val) : MS := seqS (unpS (true, [1, 2]) (fun σ => usrM cf "_ends" 1 [getM σ 0])) (retS (fun σ => trgM (rg2M (getM σ 1) (binM .Add (getM σ 2) (ret (.d (.int (1))))))))
theorem e_answers_of (cf : Str → List Val → M Val) (σ : MI.Env) (h : MH) : evalB g cf fuel ⟨fd_answers_of.N, fd_answers_of.sc, true⟩ fd_answers_of.body σ h = s_answers_of cf σ h := by kernel_rfl
theorem c_answers_of (d : Nat) (x0 : Val) (h : MH) : callF g (d + 1) "answers_of" [x0] h = endF false h.length (s_answers_of (callF g d) [some x0, none, none] h) := callF_is (fd := fd_answers_of) (s := s_answers_of) rfl rfl e_answers_of
def s_size_of (cf : Str → List Val → M Val) : MS := seqS (unpS (true, [1, 2]) (fun σ => usrM cf "_ends" 1 [getM σ 0])) (retS (fun σ => binM .Add (binM .Sub (getM σ 2) (getM σ 1)) (ret (.d (.int (1))))))
theorem e_size_of (cf : Str → List Val → M Val) (σ : MI.Env) (h : MH) : evalB g cf fuel ⟨fd_size_of.N, fd_size_of.sc, true⟩ fd_size_of.body σ h = s_size_of cf σ h := by kernel_rfl
theorem c_size_of (d : Nat) (x0 : Val) (h : MH) : callF g (d + 1) "size_of" [x0] h = endF false h.length (s_size_of (callF g d) [some x0, none, none] h) := callF_is (fd := fd_size_of) (s := s_size_of) rfl rfl e_size_of
def s_is_answer (cf : Str → List Val → M Val) : MS := seqS (unpS (true, [2, 3]) (fun σ => usrM cf "_ends" 1 [getM σ 0])) (retS (fun σ => usrM cf "is_within" 3 [getM σ 1, getM σ 2, getM σ 3]))
theorem e_is_answer (cf : Str → List Val → M Val) (σ : MI.Env) (h : MH) : evalB g cf fuel ⟨fd_is_answer.N, fd_is_answer.sc, true⟩ fd_is_answer.body σ h = s_is_answer cf σ h := by kernel_rfl
theorem c_is_answer (d : Nat) (x0 x1 : Val) (h : MH) : callF g (d + 1) "is_answer" [x0, x1] h = endF false h.length (s_is_answer (callF g d) [some x0, some x1, none, none] h) := callF_is (fd := fd_is_answer) (s := s_is_answer) rfl rfl e_is_answer
def s_is_content (cf : Str → List Val → M Val) : MS := seqS (unpS (true, [2, 3]) (fun σ => usrM cf "_ends" 1 [getM σ 0])) (seqS (ifS (fun σ => (tstM (cmpM .Eq (ixM (getM σ 0) (ret (.d (.int (0))))) (ret (.d (.str "tick")))))) (retS (fun σ => orM (usrM cf "is_within" 3 [getM σ 1, ret (.d (.int (-1))), ret (.d (.int (-1)))]) (usrM cf "is_within" 3 [getM σ 1, getM σ 2, getM σ 3]))) (nxS)) (seqS (ifS (fun σ => (tstM (cmpM .Eq (ixM (getM σ 0) (ret (.d (.int (0))))) (ret (.d (.str "count")))))) (retS (fun σ => usrM cf "is_within" 3 [getM σ 1, ret (.d (.int (-2))), ret (.d (.int (99)))])) (nxS)) (retS (fun σ => usrM cf "is_within" 3 [getM σ 1, ret (.d (.int (-2))), getM σ 3]))))
theorem e_is_content (cf : Str → List Val → M Val) (σ : MI.Env) (h : MH) : evalB g cf fuel ⟨fd_is_content.N, fd_is_content.sc, true⟩ fd_is_content.body σ h = s_is_content cf σ h := by kernel_rfl
theorem c_is_content (d : Nat) (x0 x1 : Val) (h : MH) : callF g (d + 1) "is_content" [x0, x1] h = endF false h.length (s_is_content (callF g d) [some x0, some x1, none, none] h) := callF_is (fd := fd_is_content) (s := s_is_content) rfl rfl e_is_content
def s_slips_between (cf : Str → List Val → M Val) : MS := seqS (ifS (fun σ => (notT (tstM (usrM cf "is_answer" 2 [getM σ 0, getM σ 1])))) (stkS) (nxS)) (seqS (ifS (fun σ => (notT (tstM (usrM cf "is_content" 2 [getM σ 0, getM σ 2])))) (raiS "BadContent") (nxS)) (seqS (ifS (fun σ => (tstM (cmpM .Eq (ixM (getM σ 0) (ret (.d (.int (0))))) (ret (.d (.str "tick")))))) (retS (fun σ => bltM "len" [usrM cf "_boxes" 1 [binM .BitXor (getM σ 1) (bltM "max" [getM σ 2, ret (.d (.int (0)))])]])) (nxS)) (seqS (ifS (fun σ => (orT (tstM (cmpM .Eq (ixM (getM σ 0) (ret (.d (.int (0))))) (ret (.d (.str "pick"))))) (tstM (cmpM .Lt (getM σ 2) (ret (.d (.int (0)))))))) (retS (fun σ => bltM "int" [cmpM .NotEq (getM σ 1) (getM σ 2)])) (nxS)) (retS (fun σ => binM .Add (bltM "int" [cmpM .NotEq (binM .FloorDiv (getM σ 1) (ret (.d (.int (10))))) (binM .FloorDiv (getM σ 2) (ret (.d (.int (10)))))]) (bltM "int" [cmpM .NotEq (binM .Mod (getM σ 1) (ret (.d (.int (10))))) (binM .Mod (getM σ 2) (ret (.d (.int (10)))))]))))))
theorem e_slips_between (cf : Str → List Val → M Val) (σ : MI.Env) (h : MH) : evalB g cf fuel ⟨fd_slips_between.N, fd_slips_between.sc, true⟩ fd_slips_between.body σ h = s_slips_between cf σ h := by kernel_rfl
theorem c_slips_between (d : Nat) (x0 x1 x2 : Val) (h : MH) : callF g (d + 1) "slips_between" [x0, x1, x2] h = endF false h.length (s_slips_between (callF g d) [some x0, some x1, some x2] h) := callF_is (fd := fd_slips_between) (s := s_slips_between) rfl rfl e_slips_between
def s_ticked (cf : Str → List Val → M Val) : MS := seqS (ifS (fun σ => (orT (notT (tstM (usrM cf "is_kind" 1 [getM σ 0]))) (tstM (cmpM .Eq (ixM (getM σ 0) (ret (.d (.int (0))))) (ret (.d (.str "count"))))))) (raiS "BadKind") (nxS)) (seqS (ifS (fun σ => (notT (tstM (usrM cf "is_content" 2 [getM σ 0, getM σ 1])))) (raiS "BadContent") (nxS)) (seqS (ifS (fun σ => (tstM (cmpM .Lt (getM σ 1) (ret (.d (.int (0))))))) (retS (fun σ => tupM [])) (nxS)) (retS (fun σ => iteM (tstM (cmpM .Eq (ixM (getM σ 0) (ret (.d (.int (0))))) (ret (.d (.str "pick"))))) (tupM [getM σ 1]) (usrM cf "_boxes" 1 [getM σ 1])))))
theorem e_ticked (cf : Str → List Val → M Val) (σ : MI.Env) (h : MH) : evalB g cf fuel ⟨fd_ticked.N, fd_ticked.sc, true⟩ fd_ticked.body σ h = s_ticked cf σ h := by kernel_rfl
theorem c_ticked (d : Nat) (x0 x1 : Val) (h : MH) : callF g (d + 1) "ticked" [x0, x1] h = endF false h.length (s_ticked (callF g d) [some x0, some x1] h) := callF_is (fd := fd_ticked) (s := s_ticked) rfl rfl e_ticked
def s__boxes (cf : Str → List Val → M Val) : MS := retS (fun σ => bltM "tuple" [comM (rgI (rg1M (ret (.d (.int (4)))))) (itemC (false, [1]) [1] (fun σ => (tstM (cmpM .Eq (binM .BitAnd (binM .RShift (getM σ 0) (getM σ 1)) (ret (.d (.int (1))))) (ret (.d (.int (1))))))) (fun σ => getM σ 1) σ)])
theorem e__boxes (cf : Str → List Val → M Val) (σ : MI.Env) (h : MH) : evalB g cf fuel ⟨fd__boxes.N, fd__boxes.sc, true⟩ fd__boxes.body σ h = s__boxes cf σ h := by kernel_rfl
theorem c__boxes (d : Nat) (x0 : Val) (h : MH) : callF g (d + 1) "_boxes" [x0] h = endF false h.length (s__boxes (callF g d) [some x0, none] h) := callF_is (fd := fd__boxes) (s := s__boxes) rfl rfl e__boxes
def s__law_cell (cf : Str → List Val → M Val) : MS := seqS (ifS (fun σ => (tstM (cmpM .Lt (getM σ 1) (bltM "len" [getM σ 0])))) (retS (fun σ => ixM (getM σ 0) (getM σ 1))) (nxS)) (retS (fun σ => binM .Add (binM .Mult (getM σ 1) (ret (.d (.int (7919))))) (binM .Mod (bltM "int" [bltM "sum" [cutM (getM σ 0) none (some (ret (.d (.int (1)))))]]) (ret (.d (.int (1000003)))))))
theorem e__law_cell (cf : Str → List Val → M Val) (σ : MI.Env) (h : MH) : evalB g cf fuel ⟨fd__law_cell.N, fd__law_cell.sc, true⟩ fd__law_cell.body σ h = s__law_cell cf σ h := by kernel_rfl
theorem c__law_cell (d : Nat) (x0 x1 : Val) (h : MH) : callF g (d + 1) "_law_cell" [x0, x1] h = endF false h.length (s__law_cell (callF g d) [some x0, some x1] h) := callF_is (fd := fd__law_cell) (s := s__law_cell) rfl rfl e__law_cell
def s__law_stream (cf : Str → List Val → M Val) : MS := seqS (setS 2 (fun σ => usrM cf "_law_cell" 2 [getM σ 0, getM σ 1])) (seqS (ifS (fun σ => (tstM (cmpM .GtE (bltM "abs" [getM σ 2]) (binM .Pow (ret (.d (.int (10)))) (ret (.d (.int (18)))))))) (retS (fun σ => lstN [bltM "abs" [getM σ 2], ret (.d (.int (0))), getM σ 2])) (nxS)) (retS (fun σ => lstN [ret (.d (.int (0))), ret (.d (.int (0))), getM σ 2])))
theorem e__law_stream (cf : Str → List Val → M Val) (σ : MI.Env) (h : MH) : evalB g cf fuel ⟨fd__law_stream.N, fd__law_stream.sc, true⟩ fd__law_stream.body σ h = s__law_stream cf σ h := by kernel_rfl
theorem c__law_stream (d : Nat) (x0 x1 : Val) (h : MH) : callF g (d + 1) "_law_stream" [x0, x1] h = endF true h.length (s__law_stream (callF g d) [some x0, some x1, none] h) := callF_is (fd := fd__law_stream) (s := s__law_stream) rfl rfl e__law_stream
def s__law_next (cf : Str → List Val → M Val) : MS := seqS (ifS (fun σ => (tstM (cmpM .GtE (ixM (getM σ 0) (ret (.d (.int (0))))) (ret (.d (.int (1000))))))) (seqS (setS 2 (fun σ => binM .Mod (bltM "int" [ixM (getM σ 0) (ret (.d (.int (0))))]) (ret (.d (.int (1000)))))) (seqS (subS (fun σ => getM σ 0) (fun σ => ret (.d (.int (0)))) (fun σ => binM .FloorDiv (ixM (getM σ 0) (ret (.d (.int (0))))) (ret (.d (.int (1000)))))) (retS (fun σ => binM .Mod (bltM "int" [getM σ 2]) (getM σ 1))))) (nxS)) (seqS (subS (fun σ => getM σ 0) (fun σ => ret (.d (.int (1)))) (fun σ => binM .Add (ixM (getM σ 0) (ret (.d (.int (1))))) (ret (.d (.int (1)))))) (seqS (setS 3 (fun σ => binM .Mod (bltM "int" [binM .Add (binM .Mult (binM .Add (binM .Mod (bltM "int" [ixM (getM σ 0) (ret (.d (.int (2))))]) (ret (.d (.int (1000003))))) (ret (.d (.int (1))))) (ret (.d (.int (48271))))) (binM .Mult (ixM (getM σ 0) (ret (.d (.int (1))))) (ret (.d (.int (69621)))))]) (ret (.d (.int (2147483647)))))) (seqS (setS 3 (fun σ => binM .Mod (bltM "int" [binM .Add (binM .Add (binM .Add (binM .Mult (getM σ 3) (getM σ 3)) (binM .Mult (ret (.d (.int (7)))) (getM σ 3))) (binM .Mult (binM .Mult (ixM (getM σ 0) (ret (.d (.int (1))))) (ixM (getM σ 0) (ret (.d (.int (1)))))) (ret (.d (.int (31)))))) (ret (.d (.int (5))))]) (ret (.d (.int (998244353)))))) (retS (fun σ => binM .Mod (bltM "int" [binM .FloorDiv (getM σ 3) (ret (.d (.int (5))))]) (getM σ 1))))))
theorem e__law_next (cf : Str → List Val → M Val) (σ : MI.Env) (h : MH) : evalB g cf fuel ⟨fd__law_next.N, fd__law_next.sc, true⟩ fd__law_next.body σ h = s__law_next cf σ h := by kernel_rfl
theorem c__law_next (d : Nat) (x0 x1 : Val) (h : MH) : callF g (d + 1) "_law_next" [x0, x1] h = endF false h.length (s__law_next (callF g d) [some x0, some x1, none, none] h) := callF_is (fd := fd__law_next) (s := s__law_next) rfl rfl e__law_next
def s__law_pick (cf : Str → List Val → M Val) : MS := retS (fun σ => ixM (getM σ 1) (usrM cf "_law_next" 2 [getM σ 0, bltM "len" [getM σ 1]]))
theorem e__law_pick (cf : Str → List Val → M Val) (σ : MI.Env) (h : MH) : evalB g cf fuel ⟨fd__law_pick.N, fd__law_pick.sc, true⟩ fd__law_pick.body σ h = s__law_pick cf σ h := by kernel_rfl
theorem c__law_pick (d : Nat) (x0 x1 : Val) (h : MH) : callF g (d + 1) "_law_pick" [x0, x1] h = endF false h.length (s__law_pick (callF g d) [some x0, some x1] h) := callF_is (fd := fd__law_pick) (s := s__law_pick) rfl rfl e__law_pick
def s__law_is_int (cf : Str → List Val → M Val) : MS := retS (fun σ => andM (isM g (getM σ 0) "int") (notM (isM g (getM σ 0) "bool")))
theorem e__law_is_int (cf : Str → List Val → M Val) (σ : MI.Env) (h : MH) : evalB g cf fuel ⟨fd__law_is_int.N, fd__law_is_int.sc, true⟩ fd__law_is_int.body σ h = s__law_is_int cf σ h := by kernel_rfl
theorem c__law_is_int (d : Nat) (x0 : Val) (h : MH) : callF g (d + 1) "_law_is_int" [x0] h = endF false h.length (s__law_is_int (callF g d) [some x0] h) := callF_is (fd := fd__law_is_int) (s := s__law_is_int) rfl rfl e__law_is_int
def s__law_alike (cf : Str → List Val → M Val) : MS := seqS (ifS (fun σ => (tstM (cmpM .Is (getM σ 1) (ret (.d (.non)))))) (retS (fun σ => cmpM .Is (getM σ 0) (ret (.d (.non))))) (nxS)) (seqS (ifS (fun σ => (tstM (cmpM .Is (getM σ 1) (ret (.d (.bl true)))))) (retS (fun σ => cmpM .Is (getM σ 0) (ret (.d (.bl true))))) (nxS)) (seqS (ifS (fun σ => (tstM (cmpM .Is (getM σ 1) (ret (.d (.bl false)))))) (retS (fun σ => cmpM .Is (getM σ 0) (ret (.d (.bl false))))) (nxS)) (seqS (ifS (fun σ => (tstM (isM g (getM σ 1) "int"))) (retS (fun σ => andM (usrM cf "_law_is_int" 1 [getM σ 0]) (cmpM .Eq (getM σ 0) (getM σ 1)))) (nxS)) (seqS (ifS (fun σ => (tstM (isM g (getM σ 1) "str"))) (retS (fun σ => andM (isM g (getM σ 0) "str") (cmpM .Eq (getM σ 0) (getM σ 1)))) (nxS)) (seqS (ifS (fun σ => (orT (andT (tstM (isM g (getM σ 1) "tuple")) (notT (tstM (isM g (getM σ 0) "tuple")))) (andT (tstM (isM g (getM σ 1) "list")) (notT (tstM (isM g (getM σ 0) "list")))))) (retS (fun σ => ret (.d (.bl false)))) (nxS)) (seqS (ifS (fun σ => (tstM (cmpM .NotEq (bltM "len" [getM σ 0]) (bltM "len" [getM σ 1])))) (retS (fun σ => ret (.d (.bl false)))) (nxS)) (retS (fun σ => bltM "all" [comM (zipI [getM σ 0, getM σ 1]) (itemC (true, [2, 3]) [2, 3] (fun _ => ret true) (fun σ => usrM cf "_law_alike" 2 [getM σ 2, getM σ 3]) σ)]))))))))
theorem e__law_alike (cf : Str → List Val → M Val) (σ : MI.Env) (h : MH) : evalB g cf fuel ⟨fd__law_alike.N, fd__law_alike.sc, true⟩ fd__law_alike.body σ h = s__law_alike cf σ h := by kernel_rfl
theorem c__law_alike (d : Nat) (x0 x1 : Val) (h : MH) : callF g (d + 1) "_law_alike" [x0, x1] h = endF false h.length (s__law_alike (callF g d) [some x0, some x1, none, none] h) := callF_is (fd := fd__law_alike) (s := s__law_alike) rfl rfl e__law_alike
def s__law_answers (cf : Str → List Val → M Val) : MS := seqS (ifS (fun σ => (tstM (cmpM .Eq (ixM (getM σ 0) (ret (.d (.int (0))))) (ret (.d (.str "pick")))))) (retS (fun σ => lrgM (rg1M (ixM (getM σ 0) (ret (.d (.int (1)))))))) (nxS)) (seqS (ifS (fun σ => (tstM (cmpM .Eq (ixM (getM σ 0) (ret (.d (.int (0))))) (ret (.d (.str "tick")))))) (retS (fun σ => lrgM (rg2M (ret (.d (.int (1)))) (binM .LShift (ret (.d (.int (1)))) (ixM (getM σ 0) (ret (.d (.int (1))))))))) (nxS)) (retS (fun σ => lrgM (rg2M (ixM (getM σ 0) (ret (.d (.int (1))))) (binM .Add (ixM (getM σ 0) (ret (.d (.int (2))))) (ret (.d (.int (1)))))))))
theorem e__law_answers (cf : Str → List Val → M Val) (σ : MI.Env) (h : MH) : evalB g cf fuel ⟨fd__law_answers.N, fd__law_answers.sc, true⟩ fd__law_answers.body σ h = s__law_answers cf σ h := by kernel_rfl
theorem c__law_answers (d : Nat) (x0 : Val) (h : MH) : callF g (d + 1) "_law_answers" [x0] h = endF false h.length (s__law_answers (callF g d) [some x0] h) := callF_is (fd := fd__law_answers) (s := s__law_answers) rfl rfl e__law_answers
def s__law_boxes (cf : Str → List Val → M Val) : MS := retS (fun σ => comM (rgI (rg1M (ret (.d (.int (4)))))) (itemC (false, [1]) [1] (fun σ => (tstM (cmpM .Eq (binM .Sub (binM .FloorDiv (getM σ 0) (binM .LShift (ret (.d (.int (1)))) (getM σ 1))) (binM .Mult (binM .FloorDiv (getM σ 0) (binM .LShift (ret (.d (.int (2)))) (getM σ 1))) (ret (.d (.int (2)))))) (ret (.d (.int (1))))))) (fun σ => getM σ 1) σ))
theorem e__law_boxes (cf : Str → List Val → M Val) (σ : MI.Env) (h : MH) : evalB g cf fuel ⟨fd__law_boxes.N, fd__law_boxes.sc, true⟩ fd__law_boxes.body σ h = s__law_boxes cf σ h := by kernel_rfl
theorem c__law_boxes (d : Nat) (x0 : Val) (h : MH) : callF g (d + 1) "_law_boxes" [x0] h = endF false h.length (s__law_boxes (callF g d) [some x0, none] h) := callF_is (fd := fd__law_boxes) (s := s__law_boxes) rfl rfl e__law_boxes
def s__law_any_kind (cf : Str → List Val → M Val) : MS := seqS (setS 1 (fun σ => usrM cf "_law_next" 2 [getM σ 0, ret (.d (.int (4)))])) (seqS (ifS (fun σ => (tstM (cmpM .Eq (getM σ 1) (ret (.d (.int (0))))))) (retS (fun σ => tupM [ret (.d (.str "pick")), binM .Add (ret (.d (.int (2)))) (usrM cf "_law_next" 2 [getM σ 0, ret (.d (.int (5)))])])) (nxS)) (seqS (ifS (fun σ => (tstM (cmpM .Eq (getM σ 1) (ret (.d (.int (1))))))) (retS (fun σ => tupM [ret (.d (.str "tick")), binM .Add (ret (.d (.int (2)))) (usrM cf "_law_next" 2 [getM σ 0, ret (.d (.int (3)))])])) (nxS)) (seqS (setS 2 (fun σ => usrM cf "_law_pick" 2 [getM σ 0, lstM [ret (.d (.int (0))), ret (.d (.int (1))), ret (.d (.int (9))), ret (.d (.int (98))), usrM cf "_law_next" 2 [getM σ 0, ret (.d (.int (99)))]]])) (retS (fun σ => tupM [ret (.d (.str "count")), getM σ 2, binM .Add (binM .Add (getM σ 2) (ret (.d (.int (1))))) (usrM cf "_law_pick" 2 [getM σ 0, lstM [ret (.d (.int (0))), binM .Sub (ret (.d (.int (98)))) (getM σ 2), usrM cf "_law_next" 2 [getM σ 0, binM .Sub (ret (.d (.int (99)))) (getM σ 2)]]])])))))
theorem e__law_any_kind (cf : Str → List Val → M Val) (σ : MI.Env) (h : MH) : evalB g cf fuel ⟨fd__law_any_kind.N, fd__law_any_kind.sc, true⟩ fd__law_any_kind.body σ h = s__law_any_kind cf σ h := by kernel_rfl
theorem c__law_any_kind (d : Nat) (x0 : Val) (h : MH) : callF g (d + 1) "_law_any_kind" [x0] h = endF false h.length (s__law_any_kind (callF g d) [some x0, none, none] h) := callF_is (fd := fd__law_any_kind) (s := s__law_any_kind) rfl rfl e__law_any_kind
def s__law_right_kind (cf : Str → List Val → M Val) : MS := seqS (ifS (fun σ => (orT (notT (tstM (isM g (getM σ 0) "tuple"))) (orT (tstM (cmpM .Lt (bltM "len" [getM σ 0]) (ret (.d (.int (2)))))) (notT (tstM (isM g (ixM (getM σ 0) (ret (.d (.int (0))))) "str")))))) (retS (fun σ => ret (.d (.bl false)))) (nxS)) (seqS (ifS (fun σ => (tstM (cmpM .Eq (ixM (getM σ 0) (ret (.d (.int (0))))) (ret (.d (.str "pick")))))) (retS (fun σ => andM (cmpM .Eq (bltM "len" [getM σ 0]) (ret (.d (.int (2))))) (andM (usrM cf "_law_is_int" 1 [ixM (getM σ 0) (ret (.d (.int (1))))]) (cmp2M .LtE .LtE (ret (.d (.int (2)))) (ixM (getM σ 0) (ret (.d (.int (1))))) (ret (.d (.int (6)))))))) (nxS)) (seqS (ifS (fun σ => (tstM (cmpM .Eq (ixM (getM σ 0) (ret (.d (.int (0))))) (ret (.d (.str "tick")))))) (retS (fun σ => andM (cmpM .Eq (bltM "len" [getM σ 0]) (ret (.d (.int (2))))) (andM (usrM cf "_law_is_int" 1 [ixM (getM σ 0) (ret (.d (.int (1))))]) (cmp2M .LtE .LtE (ret (.d (.int (2)))) (ixM (getM σ 0) (ret (.d (.int (1))))) (ret (.d (.int (4)))))))) (nxS)) (seqS (ifS (fun σ => (orT (tstM (cmpM .NotEq (ixM (getM σ 0) (ret (.d (.int (0))))) (ret (.d (.str "count"))))) (tstM (cmpM .NotEq (bltM "len" [getM σ 0]) (ret (.d (.int (3)))))))) (retS (fun σ => ret (.d (.bl false)))) (nxS)) (retS (fun σ => andM (usrM cf "_law_is_int" 1 [ixM (getM σ 0) (ret (.d (.int (1))))]) (andM (usrM cf "_law_is_int" 1 [ixM (getM σ 0) (ret (.d (.int (2))))]) (cmp3M .LtE .Lt .LtE (ret (.d (.int (0)))) (ixM (getM σ 0) (ret (.d (.int (1))))) (ixM (getM σ 0) (ret (.d (.int (2))))) (ret (.d (.int (99)))))))))))
theorem e__law_right_kind (cf : Str → List Val → M Val) (σ : MI.Env) (h : MH) : evalB g cf fuel ⟨fd__law_right_kind.N, fd__law_right_kind.sc, true⟩ fd__law_right_kind.body σ h = s__law_right_kind cf σ h := by kernel_rfl
theorem c__law_right_kind (d : Nat) (x0 : Val) (h : MH) : callF g (d + 1) "_law_right_kind" [x0] h = endF false h.length (s__law_right_kind (callF g d) [some x0] h) := callF_is (fd := fd__law_right_kind) (s := s__law_right_kind) rfl rfl e__law_right_kind
def s__law_near (cf : Str → List Val → M Val) : MS := seqS (setS 2 (fun σ => ixM (getM σ 0) (ret (.d (.int (0)))))) (seqS (setS 3 (fun σ => ixM (getM σ 0) (ret (.d (.int (1)))))) (seqS (setS 4 (fun σ => ixM (getM σ 0) (negM (ret (.d (.int (1))))))) (seqS (setS 5 (fun σ => usrM cf "_law_pick" 2 [getM σ 1, lstM [ret (.d (.int (0))), ret (.d (.int (1))), ret (.d (.int (2))), ret (.d (.int (4))), ret (.d (.int (5))), ret (.d (.int (6))), ret (.d (.int (7))), ret (.d (.int (98))), ret (.d (.int (99))), ret (.d (.int (100))), negM (ret (.d (.int (1)))), binM .Pow (ret (.d (.int (10)))) (ret (.d (.int (29)))), negM (binM .Pow (ret (.d (.int (10)))) (ret (.d (.int (29))))), usrM cf "_law_next" 2 [getM σ 1, ret (.d (.int (100)))]]])) (seqS (setS 6 (fun σ => lstM [getM σ 0, tupM [], lstM [], ret (.d .edict), ret (.d (.str "")), getM σ 2, getM σ 3, ret (.d (.non)), ret (.d (.bl true)), ret (.d (.bl false)), tupM [getM σ 2], tupM [getM σ 3], tupM [getM σ 0], bltM "list" [getM σ 0], cutM (getM σ 0) none (some (negM (ret (.d (.int (1))))))])) (seqS (setS 6 (fun σ => binM .Add (getM σ 6) (lstM [binM .Add (getM σ 0) (tupM [getM σ 4]), tupM [getM σ 2, ret (.d (.non))], tupM [getM σ 2, ret (.d (.bl true))], tupM [getM σ 2, bltM "str" [getM σ 3]], tupM [getM σ 2, tupM [getM σ 3]], tupM [getM σ 2, lstM [getM σ 3]]]))) (seqS (setS 7 (fun σ => lstM [ret (.d (.str "")), ret (.d (.str "ask")), binM .Add (getM σ 2) (ret (.d (.str "s"))), upM (getM σ 2), ret (.d (.non)), ret (.d (.int (0))), tupM [getM σ 2], lstM [getM σ 2]])) (seqS (setS 6 (fun σ => binM .Add (getM σ 6) (comM (frI (getM σ 7)) (itemC (false, [8]) [8] (fun _ => ret true) (fun σ => binM .Add (tupM [getM σ 8]) (cutM (getM σ 0) (some (ret (.d (.int (1))))) none)) σ)))) (seqS (setS 6 (fun σ => binM .Add (getM σ 6) (comM (frI (lstM [ret (.d (.str "pick")), ret (.d (.str "tick")), ret (.d (.str "count"))])) (itemC (false, [8]) [8] (fun _ => ret true) (fun σ => tupM [getM σ 8, getM σ 5]) σ)))) (seqS (setS 6 (fun σ => binM .Add (getM σ 6) (lstM [tupM [ret (.d (.str "count")), getM σ 5, getM σ 4], tupM [ret (.d (.str "count")), getM σ 3, getM σ 5], tupM [ret (.d (.str "count")), getM σ 5, binM .Add (getM σ 5) (ret (.d (.int (1))))], tupM [ret (.d (.str "count")), getM σ 5, getM σ 5]]))) (seqS (setS 6 (fun σ => binM .Add (getM σ 6) (lstM [tupM [ret (.d (.str "count")), getM σ 4, getM σ 3], tupM [ret (.d (.str "count")), ret (.d (.bl false)), getM σ 4], tupM [ret (.d (.str "count")), getM σ 3, ret (.d (.bl true))], tupM [ret (.d (.str "count")), ret (.d (.int (0))), ret (.d (.bl true))]]))) (retS (fun σ => binM .Add (getM σ 6) (lstM [tupM [ret (.d (.str "count")), ret (.d (.non)), getM σ 4], tupM [ret (.d (.str "count")), getM σ 3, bltM "str" [getM σ 4]], tupM [ret (.d (.str "pick")), ret (.d (.bl false))], tupM [ret (.d (.str "tick")), ret (.d (.non))]])))))))))))))
theorem e__law_near (cf : Str → List Val → M Val) (σ : MI.Env) (h : MH) : evalB g cf fuel ⟨fd__law_near.N, fd__law_near.sc, true⟩ fd__law_near.body σ h = s__law_near cf σ h := by kernel_rfl
theorem c__law_near (d : Nat) (x0 x1 : Val) (h : MH) : callF g (d + 1) "_law_near" [x0, x1] h = endF false h.length (s__law_near (callF g d) [some x0, some x1, none, none, none, none, none, none, none] h) := callF_is (fd := fd__law_near) (s := s__law_near) rfl rfl e__law_near
def s__law_things (cf : Str → List Val → M Val) : MS := seqS (setS 1 (fun σ => binM .Add (binM .Pow (ret (.d (.int (10)))) (ret (.d (.int (29))))) (usrM cf "_law_next" 2 [getM σ 0, ret (.d (.int (1000)))]))) (retS (fun σ => binM .Add (lrgM (rg2M (negM (ret (.d (.int (4))))) (ret (.d (.int (104)))))) (lstM [getM σ 1, negM (getM σ 1), ret (.d (.non)), ret (.d (.bl true)), ret (.d (.bl false)), ret (.d (.str "")), ret (.d (.str "1")), tupM [ret (.d (.int (1)))], lstM [ret (.d (.int (0)))], ret (.d .edict)])))
theorem e__law_things (cf : Str → List Val → M Val) (σ : MI.Env) (h : MH) : evalB g cf fuel ⟨fd__law_things.N, fd__law_things.sc, true⟩ fd__law_things.body σ h = s__law_things cf σ h := by kernel_rfl
theorem c__law_things (d : Nat) (x0 : Val) (h : MH) : callF g (d + 1) "_law_things" [x0] h = endF false h.length (s__law_things (callF g d) [some x0, none] h) := callF_is (fd := fd__law_things) (s := s__law_things) rfl rfl e__law_things
def s__law_no_kind (cf : Str → List Val → M Val) : MS := seqS (tryS g "LeafError" 3 (ifS (fun σ => (tstM (cmpM .Eq (getM σ 0) (ret (.d (.int (0))))))) (expS (fun σ => usrM cf "answers_of" 1 [getM σ 1])) (ifS (fun σ => (tstM (cmpM .Eq (getM σ 0) (ret (.d (.int (1))))))) (expS (fun σ => usrM cf "size_of" 1 [getM σ 1])) (ifS (fun σ => (tstM (cmpM .Eq (getM σ 0) (ret (.d (.int (2))))))) (expS (fun σ => usrM cf "is_answer" 2 [getM σ 1, getM σ 2])) (ifS (fun σ => (tstM (cmpM .Eq (getM σ 0) (ret (.d (.int (3))))))) (expS (fun σ => usrM cf "is_content" 2 [getM σ 1, getM σ 2])) (ifS (fun σ => (tstM (cmpM .Eq (getM σ 0) (ret (.d (.int (4))))))) (expS (fun σ => usrM cf "ticked" 2 [getM σ 1, getM σ 2])) (expS (fun σ => usrM cf "slips_between" 3 [getM σ 1, getM σ 2, getM σ 2]))))))) (seqS (setS 4 (fun σ => andM (isM g (getM σ 3) "ValueError") (andM (notM (isM g (getM σ 3) "BadAnswer")) (notM (isM g (getM σ 3) "BadContent"))))) (retS (fun σ => andM (getM σ 4) (isM g (getM σ 3) "BadKind"))))) (retS (fun σ => ret (.d (.bl false))))
theorem e__law_no_kind (cf : Str → List Val → M Val) (σ : MI.Env) (h : MH) : evalB g cf fuel ⟨fd__law_no_kind.N, fd__law_no_kind.sc, true⟩ fd__law_no_kind.body σ h = s__law_no_kind cf σ h := by kernel_rfl
theorem c__law_no_kind (d : Nat) (x0 x1 x2 : Val) (h : MH) : callF g (d + 1) "_law_no_kind" [x0, x1, x2] h = endF false h.length (s__law_no_kind (callF g d) [some x0, some x1, some x2, none, none] h) := callF_is (fd := fd__law_no_kind) (s := s__law_no_kind) rfl rfl e__law_no_kind
def s__law_no_content (cf : Str → List Val → M Val) : MS := seqS (tryS g "LeafError" 2 (expS (fun σ => usrM cf "ticked" 2 [getM σ 0, getM σ 1])) (retS (fun σ => andM (isM g (getM σ 2) "BadContent") (andM (notM (isM g (getM σ 2) "BadKind")) (notM (isM g (getM σ 2) "BadAnswer")))))) (retS (fun σ => ret (.d (.bl false))))
theorem e__law_no_content (cf : Str → List Val → M Val) (σ : MI.Env) (h : MH) : evalB g cf fuel ⟨fd__law_no_content.N, fd__law_no_content.sc, true⟩ fd__law_no_content.body σ h = s__law_no_content cf σ h := by kernel_rfl
theorem c__law_no_content (d : Nat) (x0 x1 : Val) (h : MH) : callF g (d + 1) "_law_no_content" [x0, x1] h = endF false h.length (s__law_no_content (callF g d) [some x0, some x1, none] h) := callF_is (fd := fd__law_no_content) (s := s__law_no_content) rfl rfl e__law_no_content
def s__law_boxes_told (cf : Str → List Val → M Val) : MS := seqS (ifS (fun σ => (tstM (cmpM .Eq (ixM (getM σ 0) (ret (.d (.int (0))))) (ret (.d (.str "count")))))) (retS (fun σ => usrM cf "_law_no_kind" 3 [ret (.d (.int (4))), getM σ 0, getM σ 1])) (nxS)) (seqS (ifS (fun σ => (notT (tstM (getM σ 2)))) (retS (fun σ => usrM cf "_law_no_content" 2 [getM σ 0, getM σ 1])) (nxS)) (seqS (setS 3 (fun σ => tupM [])) (seqS (ifS (fun σ => (tstM (cmpM .GtE (getM σ 1) (ret (.d (.int (0))))))) (setS 3 (fun σ => iteM (tstM (cmpM .Eq (ixM (getM σ 0) (ret (.d (.int (0))))) (ret (.d (.str "pick"))))) (tupM [getM σ 1]) (bltM "tuple" [usrM cf "_law_boxes" 1 [getM σ 1]]))) (nxS)) (retS (fun σ => usrM cf "_law_alike" 2 [usrM cf "ticked" 2 [getM σ 0, getM σ 1], getM σ 3])))))
theorem e__law_boxes_told (cf : Str → List Val → M Val) (σ : MI.Env) (h : MH) : evalB g cf fuel ⟨fd__law_boxes_told.N, fd__law_boxes_told.sc, true⟩ fd__law_boxes_told.body σ h = s__law_boxes_told cf σ h := by kernel_rfl
theorem c__law_boxes_told (d : Nat) (x0 x1 x2 : Val) (h : MH) : callF g (d + 1) "_law_boxes_told" [x0, x1, x2] h = endF false h.length (s__law_boxes_told (callF g d) [some x0, some x1, some x2, none] h) := callF_is (fd := fd__law_boxes_told) (s := s__law_boxes_told) rfl rfl e__law_boxes_told
def s__law_kind_told (cf : Str → List Val → M Val) : MS := seqS (setS 2 (fun σ => usrM cf "_law_answers" 1 [getM σ 0])) (seqS (ifS (fun σ => (notT (tstM (usrM cf "_law_alike" 2 [lstM [usrM cf "is_kind" 1 [getM σ 0], usrM cf "answers_of" 1 [getM σ 0], usrM cf "size_of" 1 [getM σ 0]], lstM [ret (.d (.bl true)), bltM "tuple" [getM σ 2], bltM "len" [getM σ 2]]])))) (retS (fun σ => ret (.d (.bl false)))) (nxS)) (seqS (forS (false, [3]) (fun σ => (frI (getM σ 1))) (seqS (setS 4 (fun σ => usrM cf "_law_is_int" 1 [getM σ 3])) (seqS (setS 5 (fun σ => andM (getM σ 4) (cmp2M .LtE .LtE (ixM (getM σ 2) (ret (.d (.int (0))))) (getM σ 3) (ixM (getM σ 2) (negM (ret (.d (.int (1))))))))) (seqS (setS 6 (fun σ => orM (getM σ 5) (andM (getM σ 4) (cmpM .Eq (getM σ 3) (negM (ret (.d (.int (1))))))))) (seqS (ifS (fun σ => (tstM (cmpM .Eq (ixM (getM σ 0) (ret (.d (.int (0))))) (ret (.d (.str "count")))))) (setS 6 (fun σ => andM (getM σ 4) (cmp2M .LtE .LtE (negM (ret (.d (.int (2))))) (getM σ 3) (ret (.d (.int (99))))))) (ifS (fun σ => (tstM (cmpM .Eq (ixM (getM σ 0) (ret (.d (.int (0))))) (ret (.d (.str "pick")))))) (setS 6 (fun σ => orM (getM σ 6) (andM (getM σ 4) (cmpM .Eq (getM σ 3) (negM (ret (.d (.int (2))))))))) (nxS))) (seqS (ifS (fun σ => (notT (tstM (usrM cf "_law_alike" 2 [lstM [usrM cf "is_answer" 2 [getM σ 0, getM σ 3], usrM cf "is_content" 2 [getM σ 0, getM σ 3]], lstM [getM σ 5, getM σ 6]])))) (retS (fun σ => ret (.d (.bl false)))) (nxS)) (ifS (fun σ => (notT (tstM (usrM cf "_law_boxes_told" 3 [getM σ 0, getM σ 3, getM σ 6])))) (retS (fun σ => ret (.d (.bl false)))) (nxS)))))))) (retS (fun σ => ret (.d (.bl true))))))
theorem e__law_kind_told (cf : Str → List Val → M Val) (σ : MI.Env) (h : MH) : evalB g cf fuel ⟨fd__law_kind_told.N, fd__law_kind_told.sc, true⟩ fd__law_kind_told.body σ h = s__law_kind_told cf σ h := by kernel_rfl
theorem c__law_kind_told (d : Nat) (x0 x1 : Val) (h : MH) : callF g (d + 1) "_law_kind_told" [x0, x1] h = endF false h.length (s__law_kind_told (callF g d) [some x0, some x1, none, none, none, none, none] h) := callF_is (fd := fd__law_kind_told) (s := s__law_kind_told) rfl rfl e__law_kind_told
def s_law (cf : Str → List Val → M Val) : MS := seqS (setS 1 (fun σ => usrM cf "_law_any_kind" 1 [usrM cf "_law_stream" 2 [getM σ 0, ret (.d (.int (0)))]])) (seqS (setS 2 (fun σ => usrM cf "_law_any_kind" 1 [usrM cf "_law_stream" 2 [getM σ 0, ret (.d (.int (1)))]])) (seqS (setS 3 (fun σ => usrM cf "_law_stream" 2 [getM σ 0, ret (.d (.int (2)))])) (seqS (setS 4 (fun σ => usrM cf "_law_things" 1 [getM σ 3])) (seqS (forS (false, [5]) (fun σ => (frI (lstM [getM σ 1, getM σ 2, getM σ 1]))) (ifS (fun σ => (notT (tstM (usrM cf "_law_kind_told" 2 [getM σ 5, getM σ 4])))) (retS (fun σ => ret (.d (.bl false)))) (nxS))) (seqS (forS (false, [6]) (fun σ => (frI (binM .Add (usrM cf "_law_near" 2 [getM σ 1, getM σ 3]) (usrM cf "_law_near" 2 [getM σ 2, usrM cf "_law_stream" 2 [getM σ 0, ret (.d (.int (3)))]])))) (seqS (setS 7 (fun σ => usrM cf "_law_right_kind" 1 [getM σ 6])) (seqS (ifS (fun σ => (notT (tstM (usrM cf "_law_alike" 2 [usrM cf "is_kind" 1 [getM σ 6], getM σ 7])))) (retS (fun σ => ret (.d (.bl false)))) (nxS)) (ifS (fun σ => (andT (notT (tstM (getM σ 7))) (notT (tstM (bltM "all" [comM (rgI (rg1M (ret (.d (.int (6)))))) (itemC (false, [8]) [8] (fun _ => ret true) (fun σ => usrM cf "_law_no_kind" 3 [getM σ 8, getM σ 6, usrM cf "_law_pick" 2 [getM σ 3, getM σ 4]]) σ)]))))) (retS (fun σ => ret (.d (.bl false)))) (nxS))))) (retS (fun σ => ret (.d (.bl true)))))))))
theorem e_law (cf : Str → List Val → M Val) (σ : MI.Env) (h : MH) : evalB g cf fuel ⟨fd_law.N, fd_law.sc, true⟩ fd_law.body σ h = s_law cf σ h := by kernel_rfl
theorem c_law (d : Nat) (x0 : Val) (h : MH) : callF g (d + 1) "law" [x0] h = endF false h.length (s_law (callF g d) [some x0, none, none, none, none, none, none, none, none] h) := callF_is (fd := fd_law) (s := s_law) rfl rfl e_law
end K9
set_option maxRecDepth 100000
namespace K9
open MI PySem
theorem isI_is (x : D) (c : Str) (h : MH) (t : Str) (ht : tyD (.d x) h = some t) (hc : kinds.contains c = true) : isInst g (.d x) c h = some (instB t c) := by
  unfold isInst
  simp only [ht, hc, if_true]
def isT (x : D) : Bool := match x with | .tup _ => true | _ => false
def isS (x : D) : Bool := match x with | .str _ => true | _ => false
def isI (x : D) : Bool := match x with | .int _ => true | _ => false
def isL (x : D) : Bool := match x with | .lst _ => true | _ => false
def isB' (x : D) : Bool := match x with | .bl _ => true | _ => false
theorem is_int (x : D) (h : MH) : isInst g (.d x) "int" h = some (isI x || isB' x) := by cases x <;> kernel_rfl
theorem is_bool (x : D) (h : MH) : isInst g (.d x) "bool" h = some (isB' x) := by cases x <;> kernel_rfl
theorem is_str (x : D) (h : MH) : isInst g (.d x) "str" h = some (isS x) := by cases x <;> kernel_rfl
theorem is_tup (x : D) (h : MH) : isInst g (.d x) "tuple" h = some (isT x) := by cases x <;> kernel_rfl
theorem is_lst (x : D) (h : MH) : isInst g (.d x) "list" h = some (isL x) := by cases x <;> kernel_rfl
theorem truth_bl (b : Bool) (h : MH) : truth (.d (.bl b)) h = some b := rfl
theorem cmp_le (i j : Int) (h : MH) : pCmp .LtE (.d (.int i)) (.d (.int j)) h = some (.d (.bl (decide (i ≤ j)))) := rfl
theorem cmp_lt (i j : Int) (h : MH) : pCmp .Lt (.d (.int i)) (.d (.int j)) h = some (.d (.bl (decide (i < j)))) := rfl
theorem cmp_ge (i j : Int) (h : MH) : pCmp .GtE (.d (.int i)) (.d (.int j)) h = some (.d (.bl (decide (j ≤ i)))) := rfl
theorem cmp_eqI (i j : Int) (h : MH) : pCmp .Eq (.d (.int i)) (.d (.int j)) h = some (.d (.bl (i == j))) := rfl
theorem cmp_neI (i j : Int) (h : MH) : pCmp .NotEq (.d (.int i)) (.d (.int j)) h = some (.d (.bl (!(i == j)))) := rfl
theorem cmp_eqS (i j : Str) (h : MH) : pCmp .Eq (.d (.str i)) (.d (.str j)) h = some (.d (.bl (i == j))) := rfl
theorem cmp_neS (i j : Str) (h : MH) : pCmp .NotEq (.d (.str i)) (.d (.str j)) h = some (.d (.bl (!(i == j)))) := rfl
theorem bin_add (i j : Int) (h : MH) : pBin .Add (.d (.int i)) (.d (.int j)) h = some (.d (.int (i + j))) := rfl
theorem bin_sub (i j : Int) (h : MH) : pBin .Sub (.d (.int i)) (.d (.int j)) h = some (.d (.int (i - j))) := rfl
def wi (x : D) (lo hi : Int) : Bool := match x with
  | .int i => decide (lo ≤ i) && decide (i ≤ hi)
  | _ => false
theorem q_within (d : Nat) (x : D) (lo hi : Int) (h : MH) : callF g (d + 1) "is_within" [.d x, .d (.int lo), .d (.int hi)] h = .ok (.d (.bl (wi x lo hi))) h := by
  rw [c_is_within]
  unfold s_is_within
  cases x with
  | int i => 
    by_cases h1 : lo ≤ i <;> simp [getM, getV, binM, cmpM, cmp2M, cmp3M, MI.notM, negM, MI.andM, MI.orM, iteM, seqL, tupM, lstM, lstN, ixM, partM, cutM, isM, bltM, usrM, rg1M, rg2M, lrgM, trgM, upM, tstM, notT, andT, orT, retS, expS, setS, unpS, ifS, nxS, raiS, seqS, tryS, endF, fin, ofE, bnd, MI.ret, rd, intV, boolV, toDs, gd, bl, is_int, is_bool, is_str, is_tup, is_lst, isT, isS, isI, isL, isB', truth_bl, cmp_le, cmp_lt, cmp_ge, cmp_eqI, cmp_neI, cmp_eqS, cmp_neS, bin_add, bin_sub, h1, wi]
  | _ => simp [getM, getV, binM, cmpM, cmp2M, cmp3M, MI.notM, negM, MI.andM, MI.orM, iteM, seqL, tupM, lstM, lstN, ixM, partM, cutM, isM, bltM, usrM, rg1M, rg2M, lrgM, trgM, upM, tstM, notT, andT, orT, retS, expS, setS, unpS, ifS, nxS, raiS, seqS, tryS, endF, fin, ofE, bnd, MI.ret, rd, intV, boolV, toDs, gd, bl, is_int, is_bool, is_str, is_tup, is_lst, isT, isS, isI, isL, isB', truth_bl, cmp_le, cmp_lt, cmp_ge, cmp_eqI, cmp_neI, cmp_eqS, cmp_neS, bin_add, bin_sub, wi]
theorem atI_nat {α : Type} (xs : List α) (n : Nat) (x : α) (e : xs[n]? = some x) : L2.atI xs (n : Int) = some x := by
  have hl : n < xs.length := (List.getElem?_eq_some_iff.mp e).1
  unfold L2.atI L2.ixN
  rw [if_pos (by omega), if_pos (by omega)]
  simpa using e
theorem atI_lastL {α : Type} (xs : List α) (x : α) (e : xs[xs.length - 1]? = some x) : L2.atI xs (-1) = some x := by
  have hl : xs.length - 1 < xs.length := (List.getElem?_eq_some_iff.mp e).1
  unfold L2.atI L2.ixN
  rw [if_neg (by omega), if_pos (by omega)]
  have : ((-1 : Int) + xs.length).toNat = xs.length - 1 := by omega
  simp only [Option.bind_some, this]
  exact e
theorem ix0 (x : D) (xs : List D) (h : MH) : pIx (.d (.tup (x :: xs))) (.d (.int 0)) h = some (.d x) := by
  show (L2.atI (x :: xs) ((0 : Nat) : Int)).map Val.d = _
  rw [atI_nat _ 0 x rfl]; rfl
theorem ix1 (x y : D) (xs : List D) (h : MH) : pIx (.d (.tup (x :: y :: xs))) (.d (.int 1)) h = some (.d y) := by
  show (L2.atI (x :: y :: xs) ((1 : Nat) : Int)).map Val.d = _
  rw [atI_nat _ 1 y rfl]; rfl
theorem ix2 (x y z : D) (xs : List D) (h : MH) : pIx (.d (.tup (x :: y :: z :: xs))) (.d (.int 2)) h = some (.d z) := by
  show (L2.atI (x :: y :: z :: xs) ((2 : Nat) : Int)).map Val.d = _
  rw [atI_nat _ 2 z rfl]; rfl
theorem len_tup (xs : List D) (h : MH) : pCall "len" [.d (.tup xs)] h = some (.d (.int xs.length)) := rfl
theorem len_lst (xs : List D) (h : MH) : pCall "len" [.d (.lst xs)] h = some (.d (.int xs.length)) := rfl
theorem truth_tup (xs : List D) (h : MH) : truth (.d (.tup xs)) h = some (!xs.isEmpty) := rfl
def isK (x : D) : Bool := match x with
  | .tup [.str s, a] => (s == "pick" && wi a 2 6) || (s == "tick" && wi a 2 4)
  | .tup [.str s, a, b] => s == "count" && wi a 0 98 && (match a with | .int i => wi b (i + 1) 99 | _ => false)
  | _ => false
theorem ne_pt : (("pick" : Str) == ("tick" : Str)) = false := by decide +kernel
theorem ne_pc : (("pick" : Str) == ("count" : Str)) = false := by decide +kernel
theorem ne_tc : (("tick" : Str) == ("count" : Str)) = false := by decide +kernel
theorem ne_tp : (("tick" : Str) == ("pick" : Str)) = false := by decide +kernel
theorem ne_cp : (("count" : Str) == ("pick" : Str)) = false := by decide +kernel
theorem ne_ct : (("count" : Str) == ("tick" : Str)) = false := by decide +kernel
theorem str_cases (s : Str) : s = "pick" ∨ s = "tick" ∨ s = "count" ∨ ((s == "pick") = false ∧ (s == "tick") = false ∧ (s == "count") = false) := by
  by_cases h1 : (s == "pick") = true
  · exact .inl (beq_iff_eq.mp h1)
  · by_cases h2 : (s == "tick") = true
    · exact .inr (.inl (beq_iff_eq.mp h2))
    · by_cases h3 : (s == "count") = true
      · exact .inr (.inr (.inl (beq_iff_eq.mp h3)))
      · exact .inr (.inr (.inr ⟨by simpa using h1, by simpa using h2, by simpa using h3⟩))
theorem lx2 (n : Nat) : ((n : Int) + 1 + 1 + 1 + 1 = 2) = False := eq_false (by omega)
theorem lx3 (n : Nat) : ((n : Int) + 1 + 1 + 1 + 1 = 3) = False := eq_false (by omega)
theorem ly2 (n : Nat) : ((n : Int) + 1 + 1 + 1 + 1 == 2) = false := by simp [getM, getV, binM, cmpM, cmp2M, cmp3M, MI.notM, negM, MI.andM, MI.orM, iteM, seqL, tupM, lstM, lstN, ixM, partM, cutM, isM, bltM, usrM, rg1M, rg2M, lrgM, trgM, upM, tstM, notT, andT, orT, retS, expS, setS, unpS, ifS, nxS, raiS, seqS, tryS, endF, fin, ofE, bnd, MI.ret, rd, intV, boolV, toDs, gd, bl, is_int, is_bool, is_str, is_tup, is_lst, isT, isS, isI, isL, isB', truth_bl, cmp_le, cmp_lt, cmp_ge, cmp_eqI, cmp_neI, cmp_eqS, cmp_neS, bin_add, bin_sub, ix0, ix1, ix2, len_tup, len_lst, truth_tup, q_within, ne_pt, ne_pc, ne_tc, ne_tp, ne_cp, ne_ct]; omega
theorem ly3 (n : Nat) : ((n : Int) + 1 + 1 + 1 + 1 == 3) = false := by simp [getM, getV, binM, cmpM, cmp2M, cmp3M, MI.notM, negM, MI.andM, MI.orM, iteM, seqL, tupM, lstM, lstN, ixM, partM, cutM, isM, bltM, usrM, rg1M, rg2M, lrgM, trgM, upM, tstM, notT, andT, orT, retS, expS, setS, unpS, ifS, nxS, raiS, seqS, tryS, endF, fin, ofE, bnd, MI.ret, rd, intV, boolV, toDs, gd, bl, is_int, is_bool, is_str, is_tup, is_lst, isT, isS, isI, isL, isB', truth_bl, cmp_le, cmp_lt, cmp_ge, cmp_eqI, cmp_neI, cmp_eqS, cmp_neS, bin_add, bin_sub, ix0, ix1, ix2, len_tup, len_lst, truth_tup, q_within, ne_pt, ne_pc, ne_tc, ne_tp, ne_cp, ne_ct]; omega
theorem q_is_kind (d : Nat) (x : D) (h : MH) : callF g (d + 2) "is_kind" [.d x] h = .ok (.d (.bl (isK x))) h := by
  rw [c_is_kind]
  unfold s_is_kind
  cases x with
  | tup xs =>
    cases xs with
    | nil => simp [getM, getV, binM, cmpM, cmp2M, cmp3M, MI.notM, negM, MI.andM, MI.orM, iteM, seqL, tupM, lstM, lstN, ixM, partM, cutM, isM, bltM, usrM, rg1M, rg2M, lrgM, trgM, upM, tstM, notT, andT, orT, retS, expS, setS, unpS, ifS, nxS, raiS, seqS, tryS, endF, fin, ofE, bnd, MI.ret, rd, intV, boolV, toDs, gd, bl, is_int, is_bool, is_str, is_tup, is_lst, isT, isS, isI, isL, isB', truth_bl, cmp_le, cmp_lt, cmp_ge, cmp_eqI, cmp_neI, cmp_eqS, cmp_neS, bin_add, bin_sub, ix0, ix1, ix2, len_tup, len_lst, truth_tup, q_within, ne_pt, ne_pc, ne_tc, ne_tp, ne_cp, ne_ct, lx2, lx3, ly2, ly3, isK]
    | cons a r =>
      cases a with
      | str s =>
        rcases str_cases s with rfl | rfl | rfl | ⟨h1, h2, h3⟩
        · cases r with
          | nil => simp [getM, getV, binM, cmpM, cmp2M, cmp3M, MI.notM, negM, MI.andM, MI.orM, iteM, seqL, tupM, lstM, lstN, ixM, partM, cutM, isM, bltM, usrM, rg1M, rg2M, lrgM, trgM, upM, tstM, notT, andT, orT, retS, expS, setS, unpS, ifS, nxS, raiS, seqS, tryS, endF, fin, ofE, bnd, MI.ret, rd, intV, boolV, toDs, gd, bl, is_int, is_bool, is_str, is_tup, is_lst, isT, isS, isI, isL, isB', truth_bl, cmp_le, cmp_lt, cmp_ge, cmp_eqI, cmp_neI, cmp_eqS, cmp_neS, bin_add, bin_sub, ix0, ix1, ix2, len_tup, len_lst, truth_tup, q_within, ne_pt, ne_pc, ne_tc, ne_tp, ne_cp, ne_ct, lx2, lx3, ly2, ly3, isK]
          | cons a r =>
            cases r with
            | nil => simp [getM, getV, binM, cmpM, cmp2M, cmp3M, MI.notM, negM, MI.andM, MI.orM, iteM, seqL, tupM, lstM, lstN, ixM, partM, cutM, isM, bltM, usrM, rg1M, rg2M, lrgM, trgM, upM, tstM, notT, andT, orT, retS, expS, setS, unpS, ifS, nxS, raiS, seqS, tryS, endF, fin, ofE, bnd, MI.ret, rd, intV, boolV, toDs, gd, bl, is_int, is_bool, is_str, is_tup, is_lst, isT, isS, isI, isL, isB', truth_bl, cmp_le, cmp_lt, cmp_ge, cmp_eqI, cmp_neI, cmp_eqS, cmp_neS, bin_add, bin_sub, ix0, ix1, ix2, len_tup, len_lst, truth_tup, q_within, ne_pt, ne_pc, ne_tc, ne_tp, ne_cp, ne_ct, lx2, lx3, ly2, ly3, isK]
            | cons b r => cases r <;> simp [getM, getV, binM, cmpM, cmp2M, cmp3M, MI.notM, negM, MI.andM, MI.orM, iteM, seqL, tupM, lstM, lstN, ixM, partM, cutM, isM, bltM, usrM, rg1M, rg2M, lrgM, trgM, upM, tstM, notT, andT, orT, retS, expS, setS, unpS, ifS, nxS, raiS, seqS, tryS, endF, fin, ofE, bnd, MI.ret, rd, intV, boolV, toDs, gd, bl, is_int, is_bool, is_str, is_tup, is_lst, isT, isS, isI, isL, isB', truth_bl, cmp_le, cmp_lt, cmp_ge, cmp_eqI, cmp_neI, cmp_eqS, cmp_neS, bin_add, bin_sub, ix0, ix1, ix2, len_tup, len_lst, truth_tup, q_within, ne_pt, ne_pc, ne_tc, ne_tp, ne_cp, ne_ct, lx2, lx3, ly2, ly3, isK]
        · cases r with
          | nil => simp [getM, getV, binM, cmpM, cmp2M, cmp3M, MI.notM, negM, MI.andM, MI.orM, iteM, seqL, tupM, lstM, lstN, ixM, partM, cutM, isM, bltM, usrM, rg1M, rg2M, lrgM, trgM, upM, tstM, notT, andT, orT, retS, expS, setS, unpS, ifS, nxS, raiS, seqS, tryS, endF, fin, ofE, bnd, MI.ret, rd, intV, boolV, toDs, gd, bl, is_int, is_bool, is_str, is_tup, is_lst, isT, isS, isI, isL, isB', truth_bl, cmp_le, cmp_lt, cmp_ge, cmp_eqI, cmp_neI, cmp_eqS, cmp_neS, bin_add, bin_sub, ix0, ix1, ix2, len_tup, len_lst, truth_tup, q_within, ne_pt, ne_pc, ne_tc, ne_tp, ne_cp, ne_ct, lx2, lx3, ly2, ly3, isK]
          | cons a r =>
            cases r with
            | nil => simp [getM, getV, binM, cmpM, cmp2M, cmp3M, MI.notM, negM, MI.andM, MI.orM, iteM, seqL, tupM, lstM, lstN, ixM, partM, cutM, isM, bltM, usrM, rg1M, rg2M, lrgM, trgM, upM, tstM, notT, andT, orT, retS, expS, setS, unpS, ifS, nxS, raiS, seqS, tryS, endF, fin, ofE, bnd, MI.ret, rd, intV, boolV, toDs, gd, bl, is_int, is_bool, is_str, is_tup, is_lst, isT, isS, isI, isL, isB', truth_bl, cmp_le, cmp_lt, cmp_ge, cmp_eqI, cmp_neI, cmp_eqS, cmp_neS, bin_add, bin_sub, ix0, ix1, ix2, len_tup, len_lst, truth_tup, q_within, ne_pt, ne_pc, ne_tc, ne_tp, ne_cp, ne_ct, lx2, lx3, ly2, ly3, isK]
            | cons b r => cases r <;> simp [getM, getV, binM, cmpM, cmp2M, cmp3M, MI.notM, negM, MI.andM, MI.orM, iteM, seqL, tupM, lstM, lstN, ixM, partM, cutM, isM, bltM, usrM, rg1M, rg2M, lrgM, trgM, upM, tstM, notT, andT, orT, retS, expS, setS, unpS, ifS, nxS, raiS, seqS, tryS, endF, fin, ofE, bnd, MI.ret, rd, intV, boolV, toDs, gd, bl, is_int, is_bool, is_str, is_tup, is_lst, isT, isS, isI, isL, isB', truth_bl, cmp_le, cmp_lt, cmp_ge, cmp_eqI, cmp_neI, cmp_eqS, cmp_neS, bin_add, bin_sub, ix0, ix1, ix2, len_tup, len_lst, truth_tup, q_within, ne_pt, ne_pc, ne_tc, ne_tp, ne_cp, ne_ct, lx2, lx3, ly2, ly3, isK]
        · cases r with
          | nil => simp [getM, getV, binM, cmpM, cmp2M, cmp3M, MI.notM, negM, MI.andM, MI.orM, iteM, seqL, tupM, lstM, lstN, ixM, partM, cutM, isM, bltM, usrM, rg1M, rg2M, lrgM, trgM, upM, tstM, notT, andT, orT, retS, expS, setS, unpS, ifS, nxS, raiS, seqS, tryS, endF, fin, ofE, bnd, MI.ret, rd, intV, boolV, toDs, gd, bl, is_int, is_bool, is_str, is_tup, is_lst, isT, isS, isI, isL, isB', truth_bl, cmp_le, cmp_lt, cmp_ge, cmp_eqI, cmp_neI, cmp_eqS, cmp_neS, bin_add, bin_sub, ix0, ix1, ix2, len_tup, len_lst, truth_tup, q_within, ne_pt, ne_pc, ne_tc, ne_tp, ne_cp, ne_ct, lx2, lx3, ly2, ly3, isK]
          | cons a r =>
            cases r with
            | nil => simp [getM, getV, binM, cmpM, cmp2M, cmp3M, MI.notM, negM, MI.andM, MI.orM, iteM, seqL, tupM, lstM, lstN, ixM, partM, cutM, isM, bltM, usrM, rg1M, rg2M, lrgM, trgM, upM, tstM, notT, andT, orT, retS, expS, setS, unpS, ifS, nxS, raiS, seqS, tryS, endF, fin, ofE, bnd, MI.ret, rd, intV, boolV, toDs, gd, bl, is_int, is_bool, is_str, is_tup, is_lst, isT, isS, isI, isL, isB', truth_bl, cmp_le, cmp_lt, cmp_ge, cmp_eqI, cmp_neI, cmp_eqS, cmp_neS, bin_add, bin_sub, ix0, ix1, ix2, len_tup, len_lst, truth_tup, q_within, ne_pt, ne_pc, ne_tc, ne_tp, ne_cp, ne_ct, lx2, lx3, ly2, ly3, isK]
            | cons b r =>
              cases r with
              | nil =>
                cases a with
                | int i => by_cases hw : wi (.int i) 0 98 = true <;> simp [getM, getV, binM, cmpM, cmp2M, cmp3M, MI.notM, negM, MI.andM, MI.orM, iteM, seqL, tupM, lstM, lstN, ixM, partM, cutM, isM, bltM, usrM, rg1M, rg2M, lrgM, trgM, upM, tstM, notT, andT, orT, retS, expS, setS, unpS, ifS, nxS, raiS, seqS, tryS, endF, fin, ofE, bnd, MI.ret, rd, intV, boolV, toDs, gd, bl, is_int, is_bool, is_str, is_tup, is_lst, isT, isS, isI, isL, isB', truth_bl, cmp_le, cmp_lt, cmp_ge, cmp_eqI, cmp_neI, cmp_eqS, cmp_neS, bin_add, bin_sub, ix0, ix1, ix2, len_tup, len_lst, truth_tup, q_within, ne_pt, ne_pc, ne_tc, ne_tp, ne_cp, ne_ct, lx2, lx3, ly2, ly3, isK, hw]
                | _ => simp [getM, getV, binM, cmpM, cmp2M, cmp3M, MI.notM, negM, MI.andM, MI.orM, iteM, seqL, tupM, lstM, lstN, ixM, partM, cutM, isM, bltM, usrM, rg1M, rg2M, lrgM, trgM, upM, tstM, notT, andT, orT, retS, expS, setS, unpS, ifS, nxS, raiS, seqS, tryS, endF, fin, ofE, bnd, MI.ret, rd, intV, boolV, toDs, gd, bl, is_int, is_bool, is_str, is_tup, is_lst, isT, isS, isI, isL, isB', truth_bl, cmp_le, cmp_lt, cmp_ge, cmp_eqI, cmp_neI, cmp_eqS, cmp_neS, bin_add, bin_sub, ix0, ix1, ix2, len_tup, len_lst, truth_tup, q_within, ne_pt, ne_pc, ne_tc, ne_tp, ne_cp, ne_ct, lx2, lx3, ly2, ly3, isK, wi]
              | cons c r => simp [getM, getV, binM, cmpM, cmp2M, cmp3M, MI.notM, negM, MI.andM, MI.orM, iteM, seqL, tupM, lstM, lstN, ixM, partM, cutM, isM, bltM, usrM, rg1M, rg2M, lrgM, trgM, upM, tstM, notT, andT, orT, retS, expS, setS, unpS, ifS, nxS, raiS, seqS, tryS, endF, fin, ofE, bnd, MI.ret, rd, intV, boolV, toDs, gd, bl, is_int, is_bool, is_str, is_tup, is_lst, isT, isS, isI, isL, isB', truth_bl, cmp_le, cmp_lt, cmp_ge, cmp_eqI, cmp_neI, cmp_eqS, cmp_neS, bin_add, bin_sub, ix0, ix1, ix2, len_tup, len_lst, truth_tup, q_within, ne_pt, ne_pc, ne_tc, ne_tp, ne_cp, ne_ct, lx2, lx3, ly2, ly3, isK]
        · cases r with
          | nil => simp [getM, getV, binM, cmpM, cmp2M, cmp3M, MI.notM, negM, MI.andM, MI.orM, iteM, seqL, tupM, lstM, lstN, ixM, partM, cutM, isM, bltM, usrM, rg1M, rg2M, lrgM, trgM, upM, tstM, notT, andT, orT, retS, expS, setS, unpS, ifS, nxS, raiS, seqS, tryS, endF, fin, ofE, bnd, MI.ret, rd, intV, boolV, toDs, gd, bl, is_int, is_bool, is_str, is_tup, is_lst, isT, isS, isI, isL, isB', truth_bl, cmp_le, cmp_lt, cmp_ge, cmp_eqI, cmp_neI, cmp_eqS, cmp_neS, bin_add, bin_sub, ix0, ix1, ix2, len_tup, len_lst, truth_tup, q_within, ne_pt, ne_pc, ne_tc, ne_tp, ne_cp, ne_ct, lx2, lx3, ly2, ly3, isK, h1, h2, h3]
          | cons a r =>
            cases r with
            | nil => simp [getM, getV, binM, cmpM, cmp2M, cmp3M, MI.notM, negM, MI.andM, MI.orM, iteM, seqL, tupM, lstM, lstN, ixM, partM, cutM, isM, bltM, usrM, rg1M, rg2M, lrgM, trgM, upM, tstM, notT, andT, orT, retS, expS, setS, unpS, ifS, nxS, raiS, seqS, tryS, endF, fin, ofE, bnd, MI.ret, rd, intV, boolV, toDs, gd, bl, is_int, is_bool, is_str, is_tup, is_lst, isT, isS, isI, isL, isB', truth_bl, cmp_le, cmp_lt, cmp_ge, cmp_eqI, cmp_neI, cmp_eqS, cmp_neS, bin_add, bin_sub, ix0, ix1, ix2, len_tup, len_lst, truth_tup, q_within, ne_pt, ne_pc, ne_tc, ne_tp, ne_cp, ne_ct, lx2, lx3, ly2, ly3, isK, h1, h2, h3]
            | cons b r => cases r <;> simp [getM, getV, binM, cmpM, cmp2M, cmp3M, MI.notM, negM, MI.andM, MI.orM, iteM, seqL, tupM, lstM, lstN, ixM, partM, cutM, isM, bltM, usrM, rg1M, rg2M, lrgM, trgM, upM, tstM, notT, andT, orT, retS, expS, setS, unpS, ifS, nxS, raiS, seqS, tryS, endF, fin, ofE, bnd, MI.ret, rd, intV, boolV, toDs, gd, bl, is_int, is_bool, is_str, is_tup, is_lst, isT, isS, isI, isL, isB', truth_bl, cmp_le, cmp_lt, cmp_ge, cmp_eqI, cmp_neI, cmp_eqS, cmp_neS, bin_add, bin_sub, ix0, ix1, ix2, len_tup, len_lst, truth_tup, q_within, ne_pt, ne_pc, ne_tc, ne_tp, ne_cp, ne_ct, lx2, lx3, ly2, ly3, isK, h1, h2, h3]
      | _ => simp [getM, getV, binM, cmpM, cmp2M, cmp3M, MI.notM, negM, MI.andM, MI.orM, iteM, seqL, tupM, lstM, lstN, ixM, partM, cutM, isM, bltM, usrM, rg1M, rg2M, lrgM, trgM, upM, tstM, notT, andT, orT, retS, expS, setS, unpS, ifS, nxS, raiS, seqS, tryS, endF, fin, ofE, bnd, MI.ret, rd, intV, boolV, toDs, gd, bl, is_int, is_bool, is_str, is_tup, is_lst, isT, isS, isI, isL, isB', truth_bl, cmp_le, cmp_lt, cmp_ge, cmp_eqI, cmp_neI, cmp_eqS, cmp_neS, bin_add, bin_sub, ix0, ix1, ix2, len_tup, len_lst, truth_tup, q_within, ne_pt, ne_pc, ne_tc, ne_tp, ne_cp, ne_ct, lx2, lx3, ly2, ly3, isK]
  | _ => simp [getM, getV, binM, cmpM, cmp2M, cmp3M, MI.notM, negM, MI.andM, MI.orM, iteM, seqL, tupM, lstM, lstN, ixM, partM, cutM, isM, bltM, usrM, rg1M, rg2M, lrgM, trgM, upM, tstM, notT, andT, orT, retS, expS, setS, unpS, ifS, nxS, raiS, seqS, tryS, endF, fin, ofE, bnd, MI.ret, rd, intV, boolV, toDs, gd, bl, is_int, is_bool, is_str, is_tup, is_lst, isT, isS, isI, isL, isB', truth_bl, cmp_le, cmp_lt, cmp_ge, cmp_eqI, cmp_neI, cmp_eqS, cmp_neS, bin_add, bin_sub, ix0, ix1, ix2, len_tup, len_lst, truth_tup, q_within, ne_pt, ne_pc, ne_tc, ne_tp, ne_cp, ne_ct, lx2, lx3, ly2, ly3, isK]
end K9
set_option maxRecDepth 100000
namespace K9
open MI PySem

inductive Kd : D → Int → Int → Prop
  | p (n : Int) : 2 ≤ n → n ≤ 6 → Kd (.tup [.str "pick", .int n]) 0 (n - 1)
  | t (n : Int) : 2 ≤ n → n ≤ 4 → Kd (.tup [.str "tick", .int n]) 1 (2 ^ n.toNat - 1)
  | c (a b : Int) : 0 ≤ a → a < b → b ≤ 99 → Kd (.tup [.str "count", .int a, .int b]) a b
theorem Kd.isK {x : D} {lo hi : Int} (k : Kd x lo hi) : isK x = true := by
  cases k with
  | p n h1 h2 => simp [getM, getV, binM, cmpM, cmp2M, cmp3M, MI.notM, negM, MI.andM, MI.orM, iteM, seqL, tupM, lstM, lstN, ixM, partM, cutM, isM, bltM, usrM, rg1M, rg2M, lrgM, trgM, upM, tstM, notT, andT, orT, retS, expS, setS, unpS, ifS, nxS, raiS, seqS, tryS, endF, fin, ofE, bnd, MI.ret, rd, intV, boolV, toDs, gd, bl, is_int, is_bool, is_str, is_tup, is_lst, isT, isS, isI, isL, isB', truth_bl, cmp_le, cmp_lt, cmp_ge, cmp_eqI, cmp_neI, cmp_eqS, cmp_neS, bin_add, bin_sub, ix0, ix1, ix2, len_tup, len_lst, truth_tup, q_within, ne_pt, ne_pc, ne_tc, ne_tp, ne_cp, ne_ct, lx2, lx3, ly2, ly3, q_is_kind, K9.isK, wi, h1, h2]
  | t n h1 h2 => simp [getM, getV, binM, cmpM, cmp2M, cmp3M, MI.notM, negM, MI.andM, MI.orM, iteM, seqL, tupM, lstM, lstN, ixM, partM, cutM, isM, bltM, usrM, rg1M, rg2M, lrgM, trgM, upM, tstM, notT, andT, orT, retS, expS, setS, unpS, ifS, nxS, raiS, seqS, tryS, endF, fin, ofE, bnd, MI.ret, rd, intV, boolV, toDs, gd, bl, is_int, is_bool, is_str, is_tup, is_lst, isT, isS, isI, isL, isB', truth_bl, cmp_le, cmp_lt, cmp_ge, cmp_eqI, cmp_neI, cmp_eqS, cmp_neS, bin_add, bin_sub, ix0, ix1, ix2, len_tup, len_lst, truth_tup, q_within, ne_pt, ne_pc, ne_tc, ne_tp, ne_cp, ne_ct, lx2, lx3, ly2, ly3, q_is_kind, K9.isK, wi, h1, h2]
  | c a b h1 h2 h3 => simp [getM, getV, binM, cmpM, cmp2M, cmp3M, MI.notM, negM, MI.andM, MI.orM, iteM, seqL, tupM, lstM, lstN, ixM, partM, cutM, isM, bltM, usrM, rg1M, rg2M, lrgM, trgM, upM, tstM, notT, andT, orT, retS, expS, setS, unpS, ifS, nxS, raiS, seqS, tryS, endF, fin, ofE, bnd, MI.ret, rd, intV, boolV, toDs, gd, bl, is_int, is_bool, is_str, is_tup, is_lst, isT, isS, isI, isL, isB', truth_bl, cmp_le, cmp_lt, cmp_ge, cmp_eqI, cmp_neI, cmp_eqS, cmp_neS, bin_add, bin_sub, ix0, ix1, ix2, len_tup, len_lst, truth_tup, q_within, ne_pt, ne_pc, ne_tc, ne_tp, ne_cp, ne_ct, lx2, lx3, ly2, ly3, q_is_kind, K9.isK, wi, h1, h3]; omega
theorem shl1 (n : Int) (h1 : 0 ≤ n) (h2 : n ≤ 1000000) (h : MH) : pBin .LShift (.d (.int 1)) (.d (.int n)) h = some (.d (.int (2 ^ n.toNat))) := by
  show gd (decide (0 ≤ n) && decide (n ≤ 1000000) && decide ((1 : Int).natAbs < 2 ^ 64)) (Val.d (.int (1 * 2 ^ n.toNat))) = _
  rw [decide_eq_true h1, decide_eq_true h2, Int.one_mul]; rfl
theorem q_ends (d : Nat) {x : D} {lo hi : Int} (k : Kd x lo hi) (h : MH) : callF g (d + 3) "_ends" [.d x] h = .ok (.d (.tup [.int lo, .int hi])) h := by
  rw [c__ends]
  unfold s__ends
  have hk := k.isK
  cases k with
  | p n h1 h2 => simp [getM, getV, binM, cmpM, cmp2M, cmp3M, MI.notM, negM, MI.andM, MI.orM, iteM, seqL, tupM, lstM, lstN, ixM, partM, cutM, isM, bltM, usrM, rg1M, rg2M, lrgM, trgM, upM, tstM, notT, andT, orT, retS, expS, setS, unpS, ifS, nxS, raiS, seqS, tryS, endF, fin, ofE, bnd, MI.ret, rd, intV, boolV, toDs, gd, bl, is_int, is_bool, is_str, is_tup, is_lst, isT, isS, isI, isL, isB', truth_bl, cmp_le, cmp_lt, cmp_ge, cmp_eqI, cmp_neI, cmp_eqS, cmp_neS, bin_add, bin_sub, ix0, ix1, ix2, len_tup, len_lst, truth_tup, q_within, ne_pt, ne_pc, ne_tc, ne_tp, ne_cp, ne_ct, lx2, lx3, ly2, ly3, q_is_kind, hk]
  | t n h1 h2 => simp [getM, getV, binM, cmpM, cmp2M, cmp3M, MI.notM, negM, MI.andM, MI.orM, iteM, seqL, tupM, lstM, lstN, ixM, partM, cutM, isM, bltM, usrM, rg1M, rg2M, lrgM, trgM, upM, tstM, notT, andT, orT, retS, expS, setS, unpS, ifS, nxS, raiS, seqS, tryS, endF, fin, ofE, bnd, MI.ret, rd, intV, boolV, toDs, gd, bl, is_int, is_bool, is_str, is_tup, is_lst, isT, isS, isI, isL, isB', truth_bl, cmp_le, cmp_lt, cmp_ge, cmp_eqI, cmp_neI, cmp_eqS, cmp_neS, bin_add, bin_sub, ix0, ix1, ix2, len_tup, len_lst, truth_tup, q_within, ne_pt, ne_pc, ne_tc, ne_tp, ne_cp, ne_ct, lx2, lx3, ly2, ly3, q_is_kind, hk, shl1 n (by omega) (by omega)]
  | c a b h1 h2 h3 => simp [getM, getV, binM, cmpM, cmp2M, cmp3M, MI.notM, negM, MI.andM, MI.orM, iteM, seqL, tupM, lstM, lstN, ixM, partM, cutM, isM, bltM, usrM, rg1M, rg2M, lrgM, trgM, upM, tstM, notT, andT, orT, retS, expS, setS, unpS, ifS, nxS, raiS, seqS, tryS, endF, fin, ofE, bnd, MI.ret, rd, intV, boolV, toDs, gd, bl, is_int, is_bool, is_str, is_tup, is_lst, isT, isS, isI, isL, isB', truth_bl, cmp_le, cmp_lt, cmp_ge, cmp_eqI, cmp_neI, cmp_eqS, cmp_neS, bin_add, bin_sub, ix0, ix1, ix2, len_tup, len_lst, truth_tup, q_within, ne_pt, ne_pc, ne_tc, ne_tp, ne_cp, ne_ct, lx2, lx3, ly2, ly3, q_is_kind, hk]
theorem q_ends_bad (d : Nat) {x : D} (hk : isK x = false) (h : MH) : callF g (d + 3) "_ends" [.d x] h = .exc ⟨"BadKind", []⟩ h := by
  rw [c__ends]
  unfold s__ends
  simp [getM, getV, binM, cmpM, cmp2M, cmp3M, MI.notM, negM, MI.andM, MI.orM, iteM, seqL, tupM, lstM, lstN, ixM, partM, cutM, isM, bltM, usrM, rg1M, rg2M, lrgM, trgM, upM, tstM, notT, andT, orT, retS, expS, setS, unpS, ifS, nxS, raiS, seqS, tryS, endF, fin, ofE, bnd, MI.ret, rd, intV, boolV, toDs, gd, bl, is_int, is_bool, is_str, is_tup, is_lst, isT, isS, isI, isL, isB', truth_bl, cmp_le, cmp_lt, cmp_ge, cmp_eqI, cmp_neI, cmp_eqS, cmp_neS, bin_add, bin_sub, ix0, ix1, ix2, len_tup, len_lst, truth_tup, q_within, ne_pt, ne_pc, ne_tc, ne_tp, ne_cp, ne_ct, lx2, lx3, ly2, ly3, q_is_kind, hk]
theorem bind2 (i j : Nat) (a b : D) (σ : MI.Env) : bindS (true, [i, j]) (.tup [a, b]) σ = some ((σ.set i (some (.d a))).set j (some (.d b))) := rfl
theorem q_is_answer (d : Nat) {x : D} {lo hi : Int} (k : Kd x lo hi) (y : D) (h : MH) : callF g (d + 4) "is_answer" [.d x, .d y] h = .ok (.d (.bl (wi y lo hi))) h := by
  rw [c_is_answer]
  unfold s_is_answer
  simp [getM, getV, binM, cmpM, cmp2M, cmp3M, MI.notM, negM, MI.andM, MI.orM, iteM, seqL, tupM, lstM, lstN, ixM, partM, cutM, isM, bltM, usrM, rg1M, rg2M, lrgM, trgM, upM, tstM, notT, andT, orT, retS, expS, setS, unpS, ifS, nxS, raiS, seqS, tryS, endF, fin, ofE, bnd, MI.ret, rd, intV, boolV, toDs, gd, bl, is_int, is_bool, is_str, is_tup, is_lst, isT, isS, isI, isL, isB', truth_bl, cmp_le, cmp_lt, cmp_ge, cmp_eqI, cmp_neI, cmp_eqS, cmp_neS, bin_add, bin_sub, ix0, ix1, ix2, len_tup, len_lst, truth_tup, q_within, ne_pt, ne_pc, ne_tc, ne_tp, ne_cp, ne_ct, lx2, lx3, ly2, ly3, q_is_kind, bind2, q_ends d k]
theorem q_is_answer_bad (d : Nat) {x : D} (hk : isK x = false) (y : D) (h : MH) : callF g (d + 4) "is_answer" [.d x, .d y] h = .exc ⟨"BadKind", []⟩ h := by
  rw [c_is_answer]
  unfold s_is_answer
  simp [getM, getV, binM, cmpM, cmp2M, cmp3M, MI.notM, negM, MI.andM, MI.orM, iteM, seqL, tupM, lstM, lstN, ixM, partM, cutM, isM, bltM, usrM, rg1M, rg2M, lrgM, trgM, upM, tstM, notT, andT, orT, retS, expS, setS, unpS, ifS, nxS, raiS, seqS, tryS, endF, fin, ofE, bnd, MI.ret, rd, intV, boolV, toDs, gd, bl, is_int, is_bool, is_str, is_tup, is_lst, isT, isS, isI, isL, isB', truth_bl, cmp_le, cmp_lt, cmp_ge, cmp_eqI, cmp_neI, cmp_eqS, cmp_neS, bin_add, bin_sub, ix0, ix1, ix2, len_tup, len_lst, truth_tup, q_within, ne_pt, ne_pc, ne_tc, ne_tp, ne_cp, ne_ct, lx2, lx3, ly2, ly3, q_is_kind, bind2, q_ends_bad d hk]
def cont (x : D) (hi : Int) (y : D) : Bool := match x with
  | .tup (.str s :: _) => if s == "tick" then wi y (-1) (-1) || wi y 1 hi else if s == "count" then wi y (-2) 99 else wi y (-2) hi
  | _ => false
theorem q_is_content (d : Nat) {x : D} {lo hi : Int} (k : Kd x lo hi) (y : D) (h : MH) : callF g (d + 4) "is_content" [.d x, .d y] h = .ok (.d (.bl (cont x hi y))) h := by
  rw [c_is_content]
  unfold s_is_content
  have e := q_ends d k h
  cases k with
  | p n h1 h2 => simp [getM, getV, binM, cmpM, cmp2M, cmp3M, MI.notM, negM, MI.andM, MI.orM, iteM, seqL, tupM, lstM, lstN, ixM, partM, cutM, isM, bltM, usrM, rg1M, rg2M, lrgM, trgM, upM, tstM, notT, andT, orT, retS, expS, setS, unpS, ifS, nxS, raiS, seqS, tryS, endF, fin, ofE, bnd, MI.ret, rd, intV, boolV, toDs, gd, bl, is_int, is_bool, is_str, is_tup, is_lst, isT, isS, isI, isL, isB', truth_bl, cmp_le, cmp_lt, cmp_ge, cmp_eqI, cmp_neI, cmp_eqS, cmp_neS, bin_add, bin_sub, ix0, ix1, ix2, len_tup, len_lst, truth_tup, q_within, ne_pt, ne_pc, ne_tc, ne_tp, ne_cp, ne_ct, lx2, lx3, ly2, ly3, q_is_kind, bind2, e, cont]
  | t n h1 h2 => by_cases hw : wi y (-1) (-1) = true <;> simp [getM, getV, binM, cmpM, cmp2M, cmp3M, MI.notM, negM, MI.andM, MI.orM, iteM, seqL, tupM, lstM, lstN, ixM, partM, cutM, isM, bltM, usrM, rg1M, rg2M, lrgM, trgM, upM, tstM, notT, andT, orT, retS, expS, setS, unpS, ifS, nxS, raiS, seqS, tryS, endF, fin, ofE, bnd, MI.ret, rd, intV, boolV, toDs, gd, bl, is_int, is_bool, is_str, is_tup, is_lst, isT, isS, isI, isL, isB', truth_bl, cmp_le, cmp_lt, cmp_ge, cmp_eqI, cmp_neI, cmp_eqS, cmp_neS, bin_add, bin_sub, ix0, ix1, ix2, len_tup, len_lst, truth_tup, q_within, ne_pt, ne_pc, ne_tc, ne_tp, ne_cp, ne_ct, lx2, lx3, ly2, ly3, q_is_kind, bind2, e, cont, hw]
  | c a b h1 h2 h3 => simp [getM, getV, binM, cmpM, cmp2M, cmp3M, MI.notM, negM, MI.andM, MI.orM, iteM, seqL, tupM, lstM, lstN, ixM, partM, cutM, isM, bltM, usrM, rg1M, rg2M, lrgM, trgM, upM, tstM, notT, andT, orT, retS, expS, setS, unpS, ifS, nxS, raiS, seqS, tryS, endF, fin, ofE, bnd, MI.ret, rd, intV, boolV, toDs, gd, bl, is_int, is_bool, is_str, is_tup, is_lst, isT, isS, isI, isL, isB', truth_bl, cmp_le, cmp_lt, cmp_ge, cmp_eqI, cmp_neI, cmp_eqS, cmp_neS, bin_add, bin_sub, ix0, ix1, ix2, len_tup, len_lst, truth_tup, q_within, ne_pt, ne_pc, ne_tc, ne_tp, ne_cp, ne_ct, lx2, lx3, ly2, ly3, q_is_kind, bind2, e, cont]
theorem q_is_content_bad (d : Nat) {x : D} (hk : isK x = false) (y : D) (h : MH) : callF g (d + 4) "is_content" [.d x, .d y] h = .exc ⟨"BadKind", []⟩ h := by
  rw [c_is_content]
  unfold s_is_content
  simp [getM, getV, binM, cmpM, cmp2M, cmp3M, MI.notM, negM, MI.andM, MI.orM, iteM, seqL, tupM, lstM, lstN, ixM, partM, cutM, isM, bltM, usrM, rg1M, rg2M, lrgM, trgM, upM, tstM, notT, andT, orT, retS, expS, setS, unpS, ifS, nxS, raiS, seqS, tryS, endF, fin, ofE, bnd, MI.ret, rd, intV, boolV, toDs, gd, bl, is_int, is_bool, is_str, is_tup, is_lst, isT, isS, isI, isL, isB', truth_bl, cmp_le, cmp_lt, cmp_ge, cmp_eqI, cmp_neI, cmp_eqS, cmp_neS, bin_add, bin_sub, ix0, ix1, ix2, len_tup, len_lst, truth_tup, q_within, ne_pt, ne_pc, ne_tc, ne_tp, ne_cp, ne_ct, lx2, lx3, ly2, ly3, q_is_kind, bind2, q_ends_bad d hk]
theorem okRg_of {a b : Int} (h1 : -1000 ≤ a) (h2 : a ≤ 1000) (h3 : -1000 ≤ b) (h4 : b ≤ 1000) : okRg a b = true := by
  unfold okRg
  simp only [Bool.and_eq_true, decide_eq_true_eq]
  omega
theorem Kd.ends {x : D} {lo hi : Int} (k : Kd x lo hi) : 0 ≤ lo ∧ lo < hi ∧ hi ≤ 99 := by
  cases k with
  | p n h1 h2 => omega
  | t n h1 h2 =>
    have : n = 2 ∨ n = 3 ∨ n = 4 := by omega
    rcases this with rfl | rfl | rfl <;> decide
  | c a b h1 h2 h3 => omega
theorem q_answers (d : Nat) {x : D} {lo hi : Int} (k : Kd x lo hi) (h : MH) : callF g (d + 4) "answers_of" [.d x] h = .ok (.d (.tup (rgD lo (hi + 1)))) h := by
  rw [c_answers_of]
  unfold s_answers_of
  have := k.ends
  simp [getM, getV, binM, cmpM, cmp2M, cmp3M, MI.notM, negM, MI.andM, MI.orM, iteM, seqL, tupM, lstM, lstN, ixM, partM, cutM, isM, bltM, usrM, rg1M, rg2M, lrgM, trgM, upM, tstM, notT, andT, orT, retS, expS, setS, unpS, ifS, nxS, raiS, seqS, tryS, endF, fin, ofE, bnd, MI.ret, rd, intV, boolV, toDs, gd, bl, is_int, is_bool, is_str, is_tup, is_lst, isT, isS, isI, isL, isB', truth_bl, cmp_le, cmp_lt, cmp_ge, cmp_eqI, cmp_neI, cmp_eqS, cmp_neS, bin_add, bin_sub, ix0, ix1, ix2, len_tup, len_lst, truth_tup, q_within, ne_pt, ne_pc, ne_tc, ne_tp, ne_cp, ne_ct, lx2, lx3, ly2, ly3, q_is_kind, bind2, q_ends d k, okRg_of (a := lo) (b := hi + 1) (by omega) (by omega) (by omega) (by omega)]
theorem q_answers_bad (d : Nat) {x : D} (hk : isK x = false) (h : MH) : callF g (d + 4) "answers_of" [.d x] h = .exc ⟨"BadKind", []⟩ h := by
  rw [c_answers_of]
  unfold s_answers_of
  simp [getM, getV, binM, cmpM, cmp2M, cmp3M, MI.notM, negM, MI.andM, MI.orM, iteM, seqL, tupM, lstM, lstN, ixM, partM, cutM, isM, bltM, usrM, rg1M, rg2M, lrgM, trgM, upM, tstM, notT, andT, orT, retS, expS, setS, unpS, ifS, nxS, raiS, seqS, tryS, endF, fin, ofE, bnd, MI.ret, rd, intV, boolV, toDs, gd, bl, is_int, is_bool, is_str, is_tup, is_lst, isT, isS, isI, isL, isB', truth_bl, cmp_le, cmp_lt, cmp_ge, cmp_eqI, cmp_neI, cmp_eqS, cmp_neS, bin_add, bin_sub, ix0, ix1, ix2, len_tup, len_lst, truth_tup, q_within, ne_pt, ne_pc, ne_tc, ne_tp, ne_cp, ne_ct, lx2, lx3, ly2, ly3, q_is_kind, bind2, q_ends_bad d hk]
theorem q_size (d : Nat) {x : D} {lo hi : Int} (k : Kd x lo hi) (h : MH) : callF g (d + 4) "size_of" [.d x] h = .ok (.d (.int (hi - lo + 1))) h := by
  rw [c_size_of]
  unfold s_size_of
  simp [getM, getV, binM, cmpM, cmp2M, cmp3M, MI.notM, negM, MI.andM, MI.orM, iteM, seqL, tupM, lstM, lstN, ixM, partM, cutM, isM, bltM, usrM, rg1M, rg2M, lrgM, trgM, upM, tstM, notT, andT, orT, retS, expS, setS, unpS, ifS, nxS, raiS, seqS, tryS, endF, fin, ofE, bnd, MI.ret, rd, intV, boolV, toDs, gd, bl, is_int, is_bool, is_str, is_tup, is_lst, isT, isS, isI, isL, isB', truth_bl, cmp_le, cmp_lt, cmp_ge, cmp_eqI, cmp_neI, cmp_eqS, cmp_neS, bin_add, bin_sub, ix0, ix1, ix2, len_tup, len_lst, truth_tup, q_within, ne_pt, ne_pc, ne_tc, ne_tp, ne_cp, ne_ct, lx2, lx3, ly2, ly3, q_is_kind, bind2, q_ends d k]
theorem q_size_bad (d : Nat) {x : D} (hk : isK x = false) (h : MH) : callF g (d + 4) "size_of" [.d x] h = .exc ⟨"BadKind", []⟩ h := by
  rw [c_size_of]
  unfold s_size_of
  simp [getM, getV, binM, cmpM, cmp2M, cmp3M, MI.notM, negM, MI.andM, MI.orM, iteM, seqL, tupM, lstM, lstN, ixM, partM, cutM, isM, bltM, usrM, rg1M, rg2M, lrgM, trgM, upM, tstM, notT, andT, orT, retS, expS, setS, unpS, ifS, nxS, raiS, seqS, tryS, endF, fin, ofE, bnd, MI.ret, rd, intV, boolV, toDs, gd, bl, is_int, is_bool, is_str, is_tup, is_lst, isT, isS, isI, isL, isB', truth_bl, cmp_le, cmp_lt, cmp_ge, cmp_eqI, cmp_neI, cmp_eqS, cmp_neS, bin_add, bin_sub, ix0, ix1, ix2, len_tup, len_lst, truth_tup, q_within, ne_pt, ne_pc, ne_tc, ne_tp, ne_cp, ne_ct, lx2, lx3, ly2, ly3, q_is_kind, bind2, q_ends_bad d hk]
theorem q_slips_bad (d : Nat) {x : D} (hk : isK x = false) (y z : D) (h : MH) : callF g (d + 5) "slips_between" [.d x, .d y, .d z] h = .exc ⟨"BadKind", []⟩ h := by
  rw [c_slips_between]
  unfold s_slips_between
  simp [getM, getV, binM, cmpM, cmp2M, cmp3M, MI.notM, negM, MI.andM, MI.orM, iteM, seqL, tupM, lstM, lstN, ixM, partM, cutM, isM, bltM, usrM, rg1M, rg2M, lrgM, trgM, upM, tstM, notT, andT, orT, retS, expS, setS, unpS, ifS, nxS, raiS, seqS, tryS, endF, fin, ofE, bnd, MI.ret, rd, intV, boolV, toDs, gd, bl, is_int, is_bool, is_str, is_tup, is_lst, isT, isS, isI, isL, isB', truth_bl, cmp_le, cmp_lt, cmp_ge, cmp_eqI, cmp_neI, cmp_eqS, cmp_neS, bin_add, bin_sub, ix0, ix1, ix2, len_tup, len_lst, truth_tup, q_within, ne_pt, ne_pc, ne_tc, ne_tp, ne_cp, ne_ct, lx2, lx3, ly2, ly3, q_is_kind, bind2, q_is_answer_bad d hk]
theorem q_ticked_bad (d : Nat) {x : D} (hk : isK x = false) (y : D) (h : MH) : callF g (d + 5) "ticked" [.d x, .d y] h = .exc ⟨"BadKind", []⟩ h := by
  rw [c_ticked]
  unfold s_ticked
  simp [getM, getV, binM, cmpM, cmp2M, cmp3M, MI.notM, negM, MI.andM, MI.orM, iteM, seqL, tupM, lstM, lstN, ixM, partM, cutM, isM, bltM, usrM, rg1M, rg2M, lrgM, trgM, upM, tstM, notT, andT, orT, retS, expS, setS, unpS, ifS, nxS, raiS, seqS, tryS, endF, fin, ofE, bnd, MI.ret, rd, intV, boolV, toDs, gd, bl, is_int, is_bool, is_str, is_tup, is_lst, isT, isS, isI, isL, isB', truth_bl, cmp_le, cmp_lt, cmp_ge, cmp_eqI, cmp_neI, cmp_eqS, cmp_neS, bin_add, bin_sub, ix0, ix1, ix2, len_tup, len_lst, truth_tup, q_within, ne_pt, ne_pc, ne_tc, ne_tp, ne_cp, ne_ct, lx2, lx3, ly2, ly3, q_is_kind, bind2, hk]
theorem q_ticked_count (d : Nat) {a b : Int} (k : Kd (.tup [.str "count", .int a, .int b]) a b) (y : D) (h : MH) : callF g (d + 5) "ticked" [.d (.tup [.str "count", .int a, .int b]), .d y] h = .exc ⟨"BadKind", []⟩ h := by
  rw [c_ticked]
  unfold s_ticked
  simp [getM, getV, binM, cmpM, cmp2M, cmp3M, MI.notM, negM, MI.andM, MI.orM, iteM, seqL, tupM, lstM, lstN, ixM, partM, cutM, isM, bltM, usrM, rg1M, rg2M, lrgM, trgM, upM, tstM, notT, andT, orT, retS, expS, setS, unpS, ifS, nxS, raiS, seqS, tryS, endF, fin, ofE, bnd, MI.ret, rd, intV, boolV, toDs, gd, bl, is_int, is_bool, is_str, is_tup, is_lst, isT, isS, isI, isL, isB', truth_bl, cmp_le, cmp_lt, cmp_ge, cmp_eqI, cmp_neI, cmp_eqS, cmp_neS, bin_add, bin_sub, ix0, ix1, ix2, len_tup, len_lst, truth_tup, q_within, ne_pt, ne_pc, ne_tc, ne_tp, ne_cp, ne_ct, lx2, lx3, ly2, ly3, q_is_kind, bind2, k.isK]
end K9
set_option maxRecDepth 100000
namespace K9
open MI PySem
theorem ek1 (h : MH) : isInst g (.exc ⟨"BadKind", []⟩) "LeafError" h = some true := by kernel_rfl
theorem ek2 (h : MH) : isInst g (.exc ⟨"BadKind", []⟩) "ValueError" h = some true := by kernel_rfl
theorem ek3 (h : MH) : isInst g (.exc ⟨"BadKind", []⟩) "BadAnswer" h = some false := by kernel_rfl
theorem ek4 (h : MH) : isInst g (.exc ⟨"BadKind", []⟩) "BadContent" h = some false := by kernel_rfl
theorem ek5 (h : MH) : isInst g (.exc ⟨"BadKind", []⟩) "BadKind" h = some true := by kernel_rfl
theorem ec1 (h : MH) : isInst g (.exc ⟨"BadContent", []⟩) "LeafError" h = some true := by kernel_rfl
theorem ec2 (h : MH) : isInst g (.exc ⟨"BadContent", []⟩) "BadContent" h = some true := by kernel_rfl
theorem ec3 (h : MH) : isInst g (.exc ⟨"BadContent", []⟩) "BadKind" h = some false := by kernel_rfl
theorem ec4 (h : MH) : isInst g (.exc ⟨"BadContent", []⟩) "BadAnswer" h = some false := by kernel_rfl
theorem ie1 (x : D) : isExc (.d x) = false := rfl
theorem q_no_kind_bad (d : Nat) {x : D} (hk : isK x = false) (y : D) (w : Int) (h1 : 0 ≤ w) (h2 : w ≤ 5) (h : MH) : callF g (d + 6) "_law_no_kind" [.d (.int w), .d x, .d y] h = .ok (.d (.bl true)) h := by
  rw [c__law_no_kind]
  unfold s__law_no_kind
  have : w = 0 ∨ w = 1 ∨ w = 2 ∨ w = 3 ∨ w = 4 ∨ w = 5 := by omega
  rcases this with rfl | rfl | rfl | rfl | rfl | rfl
  · simp [getM, getV, binM, cmpM, cmp2M, cmp3M, MI.notM, negM, MI.andM, MI.orM, iteM, seqL, tupM, lstM, lstN, ixM, partM, cutM, isM, bltM, usrM, rg1M, rg2M, lrgM, trgM, upM, tstM, notT, andT, orT, retS, expS, setS, unpS, ifS, nxS, raiS, seqS, tryS, endF, fin, ofE, bnd, MI.ret, rd, intV, boolV, toDs, gd, bl, is_int, is_bool, is_str, is_tup, is_lst, isT, isS, isI, isL, isB', truth_bl, cmp_le, cmp_lt, cmp_ge, cmp_eqI, cmp_neI, cmp_eqS, cmp_neS, bin_add, bin_sub, ix0, ix1, ix2, len_tup, len_lst, truth_tup, q_within, ne_pt, ne_pc, ne_tc, ne_tp, ne_cp, ne_ct, lx2, lx3, ly2, ly3, q_is_kind, bind2, ek1, ek2, ek3, ek4, ek5, ec1, ec2, ec3, ec4, ie1, q_answers_bad (d + 1) hk]
  · simp [getM, getV, binM, cmpM, cmp2M, cmp3M, MI.notM, negM, MI.andM, MI.orM, iteM, seqL, tupM, lstM, lstN, ixM, partM, cutM, isM, bltM, usrM, rg1M, rg2M, lrgM, trgM, upM, tstM, notT, andT, orT, retS, expS, setS, unpS, ifS, nxS, raiS, seqS, tryS, endF, fin, ofE, bnd, MI.ret, rd, intV, boolV, toDs, gd, bl, is_int, is_bool, is_str, is_tup, is_lst, isT, isS, isI, isL, isB', truth_bl, cmp_le, cmp_lt, cmp_ge, cmp_eqI, cmp_neI, cmp_eqS, cmp_neS, bin_add, bin_sub, ix0, ix1, ix2, len_tup, len_lst, truth_tup, q_within, ne_pt, ne_pc, ne_tc, ne_tp, ne_cp, ne_ct, lx2, lx3, ly2, ly3, q_is_kind, bind2, ek1, ek2, ek3, ek4, ek5, ec1, ec2, ec3, ec4, ie1, q_size_bad (d + 1) hk]
  · simp [getM, getV, binM, cmpM, cmp2M, cmp3M, MI.notM, negM, MI.andM, MI.orM, iteM, seqL, tupM, lstM, lstN, ixM, partM, cutM, isM, bltM, usrM, rg1M, rg2M, lrgM, trgM, upM, tstM, notT, andT, orT, retS, expS, setS, unpS, ifS, nxS, raiS, seqS, tryS, endF, fin, ofE, bnd, MI.ret, rd, intV, boolV, toDs, gd, bl, is_int, is_bool, is_str, is_tup, is_lst, isT, isS, isI, isL, isB', truth_bl, cmp_le, cmp_lt, cmp_ge, cmp_eqI, cmp_neI, cmp_eqS, cmp_neS, bin_add, bin_sub, ix0, ix1, ix2, len_tup, len_lst, truth_tup, q_within, ne_pt, ne_pc, ne_tc, ne_tp, ne_cp, ne_ct, lx2, lx3, ly2, ly3, q_is_kind, bind2, ek1, ek2, ek3, ek4, ek5, ec1, ec2, ec3, ec4, ie1, q_is_answer_bad (d + 1) hk]
  · simp [getM, getV, binM, cmpM, cmp2M, cmp3M, MI.notM, negM, MI.andM, MI.orM, iteM, seqL, tupM, lstM, lstN, ixM, partM, cutM, isM, bltM, usrM, rg1M, rg2M, lrgM, trgM, upM, tstM, notT, andT, orT, retS, expS, setS, unpS, ifS, nxS, raiS, seqS, tryS, endF, fin, ofE, bnd, MI.ret, rd, intV, boolV, toDs, gd, bl, is_int, is_bool, is_str, is_tup, is_lst, isT, isS, isI, isL, isB', truth_bl, cmp_le, cmp_lt, cmp_ge, cmp_eqI, cmp_neI, cmp_eqS, cmp_neS, bin_add, bin_sub, ix0, ix1, ix2, len_tup, len_lst, truth_tup, q_within, ne_pt, ne_pc, ne_tc, ne_tp, ne_cp, ne_ct, lx2, lx3, ly2, ly3, q_is_kind, bind2, ek1, ek2, ek3, ek4, ek5, ec1, ec2, ec3, ec4, ie1, q_is_content_bad (d + 1) hk]
  · simp [getM, getV, binM, cmpM, cmp2M, cmp3M, MI.notM, negM, MI.andM, MI.orM, iteM, seqL, tupM, lstM, lstN, ixM, partM, cutM, isM, bltM, usrM, rg1M, rg2M, lrgM, trgM, upM, tstM, notT, andT, orT, retS, expS, setS, unpS, ifS, nxS, raiS, seqS, tryS, endF, fin, ofE, bnd, MI.ret, rd, intV, boolV, toDs, gd, bl, is_int, is_bool, is_str, is_tup, is_lst, isT, isS, isI, isL, isB', truth_bl, cmp_le, cmp_lt, cmp_ge, cmp_eqI, cmp_neI, cmp_eqS, cmp_neS, bin_add, bin_sub, ix0, ix1, ix2, len_tup, len_lst, truth_tup, q_within, ne_pt, ne_pc, ne_tc, ne_tp, ne_cp, ne_ct, lx2, lx3, ly2, ly3, q_is_kind, bind2, ek1, ek2, ek3, ek4, ek5, ec1, ec2, ec3, ec4, ie1, q_ticked_bad d hk]
  · simp [getM, getV, binM, cmpM, cmp2M, cmp3M, MI.notM, negM, MI.andM, MI.orM, iteM, seqL, tupM, lstM, lstN, ixM, partM, cutM, isM, bltM, usrM, rg1M, rg2M, lrgM, trgM, upM, tstM, notT, andT, orT, retS, expS, setS, unpS, ifS, nxS, raiS, seqS, tryS, endF, fin, ofE, bnd, MI.ret, rd, intV, boolV, toDs, gd, bl, is_int, is_bool, is_str, is_tup, is_lst, isT, isS, isI, isL, isB', truth_bl, cmp_le, cmp_lt, cmp_ge, cmp_eqI, cmp_neI, cmp_eqS, cmp_neS, bin_add, bin_sub, ix0, ix1, ix2, len_tup, len_lst, truth_tup, q_within, ne_pt, ne_pc, ne_tc, ne_tp, ne_cp, ne_ct, lx2, lx3, ly2, ly3, q_is_kind, bind2, ek1, ek2, ek3, ek4, ek5, ec1, ec2, ec3, ec4, ie1, q_slips_bad d hk]
theorem q_no_kind_count (d : Nat) {a b : Int} (k : Kd (.tup [.str "count", .int a, .int b]) a b) (y : D) (h : MH) : callF g (d + 6) "_law_no_kind" [.d (.int 4), .d (.tup [.str "count", .int a, .int b]), .d y] h = .ok (.d (.bl true)) h := by
  rw [c__law_no_kind]
  unfold s__law_no_kind
  simp [getM, getV, binM, cmpM, cmp2M, cmp3M, MI.notM, negM, MI.andM, MI.orM, iteM, seqL, tupM, lstM, lstN, ixM, partM, cutM, isM, bltM, usrM, rg1M, rg2M, lrgM, trgM, upM, tstM, notT, andT, orT, retS, expS, setS, unpS, ifS, nxS, raiS, seqS, tryS, endF, fin, ofE, bnd, MI.ret, rd, intV, boolV, toDs, gd, bl, is_int, is_bool, is_str, is_tup, is_lst, isT, isS, isI, isL, isB', truth_bl, cmp_le, cmp_lt, cmp_ge, cmp_eqI, cmp_neI, cmp_eqS, cmp_neS, bin_add, bin_sub, ix0, ix1, ix2, len_tup, len_lst, truth_tup, q_within, ne_pt, ne_pc, ne_tc, ne_tp, ne_cp, ne_ct, lx2, lx3, ly2, ly3, q_is_kind, bind2, ek1, ek2, ek3, ek4, ek5, ec1, ec2, ec3, ec4, ie1, q_ticked_count d k]
/-! alike -/
theorem is_non (a : D) (h : MH) : pCmp .Is (.d a) (.d .non) h = some (.d (.bl (match a with | .non => true | _ => false))) := rfl
theorem is_tf (a : D) (b : Bool) (h : MH) : pCmp .Is (.d a) (.d (.bl b)) h = some (.d (.bl (isB b a))) := rfl
theorem isB_bl (b c : Bool) : isB b (.bl c) = (c == b) := rfl
theorem q_is_int (d : Nat) (x : D) (h : MH) : callF g (d + 1) "_law_is_int" [.d x] h = .ok (.d (.bl (isI x))) h := by
  rw [c__law_is_int]
  unfold s__law_is_int
  cases x <;> simp [getM, getV, binM, cmpM, cmp2M, cmp3M, MI.notM, negM, MI.andM, MI.orM, iteM, seqL, tupM, lstM, lstN, ixM, partM, cutM, isM, bltM, usrM, rg1M, rg2M, lrgM, trgM, upM, tstM, notT, andT, orT, retS, expS, setS, unpS, ifS, nxS, raiS, seqS, tryS, endF, fin, ofE, bnd, MI.ret, rd, intV, boolV, toDs, gd, bl, is_int, is_bool, is_str, is_tup, is_lst, isT, isS, isI, isL, isB', truth_bl, cmp_le, cmp_lt, cmp_ge, cmp_eqI, cmp_neI, cmp_eqS, cmp_neS, bin_add, bin_sub, ix0, ix1, ix2, len_tup, len_lst, truth_tup, q_within, ne_pt, ne_pc, ne_tc, ne_tp, ne_cp, ne_ct, lx2, lx3, ly2, ly3, q_is_kind, bind2, ek1, ek2, ek3, ek4, ek5, ec1, ec2, ec3, ec4, ie1, is_non, is_tf, isB_bl]
theorem q_alike_bl (d : Nat) (b : Bool) (h : MH) : callF g (d + 2) "_law_alike" [.d (.bl b), .d (.bl b)] h = .ok (.d (.bl true)) h := by
  rw [c__law_alike]
  unfold s__law_alike
  cases b <;> simp [getM, getV, binM, cmpM, cmp2M, cmp3M, MI.notM, negM, MI.andM, MI.orM, iteM, seqL, tupM, lstM, lstN, ixM, partM, cutM, isM, bltM, usrM, rg1M, rg2M, lrgM, trgM, upM, tstM, notT, andT, orT, retS, expS, setS, unpS, ifS, nxS, raiS, seqS, tryS, endF, fin, ofE, bnd, MI.ret, rd, intV, boolV, toDs, gd, bl, is_int, is_bool, is_str, is_tup, is_lst, isT, isS, isI, isL, isB', truth_bl, cmp_le, cmp_lt, cmp_ge, cmp_eqI, cmp_neI, cmp_eqS, cmp_neS, bin_add, bin_sub, ix0, ix1, ix2, len_tup, len_lst, truth_tup, q_within, ne_pt, ne_pc, ne_tc, ne_tp, ne_cp, ne_ct, lx2, lx3, ly2, ly3, q_is_kind, bind2, ek1, ek2, ek3, ek4, ek5, ec1, ec2, ec3, ec4, ie1, is_non, is_tf, isB_bl, q_is_int]
theorem q_alike_int (d : Nat) (i : Int) (h : MH) : callF g (d + 2) "_law_alike" [.d (.int i), .d (.int i)] h = .ok (.d (.bl true)) h := by
  rw [c__law_alike]
  unfold s__law_alike
  simp [getM, getV, binM, cmpM, cmp2M, cmp3M, MI.notM, negM, MI.andM, MI.orM, iteM, seqL, tupM, lstM, lstN, ixM, partM, cutM, isM, bltM, usrM, rg1M, rg2M, lrgM, trgM, upM, tstM, notT, andT, orT, retS, expS, setS, unpS, ifS, nxS, raiS, seqS, tryS, endF, fin, ofE, bnd, MI.ret, rd, intV, boolV, toDs, gd, bl, is_int, is_bool, is_str, is_tup, is_lst, isT, isS, isI, isL, isB', truth_bl, cmp_le, cmp_lt, cmp_ge, cmp_eqI, cmp_neI, cmp_eqS, cmp_neS, bin_add, bin_sub, ix0, ix1, ix2, len_tup, len_lst, truth_tup, q_within, ne_pt, ne_pc, ne_tc, ne_tp, ne_cp, ne_ct, lx2, lx3, ly2, ly3, q_is_kind, bind2, ek1, ek2, ek3, ek4, ek5, ec1, ec2, ec3, ec4, ie1, is_non, is_tf, isB_bl, q_is_int, isB]
theorem alike_loop {d : Nat} {a b : Val} : ∀ {l : List D} (hl : ∀ x ∈ l, ∀ h, callF g d "_law_alike" [.d x, .d x] h = .ok (.d (.bl true)) h) (h : MH),
    loopC (itemC (true, [2, 3]) [2, 3] (fun _ => MI.ret true) (fun σ => usrM (callF g d) "_law_alike" 2 [getM σ 2, getM σ 3]) [some a, some b, none, none]) (zipD l l) h = .ok (l.map fun _ => .bl true) h
  | [], _, h => rfl
  | x :: l, hl, h => by
    have ih := alike_loop (a := a) (b := b) (l := l) (fun y hy => hl y (List.mem_cons_of_mem _ hy)) h
    have hx := hl x List.mem_cons_self h
    show loopC _ (.tup [x, x] :: zipD l l) h = _
    unfold loopC
    unfold itemC
    simp only [wipeE, bind2, List.set_cons_succ, List.set_cons_zero, bnd, MI.ret, if_true, usrM, seqL, getM, getV, List.getElem?_cons_succ, List.getElem?_cons_zero, List.length_cons, List.length_nil, hx, rd, oneD, Option.map_some]
    have e : ∀ (A : M (Option D)), True := fun _ => trivial
    unfold itemC at ih
    simp only [wipeE, bind2, List.set_cons_succ, List.set_cons_zero, bnd, MI.ret, if_true, usrM, seqL, getM, getV, List.getElem?_cons_succ, List.getElem?_cons_zero, List.length_cons, List.length_nil, rd, oneD, Option.map_some] at ih
    simp only [ih]
    rfl
theorem all_true (l : List D) (h : MH) : pCall "all" [.d (.lst (l.map fun _ => D.bl true))] h = some (.d (.bl true)) := by
  show (blsD (l.map fun _ => D.bl true)).map (fun l => MI.bl (l.all id)) = _
  have : blsD (l.map fun _ => D.bl true) = some (l.map fun _ => true) := by
    induction l with
    | nil => rfl
    | cons x l ih => simp [getM, getV, binM, cmpM, cmp2M, cmp3M, MI.notM, negM, MI.andM, MI.orM, iteM, seqL, tupM, lstM, lstN, ixM, partM, cutM, isM, bltM, usrM, rg1M, rg2M, lrgM, trgM, upM, tstM, notT, andT, orT, retS, expS, setS, unpS, ifS, nxS, raiS, seqS, tryS, endF, fin, ofE, bnd, MI.ret, rd, intV, boolV, toDs, gd, bl, is_int, is_bool, is_str, is_tup, is_lst, isT, isS, isI, isL, isB', truth_bl, cmp_le, cmp_lt, cmp_ge, cmp_eqI, cmp_neI, cmp_eqS, cmp_neS, bin_add, bin_sub, ix0, ix1, ix2, len_tup, len_lst, truth_tup, q_within, ne_pt, ne_pc, ne_tc, ne_tp, ne_cp, ne_ct, lx2, lx3, ly2, ly3, q_is_kind, bind2, ek1, ek2, ek3, ek4, ek5, ec1, ec2, ec3, ec4, ie1, is_non, is_tf, isB_bl, q_is_int, blsD, ih]
  rw [this]
  have : (l.map fun _ => true).all id = true := by simp [getM, getV, binM, cmpM, cmp2M, cmp3M, MI.notM, negM, MI.andM, MI.orM, iteM, seqL, tupM, lstM, lstN, ixM, partM, cutM, isM, bltM, usrM, rg1M, rg2M, lrgM, trgM, upM, tstM, notT, andT, orT, retS, expS, setS, unpS, ifS, nxS, raiS, seqS, tryS, endF, fin, ofE, bnd, MI.ret, rd, intV, boolV, toDs, gd, bl, is_int, is_bool, is_str, is_tup, is_lst, isT, isS, isI, isL, isB', truth_bl, cmp_le, cmp_lt, cmp_ge, cmp_eqI, cmp_neI, cmp_eqS, cmp_neS, bin_add, bin_sub, ix0, ix1, ix2, len_tup, len_lst, truth_tup, q_within, ne_pt, ne_pc, ne_tc, ne_tp, ne_cp, ne_ct, lx2, lx3, ly2, ly3, q_is_kind, bind2, ek1, ek2, ek3, ek4, ek5, ec1, ec2, ec3, ec4, ie1, is_non, is_tf, isB_bl, q_is_int]
  simp [getM, getV, binM, cmpM, cmp2M, cmp3M, MI.notM, negM, MI.andM, MI.orM, iteM, seqL, tupM, lstM, lstN, ixM, partM, cutM, isM, bltM, usrM, rg1M, rg2M, lrgM, trgM, upM, tstM, notT, andT, orT, retS, expS, setS, unpS, ifS, nxS, raiS, seqS, tryS, endF, fin, ofE, bnd, MI.ret, rd, intV, boolV, toDs, gd, bl, is_int, is_bool, is_str, is_tup, is_lst, isT, isS, isI, isL, isB', truth_bl, cmp_le, cmp_lt, cmp_ge, cmp_eqI, cmp_neI, cmp_eqS, cmp_neS, bin_add, bin_sub, ix0, ix1, ix2, len_tup, len_lst, truth_tup, q_within, ne_pt, ne_pc, ne_tc, ne_tp, ne_cp, ne_ct, lx2, lx3, ly2, ly3, q_is_kind, bind2, ek1, ek2, ek3, ek4, ek5, ec1, ec2, ec3, ec4, ie1, is_non, is_tf, isB_bl, q_is_int, this, MI.bl]
theorem zipD_self_len (l : List D) : (zipD l l).length = l.length := by
  induction l with
  | nil => rfl
  | cons x l ih => simp [getM, getV, binM, cmpM, cmp2M, cmp3M, MI.notM, negM, MI.andM, MI.orM, iteM, seqL, tupM, lstM, lstN, ixM, partM, cutM, isM, bltM, usrM, rg1M, rg2M, lrgM, trgM, upM, tstM, notT, andT, orT, retS, expS, setS, unpS, ifS, nxS, raiS, seqS, tryS, endF, fin, ofE, bnd, MI.ret, rd, intV, boolV, toDs, gd, bl, is_int, is_bool, is_str, is_tup, is_lst, isT, isS, isI, isL, isB', truth_bl, cmp_le, cmp_lt, cmp_ge, cmp_eqI, cmp_neI, cmp_eqS, cmp_neS, bin_add, bin_sub, ix0, ix1, ix2, len_tup, len_lst, truth_tup, q_within, ne_pt, ne_pc, ne_tc, ne_tp, ne_cp, ne_ct, lx2, lx3, ly2, ly3, q_is_kind, bind2, ek1, ek2, ek3, ek4, ek5, ec1, ec2, ec3, ec4, ie1, is_non, is_tf, isB_bl, q_is_int, zipD, ih]
theorem alike_com {d : Nat} {a b : Val} {l : List D} (hz : ∀ h, zipI [MI.ret a, MI.ret b] h = .ok (zipD l l) h) (hn : l.length ≤ 16777216) (hl : ∀ x ∈ l, ∀ h, callF g d "_law_alike" [.d x, .d x] h = .ok (.d (.bl true)) h) (h : MH) :
    comM (zipI [MI.ret a, MI.ret b]) (itemC (true, [2, 3]) [2, 3] (fun _ => MI.ret true) (fun σ => usrM (callF g d) "_law_alike" 2 [getM σ 2, getM σ 3]) [some a, some b, none, none]) h = .ok (.d (.lst (l.map fun _ => D.bl true))) h := by
  unfold comM
  unfold bnd
  rw [hz]
  simp only [rd, zipD_self_len, gd, decide_eq_true hn, if_true]
  unfold noexc
  rw [alike_loop hl]
  rfl
theorem getM_c (v : Val) (σ : MI.Env) : getM (some v :: σ) 0 = MI.ret v := rfl
theorem getM_s (o : Option Val) (σ : MI.Env) (i : Nat) : getM (o :: σ) (i + 1) = getM σ i := rfl
theorem q_alike_lst (d : Nat) {l : List D} (hn : l.length ≤ 16777216) (hl : ∀ x ∈ l, ∀ h, callF g (d + 2) "_law_alike" [.d x, .d x] h = .ok (.d (.bl true)) h) (h : MH) : callF g (d + 3) "_law_alike" [.d (.lst l), .d (.lst l)] h = .ok (.d (.bl true)) h := by
  rw [c__law_alike]
  unfold s__law_alike
  have e := alike_com (d := d + 2) (a := .d (.lst l)) (b := .d (.lst l)) (fun h => rfl) hn hl
  have e1 : getM [some (Val.d (.lst l)), some (Val.d (.lst l)), none, none] 0 = MI.ret (.d (.lst l)) := rfl
  have e2 : getM [some (Val.d (.lst l)), some (Val.d (.lst l)), none, none] 1 = MI.ret (.d (.lst l)) := rfl
  simp [getV, binM, cmpM, cmp2M, cmp3M, MI.notM, negM, MI.andM, MI.orM, iteM, seqL, tupM, lstM, lstN, ixM, partM, cutM, isM, bltM, rg1M, rg2M, lrgM, trgM, upM, tstM, notT, andT, orT, retS, expS, setS, unpS, ifS, nxS, raiS, seqS, tryS, endF, fin, ofE, bnd, MI.ret, rd, intV, boolV, toDs, gd, bl, is_int, is_bool, is_str, is_tup, is_lst, isT, isS, isI, isL, isB', truth_bl, cmp_le, cmp_lt, cmp_ge, cmp_eqI, cmp_neI, cmp_eqS, cmp_neS, bin_add, bin_sub, ix0, ix1, ix2, len_tup, len_lst, truth_tup, q_within, ne_pt, ne_pc, ne_tc, ne_tp, ne_cp, ne_ct, lx2, lx3, ly2, ly3, q_is_kind, bind2, ek1, ek2, ek3, ek4, ek5, ec1, ec2, ec3, ec4, ie1, is_non, is_tf, isB_bl, q_is_int, isB, e1, e2, e, all_true]
theorem q_alike_tup (d : Nat) {l : List D} (hn : l.length ≤ 16777216) (hl : ∀ x ∈ l, ∀ h, callF g (d + 2) "_law_alike" [.d x, .d x] h = .ok (.d (.bl true)) h) (h : MH) : callF g (d + 3) "_law_alike" [.d (.tup l), .d (.tup l)] h = .ok (.d (.bl true)) h := by
  rw [c__law_alike]
  unfold s__law_alike
  have e := alike_com (d := d + 2) (a := .d (.tup l)) (b := .d (.tup l)) (fun h => rfl) hn hl
  have e1 : getM [some (Val.d (.tup l)), some (Val.d (.tup l)), none, none] 0 = MI.ret (.d (.tup l)) := rfl
  have e2 : getM [some (Val.d (.tup l)), some (Val.d (.tup l)), none, none] 1 = MI.ret (.d (.tup l)) := rfl
  simp [getV, binM, cmpM, cmp2M, cmp3M, MI.notM, negM, MI.andM, MI.orM, iteM, seqL, tupM, lstM, lstN, ixM, partM, cutM, isM, bltM, rg1M, rg2M, lrgM, trgM, upM, tstM, notT, andT, orT, retS, expS, setS, unpS, ifS, nxS, raiS, seqS, tryS, endF, fin, ofE, bnd, MI.ret, rd, intV, boolV, toDs, gd, bl, is_int, is_bool, is_str, is_tup, is_lst, isT, isS, isI, isL, isB', truth_bl, cmp_le, cmp_lt, cmp_ge, cmp_eqI, cmp_neI, cmp_eqS, cmp_neS, bin_add, bin_sub, ix0, ix1, ix2, len_tup, len_lst, truth_tup, q_within, ne_pt, ne_pc, ne_tc, ne_tp, ne_cp, ne_ct, lx2, lx3, ly2, ly3, q_is_kind, bind2, ek1, ek2, ek3, ek4, ek5, ec1, ec2, ec3, ec4, ie1, is_non, is_tf, isB_bl, q_is_int, isB, e1, e2, e, all_true]
end K9
set_option maxRecDepth 100000
namespace K9
open MI PySem
def bx (i : Int) : List D := (rgD 0 4).filter fun x => match x with | .int b => Builtin.bitAnd (i / 2 ^ b.toNat) 1 == 1 | _ => false
theorem rgD_int {a b : Int} {x : D} (h : x ∈ rgD a b) : ∃ i, x = .int i := by
  unfold rgD at h
  obtain ⟨i, _, rfl⟩ := List.mem_map.mp h
  exact ⟨_, rfl⟩
theorem bx_int {i : Int} {x : D} (h : x ∈ bx i) : ∃ i, x = .int i := rgD_int (List.mem_filter.mp h).1
theorem bx_len (i : Int) : (bx i).length ≤ 16777216 := Nat.le_trans (List.length_filter_le _ _) (by decide)
theorem rgD_len (a b : Int) : (rgD a b).length = (b - a).toNat := by unfold rgD; simp [getM, getV, binM, cmpM, cmp2M, cmp3M, MI.notM, negM, MI.andM, MI.orM, iteM, seqL, tupM, lstM, lstN, ixM, partM, cutM, isM, bltM, usrM, rg1M, rg2M, lrgM, trgM, upM, tstM, notT, andT, orT, retS, expS, setS, unpS, ifS, nxS, raiS, seqS, tryS, endF, fin, ofE, bnd, MI.ret, rd, intV, boolV, toDs, gd, bl, is_int, is_bool, is_str, is_tup, is_lst, isT, isS, isI, isL, isB', truth_bl, cmp_le, cmp_lt, cmp_ge, cmp_eqI, cmp_neI, cmp_eqS, cmp_neS, bin_add, bin_sub, ix0, ix1, ix2, len_tup, len_lst, truth_tup, q_within, ne_pt, ne_pc, ne_tc, ne_tp, ne_cp, ne_ct, lx2, lx3, ly2, ly3, q_is_kind, bind2, ek1, ek2, ek3, ek4, ek5, ec1, ec2, ec3, ec4, ie1, is_non, is_tf, isB_bl, q_is_int]
theorem q_boxes (d : Nat) (i : Int) (h1 : 1 ≤ i) (h2 : i ≤ 15) (h : MH) : callF g (d + 1) "_boxes" [.d (.int i)] h = .ok (.d (.tup (bx i))) h := by
  rw [c__boxes]
  suffices e : ∀ cf, s__boxes cf [some (.d (.int i)), none] h = .rt (.d (.tup (bx i))) h by simp [getM, getV, binM, cmpM, cmp2M, cmp3M, MI.notM, negM, MI.andM, MI.orM, iteM, seqL, tupM, lstM, lstN, ixM, partM, cutM, isM, bltM, usrM, rg1M, rg2M, lrgM, trgM, upM, tstM, notT, andT, orT, retS, expS, setS, unpS, ifS, nxS, raiS, seqS, tryS, endF, fin, ofE, bnd, MI.ret, rd, intV, boolV, toDs, gd, bl, is_int, is_bool, is_str, is_tup, is_lst, isT, isS, isI, isL, isB', truth_bl, cmp_le, cmp_lt, cmp_ge, cmp_eqI, cmp_neI, cmp_eqS, cmp_neS, bin_add, bin_sub, ix0, ix1, ix2, len_tup, len_lst, truth_tup, q_within, ne_pt, ne_pc, ne_tc, ne_tp, ne_cp, ne_ct, lx2, lx3, ly2, ly3, q_is_kind, bind2, ek1, ek2, ek3, ek4, ek5, ec1, ec2, ec3, ec4, ie1, is_non, is_tf, isB_bl, q_is_int, e]
  intro cf
  have : i = 1 ∨ i = 2 ∨ i = 3 ∨ i = 4 ∨ i = 5 ∨ i = 6 ∨ i = 7 ∨ i = 8 ∨ i = 9 ∨ i = 10 ∨ i = 11 ∨ i = 12 ∨ i = 13 ∨ i = 14 ∨ i = 15 := by omega
  rcases this with rfl | rfl | rfl | rfl | rfl | rfl | rfl | rfl | rfl | rfl | rfl | rfl | rfl | rfl | rfl <;> kernel_rfl
theorem q_law_boxes (d : Nat) (i : Int) (h1 : 1 ≤ i) (h2 : i ≤ 15) (h : MH) : callF g (d + 1) "_law_boxes" [.d (.int i)] h = .ok (.d (.lst (bx i))) h := by
  rw [c__law_boxes]
  suffices e : ∀ cf, s__law_boxes cf [some (.d (.int i)), none] h = .rt (.d (.lst (bx i))) h by simp [getM, getV, binM, cmpM, cmp2M, cmp3M, MI.notM, negM, MI.andM, MI.orM, iteM, seqL, tupM, lstM, lstN, ixM, partM, cutM, isM, bltM, usrM, rg1M, rg2M, lrgM, trgM, upM, tstM, notT, andT, orT, retS, expS, setS, unpS, ifS, nxS, raiS, seqS, tryS, endF, fin, ofE, bnd, MI.ret, rd, intV, boolV, toDs, gd, bl, is_int, is_bool, is_str, is_tup, is_lst, isT, isS, isI, isL, isB', truth_bl, cmp_le, cmp_lt, cmp_ge, cmp_eqI, cmp_neI, cmp_eqS, cmp_neS, bin_add, bin_sub, ix0, ix1, ix2, len_tup, len_lst, truth_tup, q_within, ne_pt, ne_pc, ne_tc, ne_tp, ne_cp, ne_ct, lx2, lx3, ly2, ly3, q_is_kind, bind2, ek1, ek2, ek3, ek4, ek5, ec1, ec2, ec3, ec4, ie1, is_non, is_tf, isB_bl, q_is_int, e]
  intro cf
  have : i = 1 ∨ i = 2 ∨ i = 3 ∨ i = 4 ∨ i = 5 ∨ i = 6 ∨ i = 7 ∨ i = 8 ∨ i = 9 ∨ i = 10 ∨ i = 11 ∨ i = 12 ∨ i = 13 ∨ i = 14 ∨ i = 15 := by omega
  rcases this with rfl | rfl | rfl | rfl | rfl | rfl | rfl | rfl | rfl | rfl | rfl | rfl | rfl | rfl | rfl <;> kernel_rfl
theorem q_alike_ints (d : Nat) {l : List D} (hn : l.length ≤ 16777216) (hi : ∀ x ∈ l, ∃ i, x = D.int i) (h : MH) : callF g (d + 3) "_law_alike" [.d (.tup l), .d (.tup l)] h = .ok (.d (.bl true)) h :=
  q_alike_tup d hn (fun x hx h => by obtain ⟨i, rfl⟩ := hi x hx; exact q_alike_int d i h) h
theorem wi_true {y : D} {lo hi : Int} (h : wi y lo hi = true) : ∃ i, y = .int i ∧ lo ≤ i ∧ i ≤ hi := by
  cases y with
  | int i =>
    have h : (decide (lo ≤ i) && decide (i ≤ hi)) = true := h
    simp [getM, getV, binM, cmpM, cmp2M, cmp3M, MI.notM, negM, MI.andM, MI.orM, iteM, seqL, tupM, lstM, lstN, ixM, partM, cutM, isM, bltM, usrM, rg1M, rg2M, lrgM, trgM, upM, tstM, notT, andT, orT, retS, expS, setS, unpS, ifS, nxS, raiS, seqS, tryS, endF, fin, ofE, bnd, MI.ret, rd, intV, boolV, toDs, gd, bl, is_int, is_bool, is_str, is_tup, is_lst, isT, isS, isI, isL, isB', truth_bl, cmp_le, cmp_lt, cmp_ge, cmp_eqI, cmp_neI, cmp_eqS, cmp_neS, bin_add, bin_sub, ix0, ix1, ix2, len_tup, len_lst, truth_tup, q_within, ne_pt, ne_pc, ne_tc, ne_tp, ne_cp, ne_ct, lx2, lx3, ly2, ly3, q_is_kind, bind2, ek1, ek2, ek3, ek4, ek5, ec1, ec2, ec3, ec4, ie1, is_non, is_tf, isB_bl, q_is_int] at h
    exact ⟨i, rfl, h.1, h.2⟩
  | _ => cases h
theorem q_ticked_no (d : Nat) {x : D} {lo hi : Int} (k : Kd x lo hi) {y : D} (hx : ∀ a b, x ≠ .tup [.str "count", .int a, .int b]) (hc : cont x hi y = false) (h : MH) : callF g (d + 5) "ticked" [.d x, .d y] h = .exc ⟨"BadContent", []⟩ h := by
  rw [c_ticked]
  unfold s_ticked
  have e := q_is_content d k y h
  rw [hc] at e
  have hk := k.isK
  cases k with
  | p n h1 h2 => simp [getM, getV, binM, cmpM, cmp2M, cmp3M, MI.notM, negM, MI.andM, MI.orM, iteM, seqL, tupM, lstM, lstN, ixM, partM, cutM, isM, bltM, usrM, rg1M, rg2M, lrgM, trgM, upM, tstM, notT, andT, orT, retS, expS, setS, unpS, ifS, nxS, raiS, seqS, tryS, endF, fin, ofE, bnd, MI.ret, rd, intV, boolV, toDs, gd, bl, is_int, is_bool, is_str, is_tup, is_lst, isT, isS, isI, isL, isB', truth_bl, cmp_le, cmp_lt, cmp_ge, cmp_eqI, cmp_neI, cmp_eqS, cmp_neS, bin_add, bin_sub, ix0, ix1, ix2, len_tup, len_lst, truth_tup, q_within, ne_pt, ne_pc, ne_tc, ne_tp, ne_cp, ne_ct, lx2, lx3, ly2, ly3, q_is_kind, bind2, ek1, ek2, ek3, ek4, ek5, ec1, ec2, ec3, ec4, ie1, is_non, is_tf, isB_bl, q_is_int, hk, e]
  | t n h1 h2 => simp [getM, getV, binM, cmpM, cmp2M, cmp3M, MI.notM, negM, MI.andM, MI.orM, iteM, seqL, tupM, lstM, lstN, ixM, partM, cutM, isM, bltM, usrM, rg1M, rg2M, lrgM, trgM, upM, tstM, notT, andT, orT, retS, expS, setS, unpS, ifS, nxS, raiS, seqS, tryS, endF, fin, ofE, bnd, MI.ret, rd, intV, boolV, toDs, gd, bl, is_int, is_bool, is_str, is_tup, is_lst, isT, isS, isI, isL, isB', truth_bl, cmp_le, cmp_lt, cmp_ge, cmp_eqI, cmp_neI, cmp_eqS, cmp_neS, bin_add, bin_sub, ix0, ix1, ix2, len_tup, len_lst, truth_tup, q_within, ne_pt, ne_pc, ne_tc, ne_tp, ne_cp, ne_ct, lx2, lx3, ly2, ly3, q_is_kind, bind2, ek1, ek2, ek3, ek4, ek5, ec1, ec2, ec3, ec4, ie1, is_non, is_tf, isB_bl, q_is_int, hk, e]
  | c a b h1 h2 h3 => exact absurd rfl (hx _ _)
theorem q_no_content (d : Nat) {x : D} {lo hi : Int} (k : Kd x lo hi) {y : D} (hx : ∀ a b, x ≠ .tup [.str "count", .int a, .int b]) (hc : cont x hi y = false) (h : MH) : callF g (d + 6) "_law_no_content" [.d x, .d y] h = .ok (.d (.bl true)) h := by
  rw [c__law_no_content]
  unfold s__law_no_content
  simp [getM, getV, binM, cmpM, cmp2M, cmp3M, MI.notM, negM, MI.andM, MI.orM, iteM, seqL, tupM, lstM, lstN, ixM, partM, cutM, isM, bltM, usrM, rg1M, rg2M, lrgM, trgM, upM, tstM, notT, andT, orT, retS, expS, setS, unpS, ifS, nxS, raiS, seqS, tryS, endF, fin, ofE, bnd, MI.ret, rd, intV, boolV, toDs, gd, bl, is_int, is_bool, is_str, is_tup, is_lst, isT, isS, isI, isL, isB', truth_bl, cmp_le, cmp_lt, cmp_ge, cmp_eqI, cmp_neI, cmp_eqS, cmp_neS, bin_add, bin_sub, ix0, ix1, ix2, len_tup, len_lst, truth_tup, q_within, ne_pt, ne_pc, ne_tc, ne_tp, ne_cp, ne_ct, lx2, lx3, ly2, ly3, q_is_kind, bind2, ek1, ek2, ek3, ek4, ek5, ec1, ec2, ec3, ec4, ie1, is_non, is_tf, isB_bl, q_is_int, q_ticked_no d k hx hc]
theorem q_ticked_p (d : Nat) (n : Int) (h1 : 2 ≤ n) (h2 : n ≤ 6) (i : Int) (h3 : -2 ≤ i) (h4 : i ≤ n - 1) (h : MH) : callF g (d + 5) "ticked" [.d (.tup [.str "pick", .int n]), .d (.int i)] h = .ok (.d (.tup (if i < 0 then [] else [.int i]))) h := by
  rw [c_ticked]
  unfold s_ticked
  have k := Kd.p n h1 h2
  have e := q_is_content d k (.int i) h
  have hc : cont (.tup [.str "pick", .int n]) (n - 1) (.int i) = true := by simp [getM, getV, binM, cmpM, cmp2M, cmp3M, MI.notM, negM, MI.andM, MI.orM, iteM, seqL, tupM, lstM, lstN, ixM, partM, cutM, isM, bltM, usrM, rg1M, rg2M, lrgM, trgM, upM, tstM, notT, andT, orT, retS, expS, setS, unpS, ifS, nxS, raiS, seqS, tryS, endF, fin, ofE, bnd, MI.ret, rd, intV, boolV, toDs, gd, bl, is_int, is_bool, is_str, is_tup, is_lst, isT, isS, isI, isL, isB', truth_bl, cmp_le, cmp_lt, cmp_ge, cmp_eqI, cmp_neI, cmp_eqS, cmp_neS, bin_add, bin_sub, ix0, ix1, ix2, len_tup, len_lst, truth_tup, q_within, ne_pt, ne_pc, ne_tc, ne_tp, ne_cp, ne_ct, lx2, lx3, ly2, ly3, q_is_kind, bind2, ek1, ek2, ek3, ek4, ek5, ec1, ec2, ec3, ec4, ie1, is_non, is_tf, isB_bl, q_is_int, cont, wi, h3, h4]
  rw [hc] at e
  by_cases hi : i < 0 <;> simp [getM, getV, binM, cmpM, cmp2M, cmp3M, MI.notM, negM, MI.andM, MI.orM, iteM, seqL, tupM, lstM, lstN, ixM, partM, cutM, isM, bltM, usrM, rg1M, rg2M, lrgM, trgM, upM, tstM, notT, andT, orT, retS, expS, setS, unpS, ifS, nxS, raiS, seqS, tryS, endF, fin, ofE, bnd, MI.ret, rd, intV, boolV, toDs, gd, bl, is_int, is_bool, is_str, is_tup, is_lst, isT, isS, isI, isL, isB', truth_bl, cmp_le, cmp_lt, cmp_ge, cmp_eqI, cmp_neI, cmp_eqS, cmp_neS, bin_add, bin_sub, ix0, ix1, ix2, len_tup, len_lst, truth_tup, q_within, ne_pt, ne_pc, ne_tc, ne_tp, ne_cp, ne_ct, lx2, lx3, ly2, ly3, q_is_kind, bind2, ek1, ek2, ek3, ek4, ek5, ec1, ec2, ec3, ec4, ie1, is_non, is_tf, isB_bl, q_is_int, k.isK, e, hi]
theorem q_ticked_t (d : Nat) (n : Int) (h1 : 2 ≤ n) (h2 : n ≤ 4) (i : Int) (h3 : i = -1 ∨ (1 ≤ i ∧ i ≤ 2 ^ n.toNat - 1)) (h : MH) : callF g (d + 5) "ticked" [.d (.tup [.str "tick", .int n]), .d (.int i)] h = .ok (.d (.tup (if i < 0 then [] else bx i))) h := by
  rw [c_ticked]
  unfold s_ticked
  have k := Kd.t n h1 h2
  have e := q_is_content d k (.int i) h
  have hc : cont (.tup [.str "tick", .int n]) (2 ^ n.toNat - 1) (.int i) = true := by
    rcases h3 with rfl | ⟨h3, h4⟩
    · simp [getM, getV, binM, cmpM, cmp2M, cmp3M, MI.notM, negM, MI.andM, MI.orM, iteM, seqL, tupM, lstM, lstN, ixM, partM, cutM, isM, bltM, usrM, rg1M, rg2M, lrgM, trgM, upM, tstM, notT, andT, orT, retS, expS, setS, unpS, ifS, nxS, raiS, seqS, tryS, endF, fin, ofE, bnd, MI.ret, rd, intV, boolV, toDs, gd, bl, is_int, is_bool, is_str, is_tup, is_lst, isT, isS, isI, isL, isB', truth_bl, cmp_le, cmp_lt, cmp_ge, cmp_eqI, cmp_neI, cmp_eqS, cmp_neS, bin_add, bin_sub, ix0, ix1, ix2, len_tup, len_lst, truth_tup, q_within, ne_pt, ne_pc, ne_tc, ne_tp, ne_cp, ne_ct, lx2, lx3, ly2, ly3, q_is_kind, bind2, ek1, ek2, ek3, ek4, ek5, ec1, ec2, ec3, ec4, ie1, is_non, is_tf, isB_bl, q_is_int, cont, wi]
    · simp only [cont, wi]
      simp [getM, getV, binM, cmpM, cmp2M, cmp3M, MI.notM, negM, MI.andM, MI.orM, iteM, seqL, tupM, lstM, lstN, ixM, partM, cutM, isM, bltM, usrM, rg1M, rg2M, lrgM, trgM, upM, tstM, notT, andT, orT, retS, expS, setS, unpS, ifS, nxS, raiS, seqS, tryS, endF, fin, ofE, bnd, MI.ret, rd, intV, boolV, toDs, gd, bl, is_int, is_bool, is_str, is_tup, is_lst, isT, isS, isI, isL, isB', truth_bl, cmp_le, cmp_lt, cmp_ge, cmp_eqI, cmp_neI, cmp_eqS, cmp_neS, bin_add, bin_sub, ix0, ix1, ix2, len_tup, len_lst, truth_tup, q_within, ne_pt, ne_pc, ne_tc, ne_tp, ne_cp, ne_ct, lx2, lx3, ly2, ly3, q_is_kind, bind2, ek1, ek2, ek3, ek4, ek5, ec1, ec2, ec3, ec4, ie1, is_non, is_tf, isB_bl, q_is_int, h3]
      right
      omega
  rw [hc] at e
  have hp : (2 : Int) ^ n.toNat ≤ 16 := by
    have : n = 2 ∨ n = 3 ∨ n = 4 := by omega
    rcases this with rfl | rfl | rfl <;> decide
  rcases h3 with rfl | ⟨h3, h4⟩
  · simp [getM, getV, binM, cmpM, cmp2M, cmp3M, MI.notM, negM, MI.andM, MI.orM, iteM, seqL, tupM, lstM, lstN, ixM, partM, cutM, isM, bltM, usrM, rg1M, rg2M, lrgM, trgM, upM, tstM, notT, andT, orT, retS, expS, setS, unpS, ifS, nxS, raiS, seqS, tryS, endF, fin, ofE, bnd, MI.ret, rd, intV, boolV, toDs, gd, bl, is_int, is_bool, is_str, is_tup, is_lst, isT, isS, isI, isL, isB', truth_bl, cmp_le, cmp_lt, cmp_ge, cmp_eqI, cmp_neI, cmp_eqS, cmp_neS, bin_add, bin_sub, ix0, ix1, ix2, len_tup, len_lst, truth_tup, q_within, ne_pt, ne_pc, ne_tc, ne_tp, ne_cp, ne_ct, lx2, lx3, ly2, ly3, q_is_kind, bind2, ek1, ek2, ek3, ek4, ek5, ec1, ec2, ec3, ec4, ie1, is_non, is_tf, isB_bl, q_is_int, k.isK, e]
  · have hi : ¬ i < 0 := by omega
    simp [getM, getV, binM, cmpM, cmp2M, cmp3M, MI.notM, negM, MI.andM, MI.orM, iteM, seqL, tupM, lstM, lstN, ixM, partM, cutM, isM, bltM, usrM, rg1M, rg2M, lrgM, trgM, upM, tstM, notT, andT, orT, retS, expS, setS, unpS, ifS, nxS, raiS, seqS, tryS, endF, fin, ofE, bnd, MI.ret, rd, intV, boolV, toDs, gd, bl, is_int, is_bool, is_str, is_tup, is_lst, isT, isS, isI, isL, isB', truth_bl, cmp_le, cmp_lt, cmp_ge, cmp_eqI, cmp_neI, cmp_eqS, cmp_neS, bin_add, bin_sub, ix0, ix1, ix2, len_tup, len_lst, truth_tup, q_within, ne_pt, ne_pc, ne_tc, ne_tp, ne_cp, ne_ct, lx2, lx3, ly2, ly3, q_is_kind, bind2, ek1, ek2, ek3, ek4, ek5, ec1, ec2, ec3, ec4, ie1, is_non, is_tf, isB_bl, q_is_int, k.isK, e, hi, q_boxes (d + 3) i h3 (by omega)]
theorem q_boxes_told (d : Nat) {x : D} {lo hi : Int} (k : Kd x lo hi) (y : D) (h : MH) : callF g (d + 7) "_law_boxes_told" [.d x, .d y, .d (.bl (cont x hi y))] h = .ok (.d (.bl true)) h := by
  rw [c__law_boxes_told]
  unfold s__law_boxes_told
  have k' := k
  cases k with
  | c a b h1 h2 h3 => simp [getM, getV, binM, cmpM, cmp2M, cmp3M, MI.notM, negM, MI.andM, MI.orM, iteM, seqL, tupM, lstM, lstN, ixM, partM, cutM, isM, bltM, usrM, rg1M, rg2M, lrgM, trgM, upM, tstM, notT, andT, orT, retS, expS, setS, unpS, ifS, nxS, raiS, seqS, tryS, endF, fin, ofE, bnd, MI.ret, rd, intV, boolV, toDs, gd, bl, is_int, is_bool, is_str, is_tup, is_lst, isT, isS, isI, isL, isB', truth_bl, cmp_le, cmp_lt, cmp_ge, cmp_eqI, cmp_neI, cmp_eqS, cmp_neS, bin_add, bin_sub, ix0, ix1, ix2, len_tup, len_lst, truth_tup, q_within, ne_pt, ne_pc, ne_tc, ne_tp, ne_cp, ne_ct, lx2, lx3, ly2, ly3, q_is_kind, bind2, ek1, ek2, ek3, ek4, ek5, ec1, ec2, ec3, ec4, ie1, is_non, is_tf, isB_bl, q_is_int, q_no_kind_count d k']
  | p n h1 h2 =>
    by_cases hc : cont (.tup [.str "pick", .int n]) (n - 1) y = true
    · obtain ⟨i, rfl, h3, h4⟩ := wi_true (y := y) (lo := -2) (hi := n - 1) (by simpa [cont, ne_pt, ne_pc] using hc)
      by_cases hi : i < 0
      · have hi' : ¬ 0 ≤ i := by omega
        have e := q_alike_ints (d + 3) (l := []) (by decide) (by simp [getM, getV, binM, cmpM, cmp2M, cmp3M, MI.notM, negM, MI.andM, MI.orM, iteM, seqL, tupM, lstM, lstN, ixM, partM, cutM, isM, bltM, usrM, rg1M, rg2M, lrgM, trgM, upM, tstM, notT, andT, orT, retS, expS, setS, unpS, ifS, nxS, raiS, seqS, tryS, endF, fin, ofE, bnd, MI.ret, rd, intV, boolV, toDs, gd, bl, is_int, is_bool, is_str, is_tup, is_lst, isT, isS, isI, isL, isB', truth_bl, cmp_le, cmp_lt, cmp_ge, cmp_eqI, cmp_neI, cmp_eqS, cmp_neS, bin_add, bin_sub, ix0, ix1, ix2, len_tup, len_lst, truth_tup, q_within, ne_pt, ne_pc, ne_tc, ne_tp, ne_cp, ne_ct, lx2, lx3, ly2, ly3, q_is_kind, bind2, ek1, ek2, ek3, ek4, ek5, ec1, ec2, ec3, ec4, ie1, is_non, is_tf, isB_bl, q_is_int]) h
        simp [getM, getV, binM, cmpM, cmp2M, cmp3M, MI.notM, negM, MI.andM, MI.orM, iteM, seqL, tupM, lstM, lstN, ixM, partM, cutM, isM, bltM, usrM, rg1M, rg2M, lrgM, trgM, upM, tstM, notT, andT, orT, retS, expS, setS, unpS, ifS, nxS, raiS, seqS, tryS, endF, fin, ofE, bnd, MI.ret, rd, intV, boolV, toDs, gd, bl, is_int, is_bool, is_str, is_tup, is_lst, isT, isS, isI, isL, isB', truth_bl, cmp_le, cmp_lt, cmp_ge, cmp_eqI, cmp_neI, cmp_eqS, cmp_neS, bin_add, bin_sub, ix0, ix1, ix2, len_tup, len_lst, truth_tup, q_within, ne_pt, ne_pc, ne_tc, ne_tp, ne_cp, ne_ct, lx2, lx3, ly2, ly3, q_is_kind, bind2, ek1, ek2, ek3, ek4, ek5, ec1, ec2, ec3, ec4, ie1, is_non, is_tf, isB_bl, q_is_int, hc, hi, hi', q_ticked_p (d + 1) n h1 h2 i h3 h4, e]
      · have hi' : 0 ≤ i := by omega
        have e := q_alike_ints (d + 3) (l := [.int i]) (by simp [getM, getV, binM, cmpM, cmp2M, cmp3M, MI.notM, negM, MI.andM, MI.orM, iteM, seqL, tupM, lstM, lstN, ixM, partM, cutM, isM, bltM, usrM, rg1M, rg2M, lrgM, trgM, upM, tstM, notT, andT, orT, retS, expS, setS, unpS, ifS, nxS, raiS, seqS, tryS, endF, fin, ofE, bnd, MI.ret, rd, intV, boolV, toDs, gd, bl, is_int, is_bool, is_str, is_tup, is_lst, isT, isS, isI, isL, isB', truth_bl, cmp_le, cmp_lt, cmp_ge, cmp_eqI, cmp_neI, cmp_eqS, cmp_neS, bin_add, bin_sub, ix0, ix1, ix2, len_tup, len_lst, truth_tup, q_within, ne_pt, ne_pc, ne_tc, ne_tp, ne_cp, ne_ct, lx2, lx3, ly2, ly3, q_is_kind, bind2, ek1, ek2, ek3, ek4, ek5, ec1, ec2, ec3, ec4, ie1, is_non, is_tf, isB_bl, q_is_int]) (by simp [getM, getV, binM, cmpM, cmp2M, cmp3M, MI.notM, negM, MI.andM, MI.orM, iteM, seqL, tupM, lstM, lstN, ixM, partM, cutM, isM, bltM, usrM, rg1M, rg2M, lrgM, trgM, upM, tstM, notT, andT, orT, retS, expS, setS, unpS, ifS, nxS, raiS, seqS, tryS, endF, fin, ofE, bnd, MI.ret, rd, intV, boolV, toDs, gd, bl, is_int, is_bool, is_str, is_tup, is_lst, isT, isS, isI, isL, isB', truth_bl, cmp_le, cmp_lt, cmp_ge, cmp_eqI, cmp_neI, cmp_eqS, cmp_neS, bin_add, bin_sub, ix0, ix1, ix2, len_tup, len_lst, truth_tup, q_within, ne_pt, ne_pc, ne_tc, ne_tp, ne_cp, ne_ct, lx2, lx3, ly2, ly3, q_is_kind, bind2, ek1, ek2, ek3, ek4, ek5, ec1, ec2, ec3, ec4, ie1, is_non, is_tf, isB_bl, q_is_int]) h
        simp [getM, getV, binM, cmpM, cmp2M, cmp3M, MI.notM, negM, MI.andM, MI.orM, iteM, seqL, tupM, lstM, lstN, ixM, partM, cutM, isM, bltM, usrM, rg1M, rg2M, lrgM, trgM, upM, tstM, notT, andT, orT, retS, expS, setS, unpS, ifS, nxS, raiS, seqS, tryS, endF, fin, ofE, bnd, MI.ret, rd, intV, boolV, toDs, gd, bl, is_int, is_bool, is_str, is_tup, is_lst, isT, isS, isI, isL, isB', truth_bl, cmp_le, cmp_lt, cmp_ge, cmp_eqI, cmp_neI, cmp_eqS, cmp_neS, bin_add, bin_sub, ix0, ix1, ix2, len_tup, len_lst, truth_tup, q_within, ne_pt, ne_pc, ne_tc, ne_tp, ne_cp, ne_ct, lx2, lx3, ly2, ly3, q_is_kind, bind2, ek1, ek2, ek3, ek4, ek5, ec1, ec2, ec3, ec4, ie1, is_non, is_tf, isB_bl, q_is_int, hc, hi, hi', q_ticked_p (d + 1) n h1 h2 i h3 h4, e]
    · have hc : cont (.tup [.str "pick", .int n]) (n - 1) y = false := by simpa using hc
      simp [getM, getV, binM, cmpM, cmp2M, cmp3M, MI.notM, negM, MI.andM, MI.orM, iteM, seqL, tupM, lstM, lstN, ixM, partM, cutM, isM, bltM, usrM, rg1M, rg2M, lrgM, trgM, upM, tstM, notT, andT, orT, retS, expS, setS, unpS, ifS, nxS, raiS, seqS, tryS, endF, fin, ofE, bnd, MI.ret, rd, intV, boolV, toDs, gd, bl, is_int, is_bool, is_str, is_tup, is_lst, isT, isS, isI, isL, isB', truth_bl, cmp_le, cmp_lt, cmp_ge, cmp_eqI, cmp_neI, cmp_eqS, cmp_neS, bin_add, bin_sub, ix0, ix1, ix2, len_tup, len_lst, truth_tup, q_within, ne_pt, ne_pc, ne_tc, ne_tp, ne_cp, ne_ct, lx2, lx3, ly2, ly3, q_is_kind, bind2, ek1, ek2, ek3, ek4, ek5, ec1, ec2, ec3, ec4, ie1, is_non, is_tf, isB_bl, q_is_int, hc, q_no_content d k' (y := y) (by intro a b z; cases z) hc]
  | t n h1 h2 =>
    by_cases hc : cont (.tup [.str "tick", .int n]) (2 ^ n.toNat - 1) y = true
    · have hw : wi y (-1) (-1) = true ∨ wi y 1 (2 ^ n.toNat - 1) = true := by simpa [cont] using hc
      obtain ⟨i, rfl, h3⟩ : ∃ i, y = .int i ∧ (i = -1 ∨ (1 ≤ i ∧ i ≤ 2 ^ n.toNat - 1)) := by
        rcases hw with hw | hw
        · obtain ⟨i, rfl, h3, h4⟩ := wi_true hw
          exact ⟨i, rfl, .inl (by omega)⟩
        · obtain ⟨i, rfl, h3, h4⟩ := wi_true hw
          exact ⟨i, rfl, .inr ⟨h3, h4⟩⟩
      have hp : (2 : Int) ^ n.toNat ≤ 16 := by
        have : n = 2 ∨ n = 3 ∨ n = 4 := by omega
        rcases this with rfl | rfl | rfl <;> decide
      have et := q_ticked_t (d + 1) n h1 h2 i h3 h
      rcases h3 with rfl | ⟨h3, h4⟩
      · have e := q_alike_ints (d + 3) (l := []) (by decide) (by simp [getM, getV, binM, cmpM, cmp2M, cmp3M, MI.notM, negM, MI.andM, MI.orM, iteM, seqL, tupM, lstM, lstN, ixM, partM, cutM, isM, bltM, usrM, rg1M, rg2M, lrgM, trgM, upM, tstM, notT, andT, orT, retS, expS, setS, unpS, ifS, nxS, raiS, seqS, tryS, endF, fin, ofE, bnd, MI.ret, rd, intV, boolV, toDs, gd, bl, is_int, is_bool, is_str, is_tup, is_lst, isT, isS, isI, isL, isB', truth_bl, cmp_le, cmp_lt, cmp_ge, cmp_eqI, cmp_neI, cmp_eqS, cmp_neS, bin_add, bin_sub, ix0, ix1, ix2, len_tup, len_lst, truth_tup, q_within, ne_pt, ne_pc, ne_tc, ne_tp, ne_cp, ne_ct, lx2, lx3, ly2, ly3, q_is_kind, bind2, ek1, ek2, ek3, ek4, ek5, ec1, ec2, ec3, ec4, ie1, is_non, is_tf, isB_bl, q_is_int]) h
        simp [getM, getV, binM, cmpM, cmp2M, cmp3M, MI.notM, negM, MI.andM, MI.orM, iteM, seqL, tupM, lstM, lstN, ixM, partM, cutM, isM, bltM, usrM, rg1M, rg2M, lrgM, trgM, upM, tstM, notT, andT, orT, retS, expS, setS, unpS, ifS, nxS, raiS, seqS, tryS, endF, fin, ofE, bnd, MI.ret, rd, intV, boolV, toDs, gd, bl, is_int, is_bool, is_str, is_tup, is_lst, isT, isS, isI, isL, isB', truth_bl, cmp_le, cmp_lt, cmp_ge, cmp_eqI, cmp_neI, cmp_eqS, cmp_neS, bin_add, bin_sub, ix0, ix1, ix2, len_tup, len_lst, truth_tup, q_within, ne_pt, ne_pc, ne_tc, ne_tp, ne_cp, ne_ct, lx2, lx3, ly2, ly3, q_is_kind, bind2, ek1, ek2, ek3, ek4, ek5, ec1, ec2, ec3, ec4, ie1, is_non, is_tf, isB_bl, q_is_int, hc, et, e]
      · have hi : ¬ i < 0 := by omega
        have hi' : 0 ≤ i := by omega
        have e := q_alike_ints (d + 3) (l := bx i) (bx_len i) (fun x => bx_int) h
        have tup : ∀ l h, pCall "tuple" [.d (.lst l)] h = some (.d (.tup l)) := fun l h => rfl
        simp [getM, getV, binM, cmpM, cmp2M, cmp3M, MI.notM, negM, MI.andM, MI.orM, iteM, seqL, tupM, lstM, lstN, ixM, partM, cutM, isM, bltM, usrM, rg1M, rg2M, lrgM, trgM, upM, tstM, notT, andT, orT, retS, expS, setS, unpS, ifS, nxS, raiS, seqS, tryS, endF, fin, ofE, bnd, MI.ret, rd, intV, boolV, toDs, gd, bl, is_int, is_bool, is_str, is_tup, is_lst, isT, isS, isI, isL, isB', truth_bl, cmp_le, cmp_lt, cmp_ge, cmp_eqI, cmp_neI, cmp_eqS, cmp_neS, bin_add, bin_sub, ix0, ix1, ix2, len_tup, len_lst, truth_tup, q_within, ne_pt, ne_pc, ne_tc, ne_tp, ne_cp, ne_ct, lx2, lx3, ly2, ly3, q_is_kind, bind2, ek1, ek2, ek3, ek4, ek5, ec1, ec2, ec3, ec4, ie1, is_non, is_tf, isB_bl, q_is_int, hc, et, hi, hi', q_law_boxes (d + 5) i h3 (by omega), tup, e]
    · have hc : cont (.tup [.str "tick", .int n]) (2 ^ n.toNat - 1) y = false := by simpa using hc
      simp [getM, getV, binM, cmpM, cmp2M, cmp3M, MI.notM, negM, MI.andM, MI.orM, iteM, seqL, tupM, lstM, lstN, ixM, partM, cutM, isM, bltM, usrM, rg1M, rg2M, lrgM, trgM, upM, tstM, notT, andT, orT, retS, expS, setS, unpS, ifS, nxS, raiS, seqS, tryS, endF, fin, ofE, bnd, MI.ret, rd, intV, boolV, toDs, gd, bl, is_int, is_bool, is_str, is_tup, is_lst, isT, isS, isI, isL, isB', truth_bl, cmp_le, cmp_lt, cmp_ge, cmp_eqI, cmp_neI, cmp_eqS, cmp_neS, bin_add, bin_sub, ix0, ix1, ix2, len_tup, len_lst, truth_tup, q_within, ne_pt, ne_pc, ne_tc, ne_tp, ne_cp, ne_ct, lx2, lx3, ly2, ly3, q_is_kind, bind2, ek1, ek2, ek3, ek4, ek5, ec1, ec2, ec3, ec4, ie1, is_non, is_tf, isB_bl, q_is_int, hc, q_no_content d k' (y := y) (by intro a b z; cases z) hc]
end K9
set_option maxRecDepth 100000
namespace K9
open MI PySem
theorem A1 (d : Nat) (n : Int) (h1 : 2 ≤ n) (h2 : n ≤ 6) (h : MH) : callF g (d + 1) "_law_answers" [.d (.tup [.str "pick", .int n])] h = .ok (.d (.lst (rgD 0 (n - 1 + 1)))) h := by
  rw [c__law_answers]
  unfold s__law_answers
  simp [getM, getV, binM, cmpM, cmp2M, cmp3M, MI.notM, negM, MI.andM, MI.orM, iteM, seqL, tupM, lstM, lstN, ixM, partM, cutM, isM, bltM, usrM, rg1M, rg2M, lrgM, trgM, upM, tstM, notT, andT, orT, retS, expS, setS, unpS, ifS, nxS, raiS, seqS, tryS, endF, fin, ofE, bnd, MI.ret, rd, intV, boolV, toDs, gd, bl, is_int, is_bool, is_str, is_tup, is_lst, isT, isS, isI, isL, isB', truth_bl, cmp_le, cmp_lt, cmp_ge, cmp_eqI, cmp_neI, cmp_eqS, cmp_neS, bin_add, bin_sub, ix0, ix1, ix2, len_tup, len_lst, truth_tup, q_within, ne_pt, ne_pc, ne_tc, ne_tp, ne_cp, ne_ct, lx2, lx3, ly2, ly3, q_is_kind, bind2, ek1, ek2, ek3, ek4, ek5, ec1, ec2, ec3, ec4, ie1, is_non, is_tf, isB_bl, q_is_int, okRg_of (a := 0) (b := n) (by omega) (by omega) (by omega) (by omega)]
theorem B2 (n : Int) (h1 : 2 ≤ n) (h2 : n ≤ 4) : (2 : Int) ^ n.toNat ≤ 16 ∧ 0 ≤ (2 : Int) ^ n.toNat := by
      have : n = 2 ∨ n = 3 ∨ n = 4 := by omega
      rcases this with rfl | rfl | rfl <;> decide
theorem B3 (d : Nat) (n p : Int) (e : ∀ h, pBin .LShift (.d (.int 1)) (.d (.int n)) h = some (.d (.int p))) (h1 : 0 ≤ p) (h2 : p ≤ 16) (h : MH) : callF g (d + 1) "_law_answers" [.d (.tup [.str "tick", .int n])] h = .ok (.d (.lst (rgD 1 p))) h := by
  rw [c__law_answers]
  unfold s__law_answers
  simp [getM, getV, binM, cmpM, cmp2M, cmp3M, MI.notM, negM, MI.andM, MI.orM, iteM, seqL, tupM, lstM, lstN, ixM, partM, cutM, isM, bltM, usrM, rg1M, rg2M, lrgM, trgM, upM, tstM, notT, andT, orT, retS, expS, setS, unpS, ifS, nxS, raiS, seqS, tryS, endF, fin, ofE, bnd, MI.ret, rd, intV, boolV, toDs, gd, bl, is_int, is_bool, is_str, is_tup, is_lst, isT, isS, isI, isL, isB', truth_bl, cmp_le, cmp_lt, cmp_ge, cmp_eqI, cmp_neI, cmp_eqS, cmp_neS, bin_add, bin_sub, ix0, ix1, ix2, len_tup, len_lst, truth_tup, q_within, ne_pt, ne_pc, ne_tc, ne_tp, ne_cp, ne_ct, lx2, lx3, ly2, ly3, q_is_kind, bind2, ek1, ek2, ek3, ek4, ek5, ec1, ec2, ec3, ec4, ie1, is_non, is_tf, isB_bl, q_is_int, e, okRg_of (a := 1) (b := p) (by omega) (by omega) (by omega) (by omega)]
theorem A2 (d : Nat) (n : Int) (h1 : 2 ≤ n) (h2 : n ≤ 4) (h : MH) : callF g (d + 1) "_law_answers" [.d (.tup [.str "tick", .int n])] h = .ok (.d (.lst (rgD 1 (2 ^ n.toNat - 1 + 1)))) h := by
  rw [Int.sub_add_cancel]
  exact B3 d n _ (shl1 n (by omega) (by omega)) (B2 n h1 h2).2 (B2 n h1 h2).1 h
theorem A3 (d : Nat) (a b : Int) (h1 : 0 ≤ a) (h2 : a < b) (h3 : b ≤ 99) (h : MH) : callF g (d + 1) "_law_answers" [.d (.tup [.str "count", .int a, .int b])] h = .ok (.d (.lst (rgD a (b + 1)))) h := by
  rw [c__law_answers]
  unfold s__law_answers
  simp [getM, getV, binM, cmpM, cmp2M, cmp3M, MI.notM, negM, MI.andM, MI.orM, iteM, seqL, tupM, lstM, lstN, ixM, partM, cutM, isM, bltM, usrM, rg1M, rg2M, lrgM, trgM, upM, tstM, notT, andT, orT, retS, expS, setS, unpS, ifS, nxS, raiS, seqS, tryS, endF, fin, ofE, bnd, MI.ret, rd, intV, boolV, toDs, gd, bl, is_int, is_bool, is_str, is_tup, is_lst, isT, isS, isI, isL, isB', truth_bl, cmp_le, cmp_lt, cmp_ge, cmp_eqI, cmp_neI, cmp_eqS, cmp_neS, bin_add, bin_sub, ix0, ix1, ix2, len_tup, len_lst, truth_tup, q_within, ne_pt, ne_pc, ne_tc, ne_tp, ne_cp, ne_ct, lx2, lx3, ly2, ly3, q_is_kind, bind2, ek1, ek2, ek3, ek4, ek5, ec1, ec2, ec3, ec4, ie1, is_non, is_tf, isB_bl, q_is_int, okRg_of (a := a) (b := b + 1) (by omega) (by omega) (by omega) (by omega)]
theorem q_law_answers (d : Nat) {x : D} {lo hi : Int} (k : Kd x lo hi) (h : MH) : callF g (d + 1) "_law_answers" [.d x] h = .ok (.d (.lst (rgD lo (hi + 1)))) h := by
  cases k with
  | p n h1 h2 => exact A1 d n h1 h2 h
  | t n h1 h2 => exact A2 d n h1 h2 h
  | c a b h1 h2 h3 => exact A3 d _ _ h1 h2 h3 h
theorem rgD_get {a b : Int} {i : Nat} (h : i < (b - a).toNat) : (rgD a b)[i]? = some (.int (a + i)) := by
  unfold rgD
  rw [List.getElem?_map, List.getElem?_range h]
  rfl
theorem row0 {lo hi : Int} (hh : lo < hi) (h : MH) : pIx (.d (.lst (rgD lo (hi + 1)))) (.d (.int 0)) h = some (.d (.int lo)) := by
  show (L2.atI (rgD lo (hi + 1)) ((0 : Nat) : Int)).map Val.d = _
  rw [atI_nat _ 0 _ (rgD_get (by omega))]
  simp [getM, getV, binM, cmpM, cmp2M, cmp3M, MI.notM, negM, MI.andM, MI.orM, iteM, seqL, tupM, lstM, lstN, ixM, partM, cutM, isM, bltM, usrM, rg1M, rg2M, lrgM, trgM, upM, tstM, notT, andT, orT, retS, expS, setS, unpS, ifS, nxS, raiS, seqS, tryS, endF, fin, ofE, bnd, MI.ret, rd, intV, boolV, toDs, gd, bl, is_int, is_bool, is_str, is_tup, is_lst, isT, isS, isI, isL, isB', truth_bl, cmp_le, cmp_lt, cmp_ge, cmp_eqI, cmp_neI, cmp_eqS, cmp_neS, bin_add, bin_sub, ix0, ix1, ix2, len_tup, len_lst, truth_tup, q_within, ne_pt, ne_pc, ne_tc, ne_tp, ne_cp, ne_ct, lx2, lx3, ly2, ly3, q_is_kind, bind2, ek1, ek2, ek3, ek4, ek5, ec1, ec2, ec3, ec4, ie1, is_non, is_tf, isB_bl, q_is_int]
theorem rowL {lo hi : Int} (hh : lo < hi) (h : MH) : pIx (.d (.lst (rgD lo (hi + 1)))) (.d (.int (-1))) h = some (.d (.int hi)) := by
  show (L2.atI (rgD lo (hi + 1)) (-1)).map Val.d = _
  have : (rgD lo (hi + 1))[(rgD lo (hi + 1)).length - 1]? = some (.int hi) := by
    rw [rgD_len, rgD_get (by omega)]
    congr 2
    omega
  rw [atI_lastL _ _ this]
  rfl
theorem q_alike_2 (d : Nat) (b c : Bool) (h : MH) : callF g (d + 3) "_law_alike" [.d (.lst [.bl b, .bl c]), .d (.lst [.bl b, .bl c])] h = .ok (.d (.bl true)) h :=
  q_alike_lst d (by simp [getM, getV, binM, cmpM, cmp2M, cmp3M, MI.notM, negM, MI.andM, MI.orM, iteM, seqL, tupM, lstM, lstN, ixM, partM, cutM, isM, bltM, usrM, rg1M, rg2M, lrgM, trgM, upM, tstM, notT, andT, orT, retS, expS, setS, unpS, ifS, nxS, raiS, seqS, tryS, endF, fin, ofE, bnd, MI.ret, rd, intV, boolV, toDs, gd, bl, is_int, is_bool, is_str, is_tup, is_lst, isT, isS, isI, isL, isB', truth_bl, cmp_le, cmp_lt, cmp_ge, cmp_eqI, cmp_neI, cmp_eqS, cmp_neS, bin_add, bin_sub, ix0, ix1, ix2, len_tup, len_lst, truth_tup, q_within, ne_pt, ne_pc, ne_tc, ne_tp, ne_cp, ne_ct, lx2, lx3, ly2, ly3, q_is_kind, bind2, ek1, ek2, ek3, ek4, ek5, ec1, ec2, ec3, ec4, ie1, is_non, is_tf, isB_bl, q_is_int]) (fun x hx h => by
    simp [getM, getV, binM, cmpM, cmp2M, cmp3M, MI.notM, negM, MI.andM, MI.orM, iteM, seqL, tupM, lstM, lstN, ixM, partM, cutM, isM, bltM, usrM, rg1M, rg2M, lrgM, trgM, upM, tstM, notT, andT, orT, retS, expS, setS, unpS, ifS, nxS, raiS, seqS, tryS, endF, fin, ofE, bnd, MI.ret, rd, intV, boolV, toDs, gd, bl, is_int, is_bool, is_str, is_tup, is_lst, isT, isS, isI, isL, isB', truth_bl, cmp_le, cmp_lt, cmp_ge, cmp_eqI, cmp_neI, cmp_eqS, cmp_neS, bin_add, bin_sub, ix0, ix1, ix2, len_tup, len_lst, truth_tup, q_within, ne_pt, ne_pc, ne_tc, ne_tp, ne_cp, ne_ct, lx2, lx3, ly2, ly3, q_is_kind, bind2, ek1, ek2, ek3, ek4, ek5, ec1, ec2, ec3, ec4, ie1, is_non, is_tf, isB_bl, q_is_int] at hx
    rcases hx with rfl | rfl <;> exact q_alike_bl d _ h) h
theorem q_alike_3 (d : Nat) {l : List D} (hn : l.length ≤ 16777216) (hi : ∀ x ∈ l, ∃ i, x = D.int i) (i : Int) (h : MH) : callF g (d + 4) "_law_alike" [.d (.lst [.bl true, .tup l, .int i]), .d (.lst [.bl true, .tup l, .int i])] h = .ok (.d (.bl true)) h :=
  q_alike_lst (d + 1) (by simp [getM, getV, binM, cmpM, cmp2M, cmp3M, MI.notM, negM, MI.andM, MI.orM, iteM, seqL, tupM, lstM, lstN, ixM, partM, cutM, isM, bltM, usrM, rg1M, rg2M, lrgM, trgM, upM, tstM, notT, andT, orT, retS, expS, setS, unpS, ifS, nxS, raiS, seqS, tryS, endF, fin, ofE, bnd, MI.ret, rd, intV, boolV, toDs, gd, bl, is_int, is_bool, is_str, is_tup, is_lst, isT, isS, isI, isL, isB', truth_bl, cmp_le, cmp_lt, cmp_ge, cmp_eqI, cmp_neI, cmp_eqS, cmp_neS, bin_add, bin_sub, ix0, ix1, ix2, len_tup, len_lst, truth_tup, q_within, ne_pt, ne_pc, ne_tc, ne_tp, ne_cp, ne_ct, lx2, lx3, ly2, ly3, q_is_kind, bind2, ek1, ek2, ek3, ek4, ek5, ec1, ec2, ec3, ec4, ie1, is_non, is_tf, isB_bl, q_is_int]) (fun x hx h => by
    simp [getM, getV, binM, cmpM, cmp2M, cmp3M, MI.notM, negM, MI.andM, MI.orM, iteM, seqL, tupM, lstM, lstN, ixM, partM, cutM, isM, bltM, usrM, rg1M, rg2M, lrgM, trgM, upM, tstM, notT, andT, orT, retS, expS, setS, unpS, ifS, nxS, raiS, seqS, tryS, endF, fin, ofE, bnd, MI.ret, rd, intV, boolV, toDs, gd, bl, is_int, is_bool, is_str, is_tup, is_lst, isT, isS, isI, isL, isB', truth_bl, cmp_le, cmp_lt, cmp_ge, cmp_eqI, cmp_neI, cmp_eqS, cmp_neS, bin_add, bin_sub, ix0, ix1, ix2, len_tup, len_lst, truth_tup, q_within, ne_pt, ne_pc, ne_tc, ne_tp, ne_cp, ne_ct, lx2, lx3, ly2, ly3, q_is_kind, bind2, ek1, ek2, ek3, ek4, ek5, ec1, ec2, ec3, ec4, ie1, is_non, is_tf, isB_bl, q_is_int] at hx
    rcases hx with rfl | rfl | rfl
    · exact q_alike_bl (d + 1) _ h
    · exact q_alike_ints d hn hi h
    · exact q_alike_int (d + 1) _ h) h
/-- the loop's body -/
def bodyK (cf : Str → List Val → M Val) : MS := (seqS (setS 4 (fun σ => usrM cf "_law_is_int" 1 [getM σ 3])) (seqS (setS 5 (fun σ => MI.andM (getM σ 4) (cmp2M .LtE .LtE (ixM (getM σ 2) (MI.ret (.d (.int (0))))) (getM σ 3) (ixM (getM σ 2) (negM (MI.ret (.d (.int (1))))))))) (seqS (setS 6 (fun σ => MI.orM (getM σ 5) (MI.andM (getM σ 4) (cmpM .Eq (getM σ 3) (negM (MI.ret (.d (.int (1))))))))) (seqS (ifS (fun σ => (tstM (cmpM .Eq (ixM (getM σ 0) (MI.ret (.d (.int (0))))) (MI.ret (.d (.str "count")))))) (setS 6 (fun σ => MI.andM (getM σ 4) (cmp2M .LtE .LtE (negM (MI.ret (.d (.int (2))))) (getM σ 3) (MI.ret (.d (.int (99))))))) (ifS (fun σ => (tstM (cmpM .Eq (ixM (getM σ 0) (MI.ret (.d (.int (0))))) (MI.ret (.d (.str "pick")))))) (setS 6 (fun σ => MI.orM (getM σ 6) (MI.andM (getM σ 4) (cmpM .Eq (getM σ 3) (negM (MI.ret (.d (.int (2))))))))) (nxS))) (seqS (ifS (fun σ => (notT (tstM (usrM cf "_law_alike" 2 [lstM [usrM cf "is_answer" 2 [getM σ 0, getM σ 3], usrM cf "is_content" 2 [getM σ 0, getM σ 3]], lstM [getM σ 5, getM σ 6]])))) (retS (fun σ => MI.ret (.d (.bl false)))) (nxS)) (ifS (fun σ => (notT (tstM (usrM cf "_law_boxes_told" 3 [getM σ 0, getM σ 3, getM σ 6])))) (retS (fun σ => MI.ret (.d (.bl false)))) (nxS)))))))
theorem bodyK_fin {cf : Str → List Val → M Val} {x y : D} {lo hi : Int} {t : Val} {b5 b6 : Bool} {v4 : Option Val} {h : MH} (ea : cf "is_answer" [.d x, .d y] h = .ok (.d (.bl b5)) h) (ec : cf "is_content" [.d x, .d y] h = .ok (.d (.bl b6)) h)
    (eb : cf "_law_boxes_told" [.d x, .d y, .d (.bl b6)] h = .ok (.d (.bl true)) h) (al : cf "_law_alike" [.d (.lst [.bl b5, .bl b6]), .d (.lst [.bl b5, .bl b6])] h = .ok (.d (.bl true)) h) (r : Option Val) :
    seqS (ifS (fun σ => (notT (tstM (usrM cf "_law_alike" 2 [lstM [usrM cf "is_answer" 2 [getM σ 0, getM σ 3], usrM cf "is_content" 2 [getM σ 0, getM σ 3]], lstM [getM σ 5, getM σ 6]])))) (retS (fun σ => MI.ret (.d (.bl false)))) (nxS)) (ifS (fun σ => (notT (tstM (usrM cf "_law_boxes_told" 3 [getM σ 0, getM σ 3, getM σ 6])))) (retS (fun σ => MI.ret (.d (.bl false)))) (nxS))
      [some (.d x), some t, r, some (.d y), v4, some (.d (.bl b5)), some (.d (.bl b6))] h = .nx [some (.d x), some t, r, some (.d y), v4, some (.d (.bl b5)), some (.d (.bl b6))] h := by
  simp [getM, getV, binM, cmpM, cmp2M, cmp3M, MI.notM, negM, MI.andM, MI.orM, iteM, seqL, tupM, lstM, lstN, ixM, partM, cutM, isM, bltM, usrM, rg1M, rg2M, lrgM, trgM, upM, tstM, notT, andT, orT, retS, expS, setS, unpS, ifS, nxS, raiS, seqS, tryS, endF, fin, ofE, bnd, MI.ret, rd, intV, boolV, toDs, gd, bl, is_int, is_bool, is_str, is_tup, is_lst, isT, isS, isI, isL, isB', truth_bl, cmp_le, cmp_lt, cmp_ge, cmp_eqI, cmp_neI, cmp_eqS, cmp_neS, bin_add, bin_sub, ix0, ix1, ix2, len_tup, len_lst, truth_tup, q_within, ne_pt, ne_pc, ne_tc, ne_tp, ne_cp, ne_ct, lx2, lx3, ly2, ly3, q_is_kind, bind2, ek1, ek2, ek3, ek4, ek5, ec1, ec2, ec3, ec4, ie1, is_non, is_tf, isB_bl, q_is_int, ea, ec, eb, al]
/-- the loop's body ahead of the comparing -/
theorem bodyK_pre {cf : Str → List Val → M Val} {rest : MS} {x : D} {lo hi : Int} (k : Kd x lo hi) (t : Val) (y : D) (v4 v5 v6 : Option Val) (h : MH) (row : List D) (r0 : ∀ h, pIx (.d (.lst row)) (.d (.int 0)) h = some (.d (.int lo))) (rL : ∀ h, pIx (.d (.lst row)) (.d (.int (-1))) h = some (.d (.int hi))) (hi' : cf "_law_is_int" [.d y] h = .ok (.d (.bl (isI y))) h) :
    (seqS (setS 4 (fun σ => usrM cf "_law_is_int" 1 [getM σ 3])) (seqS (setS 5 (fun σ => MI.andM (getM σ 4) (cmp2M .LtE .LtE (ixM (getM σ 2) (MI.ret (.d (.int (0))))) (getM σ 3) (ixM (getM σ 2) (negM (MI.ret (.d (.int (1))))))))) (seqS (setS 6 (fun σ => MI.orM (getM σ 5) (MI.andM (getM σ 4) (cmpM .Eq (getM σ 3) (negM (MI.ret (.d (.int (1))))))))) (seqS (ifS (fun σ => (tstM (cmpM .Eq (ixM (getM σ 0) (MI.ret (.d (.int (0))))) (MI.ret (.d (.str "count")))))) (setS 6 (fun σ => MI.andM (getM σ 4) (cmp2M .LtE .LtE (negM (MI.ret (.d (.int (2))))) (getM σ 3) (MI.ret (.d (.int (99))))))) (ifS (fun σ => (tstM (cmpM .Eq (ixM (getM σ 0) (MI.ret (.d (.int (0))))) (MI.ret (.d (.str "pick")))))) (setS 6 (fun σ => MI.orM (getM σ 6) (MI.andM (getM σ 4) (cmpM .Eq (getM σ 3) (negM (MI.ret (.d (.int (2))))))))) (nxS))) rest))))
     [some (.d x), some t, some (.d (.lst row)), some (.d y), v4, v5, v6] h = rest [some (.d x), some t, some (.d (.lst row)), some (.d y), some (.d (.bl (isI y))), some (.d (.bl (wi y lo hi))), some (.d (.bl (cont x hi y)))] h := by
  have ke := k.ends
  cases y with
  | int i =>
    by_cases e1 : i = -1
    · subst e1
      have g1 : ¬ lo ≤ -1 := by omega
      have g2 : -1 ≤ hi := by omega
      cases k with
      | c a b h1 h2 h3 => simp [getM, getV, binM, cmpM, cmp2M, cmp3M, MI.notM, negM, MI.andM, MI.orM, iteM, seqL, tupM, lstM, lstN, ixM, partM, cutM, isM, bltM, usrM, rg1M, rg2M, lrgM, trgM, upM, tstM, notT, andT, orT, retS, expS, setS, unpS, ifS, nxS, raiS, seqS, tryS, endF, fin, ofE, bnd, MI.ret, rd, intV, boolV, toDs, gd, bl, is_int, is_bool, is_str, is_tup, is_lst, isT, isS, isI, isL, isB', truth_bl, cmp_le, cmp_lt, cmp_ge, cmp_eqI, cmp_neI, cmp_eqS, cmp_neS, bin_add, bin_sub, ix0, ix1, ix2, len_tup, len_lst, truth_tup, q_within, ne_pt, ne_pc, ne_tc, ne_tp, ne_cp, ne_ct, lx2, lx3, ly2, ly3, q_is_kind, bind2, ek1, ek2, ek3, ek4, ek5, ec1, ec2, ec3, ec4, ie1, is_non, is_tf, isB_bl, q_is_int, hi', r0, rL, g1, wi, cont, -Int.reduceNeg]
      | p n h1 h2 =>
        have g3 : (-1 : Int) ≤ n - 1 := by omega
        simp [getM, getV, binM, cmpM, cmp2M, cmp3M, MI.notM, negM, MI.andM, MI.orM, iteM, seqL, tupM, lstM, lstN, ixM, partM, cutM, isM, bltM, usrM, rg1M, rg2M, lrgM, trgM, upM, tstM, notT, andT, orT, retS, expS, setS, unpS, ifS, nxS, raiS, seqS, tryS, endF, fin, ofE, bnd, MI.ret, rd, intV, boolV, toDs, gd, bl, is_int, is_bool, is_str, is_tup, is_lst, isT, isS, isI, isL, isB', truth_bl, cmp_le, cmp_lt, cmp_ge, cmp_eqI, cmp_neI, cmp_eqS, cmp_neS, bin_add, bin_sub, ix0, ix1, ix2, len_tup, len_lst, truth_tup, q_within, ne_pt, ne_pc, ne_tc, ne_tp, ne_cp, ne_ct, lx2, lx3, ly2, ly3, q_is_kind, bind2, ek1, ek2, ek3, ek4, ek5, ec1, ec2, ec3, ec4, ie1, is_non, is_tf, isB_bl, q_is_int, hi', r0, rL, wi, cont, g3, -Int.reduceNeg]
      | t n h1 h2 => simp [getM, getV, binM, cmpM, cmp2M, cmp3M, MI.notM, negM, MI.andM, MI.orM, iteM, seqL, tupM, lstM, lstN, ixM, partM, cutM, isM, bltM, usrM, rg1M, rg2M, lrgM, trgM, upM, tstM, notT, andT, orT, retS, expS, setS, unpS, ifS, nxS, raiS, seqS, tryS, endF, fin, ofE, bnd, MI.ret, rd, intV, boolV, toDs, gd, bl, is_int, is_bool, is_str, is_tup, is_lst, isT, isS, isI, isL, isB', truth_bl, cmp_le, cmp_lt, cmp_ge, cmp_eqI, cmp_neI, cmp_eqS, cmp_neS, bin_add, bin_sub, ix0, ix1, ix2, len_tup, len_lst, truth_tup, q_within, ne_pt, ne_pc, ne_tc, ne_tp, ne_cp, ne_ct, lx2, lx3, ly2, ly3, q_is_kind, bind2, ek1, ek2, ek3, ek4, ek5, ec1, ec2, ec3, ec4, ie1, is_non, is_tf, isB_bl, q_is_int, hi', r0, rL, wi, cont, -Int.reduceNeg]
    · by_cases e2 : i = -2
      · subst e2
        have g1 : ¬ lo ≤ -2 := by omega
        have g2 : -2 ≤ hi := by omega
        cases k with
        | c a b h1 h2 h3 => simp [getM, getV, binM, cmpM, cmp2M, cmp3M, MI.notM, negM, MI.andM, MI.orM, iteM, seqL, tupM, lstM, lstN, ixM, partM, cutM, isM, bltM, usrM, rg1M, rg2M, lrgM, trgM, upM, tstM, notT, andT, orT, retS, expS, setS, unpS, ifS, nxS, raiS, seqS, tryS, endF, fin, ofE, bnd, MI.ret, rd, intV, boolV, toDs, gd, bl, is_int, is_bool, is_str, is_tup, is_lst, isT, isS, isI, isL, isB', truth_bl, cmp_le, cmp_lt, cmp_ge, cmp_eqI, cmp_neI, cmp_eqS, cmp_neS, bin_add, bin_sub, ix0, ix1, ix2, len_tup, len_lst, truth_tup, q_within, ne_pt, ne_pc, ne_tc, ne_tp, ne_cp, ne_ct, lx2, lx3, ly2, ly3, q_is_kind, bind2, ek1, ek2, ek3, ek4, ek5, ec1, ec2, ec3, ec4, ie1, is_non, is_tf, isB_bl, q_is_int, hi', r0, rL, g1, wi, cont, -Int.reduceNeg]
        | p n h1 h2 =>
          have g3 : (-2 : Int) ≤ n - 1 := by omega
          simp [getM, getV, binM, cmpM, cmp2M, cmp3M, MI.notM, negM, MI.andM, MI.orM, iteM, seqL, tupM, lstM, lstN, ixM, partM, cutM, isM, bltM, usrM, rg1M, rg2M, lrgM, trgM, upM, tstM, notT, andT, orT, retS, expS, setS, unpS, ifS, nxS, raiS, seqS, tryS, endF, fin, ofE, bnd, MI.ret, rd, intV, boolV, toDs, gd, bl, is_int, is_bool, is_str, is_tup, is_lst, isT, isS, isI, isL, isB', truth_bl, cmp_le, cmp_lt, cmp_ge, cmp_eqI, cmp_neI, cmp_eqS, cmp_neS, bin_add, bin_sub, ix0, ix1, ix2, len_tup, len_lst, truth_tup, q_within, ne_pt, ne_pc, ne_tc, ne_tp, ne_cp, ne_ct, lx2, lx3, ly2, ly3, q_is_kind, bind2, ek1, ek2, ek3, ek4, ek5, ec1, ec2, ec3, ec4, ie1, is_non, is_tf, isB_bl, q_is_int, hi', r0, rL, wi, cont, g3, -Int.reduceNeg]
        | t n h1 h2 => simp [getM, getV, binM, cmpM, cmp2M, cmp3M, MI.notM, negM, MI.andM, MI.orM, iteM, seqL, tupM, lstM, lstN, ixM, partM, cutM, isM, bltM, usrM, rg1M, rg2M, lrgM, trgM, upM, tstM, notT, andT, orT, retS, expS, setS, unpS, ifS, nxS, raiS, seqS, tryS, endF, fin, ofE, bnd, MI.ret, rd, intV, boolV, toDs, gd, bl, is_int, is_bool, is_str, is_tup, is_lst, isT, isS, isI, isL, isB', truth_bl, cmp_le, cmp_lt, cmp_ge, cmp_eqI, cmp_neI, cmp_eqS, cmp_neS, bin_add, bin_sub, ix0, ix1, ix2, len_tup, len_lst, truth_tup, q_within, ne_pt, ne_pc, ne_tc, ne_tp, ne_cp, ne_ct, lx2, lx3, ly2, ly3, q_is_kind, bind2, ek1, ek2, ek3, ek4, ek5, ec1, ec2, ec3, ec4, ie1, is_non, is_tf, isB_bl, q_is_int, hi', r0, rL, wi, cont, -Int.reduceNeg]
      · have b1 : (i == -1) = false := beq_eq_false_iff_ne.mpr e1
        have b2 : (i == -2) = false := beq_eq_false_iff_ne.mpr e2
        cases k with
        | c a b h1 h2 h3 =>
          by_cases g1 : lo ≤ i
          · have g2 : -2 ≤ i := by omega
            by_cases g3 : i ≤ hi
            · have g4 : i ≤ 99 := by omega
              simp [getM, getV, binM, cmpM, cmp2M, cmp3M, MI.notM, negM, MI.andM, MI.orM, iteM, seqL, tupM, lstM, lstN, ixM, partM, cutM, isM, bltM, usrM, rg1M, rg2M, lrgM, trgM, upM, tstM, notT, andT, orT, retS, expS, setS, unpS, ifS, nxS, raiS, seqS, tryS, endF, fin, ofE, bnd, MI.ret, rd, intV, boolV, toDs, gd, bl, is_int, is_bool, is_str, is_tup, is_lst, isT, isS, isI, isL, isB', truth_bl, cmp_le, cmp_lt, cmp_ge, cmp_eqI, cmp_neI, cmp_eqS, cmp_neS, bin_add, bin_sub, ix0, ix1, ix2, len_tup, len_lst, truth_tup, q_within, ne_pt, ne_pc, ne_tc, ne_tp, ne_cp, ne_ct, lx2, lx3, ly2, ly3, q_is_kind, bind2, ek1, ek2, ek3, ek4, ek5, ec1, ec2, ec3, ec4, ie1, is_non, is_tf, isB_bl, q_is_int, hi', r0, rL, wi, cont, g1, g2, g3, g4, e1, e2, b1, b2, -Int.reduceNeg]
            · simp [getM, getV, binM, cmpM, cmp2M, cmp3M, MI.notM, negM, MI.andM, MI.orM, iteM, seqL, tupM, lstM, lstN, ixM, partM, cutM, isM, bltM, usrM, rg1M, rg2M, lrgM, trgM, upM, tstM, notT, andT, orT, retS, expS, setS, unpS, ifS, nxS, raiS, seqS, tryS, endF, fin, ofE, bnd, MI.ret, rd, intV, boolV, toDs, gd, bl, is_int, is_bool, is_str, is_tup, is_lst, isT, isS, isI, isL, isB', truth_bl, cmp_le, cmp_lt, cmp_ge, cmp_eqI, cmp_neI, cmp_eqS, cmp_neS, bin_add, bin_sub, ix0, ix1, ix2, len_tup, len_lst, truth_tup, q_within, ne_pt, ne_pc, ne_tc, ne_tp, ne_cp, ne_ct, lx2, lx3, ly2, ly3, q_is_kind, bind2, ek1, ek2, ek3, ek4, ek5, ec1, ec2, ec3, ec4, ie1, is_non, is_tf, isB_bl, q_is_int, hi', r0, rL, wi, cont, g1, g2, g3, e1, e2, b1, b2, -Int.reduceNeg]
          · by_cases g2 : -2 ≤ i <;> simp [getM, getV, binM, cmpM, cmp2M, cmp3M, MI.notM, negM, MI.andM, MI.orM, iteM, seqL, tupM, lstM, lstN, ixM, partM, cutM, isM, bltM, usrM, rg1M, rg2M, lrgM, trgM, upM, tstM, notT, andT, orT, retS, expS, setS, unpS, ifS, nxS, raiS, seqS, tryS, endF, fin, ofE, bnd, MI.ret, rd, intV, boolV, toDs, gd, bl, is_int, is_bool, is_str, is_tup, is_lst, isT, isS, isI, isL, isB', truth_bl, cmp_le, cmp_lt, cmp_ge, cmp_eqI, cmp_neI, cmp_eqS, cmp_neS, bin_add, bin_sub, ix0, ix1, ix2, len_tup, len_lst, truth_tup, q_within, ne_pt, ne_pc, ne_tc, ne_tp, ne_cp, ne_ct, lx2, lx3, ly2, ly3, q_is_kind, bind2, ek1, ek2, ek3, ek4, ek5, ec1, ec2, ec3, ec4, ie1, is_non, is_tf, isB_bl, q_is_int, hi', r0, rL, wi, cont, g1, g2, e1, e2, b1, b2, -Int.reduceNeg]
        | p n h1 h2 =>
          by_cases g1 : 0 ≤ i
          · have g2 : -2 ≤ i := by omega
            by_cases g3 : i ≤ n - 1 <;> simp [getM, getV, binM, cmpM, cmp2M, cmp3M, MI.notM, negM, MI.andM, MI.orM, iteM, seqL, tupM, lstM, lstN, ixM, partM, cutM, isM, bltM, usrM, rg1M, rg2M, lrgM, trgM, upM, tstM, notT, andT, orT, retS, expS, setS, unpS, ifS, nxS, raiS, seqS, tryS, endF, fin, ofE, bnd, MI.ret, rd, intV, boolV, toDs, gd, bl, is_int, is_bool, is_str, is_tup, is_lst, isT, isS, isI, isL, isB', truth_bl, cmp_le, cmp_lt, cmp_ge, cmp_eqI, cmp_neI, cmp_eqS, cmp_neS, bin_add, bin_sub, ix0, ix1, ix2, len_tup, len_lst, truth_tup, q_within, ne_pt, ne_pc, ne_tc, ne_tp, ne_cp, ne_ct, lx2, lx3, ly2, ly3, q_is_kind, bind2, ek1, ek2, ek3, ek4, ek5, ec1, ec2, ec3, ec4, ie1, is_non, is_tf, isB_bl, q_is_int, hi', r0, rL, wi, cont, g1, g2, g3, e1, e2, b1, b2, -Int.reduceNeg]
          · have g2 : ¬ -2 ≤ i := by omega
            simp [getM, getV, binM, cmpM, cmp2M, cmp3M, MI.notM, negM, MI.andM, MI.orM, iteM, seqL, tupM, lstM, lstN, ixM, partM, cutM, isM, bltM, usrM, rg1M, rg2M, lrgM, trgM, upM, tstM, notT, andT, orT, retS, expS, setS, unpS, ifS, nxS, raiS, seqS, tryS, endF, fin, ofE, bnd, MI.ret, rd, intV, boolV, toDs, gd, bl, is_int, is_bool, is_str, is_tup, is_lst, isT, isS, isI, isL, isB', truth_bl, cmp_le, cmp_lt, cmp_ge, cmp_eqI, cmp_neI, cmp_eqS, cmp_neS, bin_add, bin_sub, ix0, ix1, ix2, len_tup, len_lst, truth_tup, q_within, ne_pt, ne_pc, ne_tc, ne_tp, ne_cp, ne_ct, lx2, lx3, ly2, ly3, q_is_kind, bind2, ek1, ek2, ek3, ek4, ek5, ec1, ec2, ec3, ec4, ie1, is_non, is_tf, isB_bl, q_is_int, hi', r0, rL, wi, cont, g1, g2, e1, e2, b1, b2, -Int.reduceNeg]
        | t n h1 h2 =>
          have g0 : (decide (-1 ≤ i) && decide (i ≤ -1)) = false := by
            rw [Bool.and_eq_false_iff]
            simp [getM, getV, binM, cmpM, cmp2M, cmp3M, MI.notM, negM, MI.andM, MI.orM, iteM, seqL, tupM, lstM, lstN, ixM, partM, cutM, isM, bltM, usrM, rg1M, rg2M, lrgM, trgM, upM, tstM, notT, andT, orT, retS, expS, setS, unpS, ifS, nxS, raiS, seqS, tryS, endF, fin, ofE, bnd, MI.ret, rd, intV, boolV, toDs, gd, bl, is_int, is_bool, is_str, is_tup, is_lst, isT, isS, isI, isL, isB', truth_bl, cmp_le, cmp_lt, cmp_ge, cmp_eqI, cmp_neI, cmp_eqS, cmp_neS, bin_add, bin_sub, ix0, ix1, ix2, len_tup, len_lst, truth_tup, q_within, ne_pt, ne_pc, ne_tc, ne_tp, ne_cp, ne_ct, lx2, lx3, ly2, ly3, q_is_kind, bind2, ek1, ek2, ek3, ek4, ek5, ec1, ec2, ec3, ec4, ie1, is_non, is_tf, isB_bl, q_is_int]
            omega
          by_cases g1 : 1 ≤ i
          · by_cases g3 : i ≤ 2 ^ n.toNat - 1 <;> simp [getM, getV, binM, cmpM, cmp2M, cmp3M, MI.notM, negM, MI.andM, MI.orM, iteM, seqL, tupM, lstM, lstN, ixM, partM, cutM, isM, bltM, usrM, rg1M, rg2M, lrgM, trgM, upM, tstM, notT, andT, orT, retS, expS, setS, unpS, ifS, nxS, raiS, seqS, tryS, endF, fin, ofE, bnd, MI.ret, rd, intV, boolV, toDs, gd, bl, is_int, is_bool, is_str, is_tup, is_lst, isT, isS, isI, isL, isB', truth_bl, cmp_le, cmp_lt, cmp_ge, cmp_eqI, cmp_neI, cmp_eqS, cmp_neS, bin_add, bin_sub, ix0, ix1, ix2, len_tup, len_lst, truth_tup, q_within, ne_pt, ne_pc, ne_tc, ne_tp, ne_cp, ne_ct, lx2, lx3, ly2, ly3, q_is_kind, bind2, ek1, ek2, ek3, ek4, ek5, ec1, ec2, ec3, ec4, ie1, is_non, is_tf, isB_bl, q_is_int, hi', r0, rL, wi, cont, g0, g1, g3, e1, e2, b1, b2, -Int.reduceNeg]
          · simp [getM, getV, binM, cmpM, cmp2M, cmp3M, MI.notM, negM, MI.andM, MI.orM, iteM, seqL, tupM, lstM, lstN, ixM, partM, cutM, isM, bltM, usrM, rg1M, rg2M, lrgM, trgM, upM, tstM, notT, andT, orT, retS, expS, setS, unpS, ifS, nxS, raiS, seqS, tryS, endF, fin, ofE, bnd, MI.ret, rd, intV, boolV, toDs, gd, bl, is_int, is_bool, is_str, is_tup, is_lst, isT, isS, isI, isL, isB', truth_bl, cmp_le, cmp_lt, cmp_ge, cmp_eqI, cmp_neI, cmp_eqS, cmp_neS, bin_add, bin_sub, ix0, ix1, ix2, len_tup, len_lst, truth_tup, q_within, ne_pt, ne_pc, ne_tc, ne_tp, ne_cp, ne_ct, lx2, lx3, ly2, ly3, q_is_kind, bind2, ek1, ek2, ek3, ek4, ek5, ec1, ec2, ec3, ec4, ie1, is_non, is_tf, isB_bl, q_is_int, hi', r0, rL, wi, cont, g0, g1, e1, e2, b1, b2, -Int.reduceNeg]
  | _ => cases k <;> simp [getM, getV, binM, cmpM, cmp2M, cmp3M, MI.notM, negM, MI.andM, MI.orM, iteM, seqL, tupM, lstM, lstN, ixM, partM, cutM, isM, bltM, usrM, rg1M, rg2M, lrgM, trgM, upM, tstM, notT, andT, orT, retS, expS, setS, unpS, ifS, nxS, raiS, seqS, tryS, endF, fin, ofE, bnd, MI.ret, rd, intV, boolV, toDs, gd, bl, is_int, is_bool, is_str, is_tup, is_lst, isT, isS, isI, isL, isB', truth_bl, cmp_le, cmp_lt, cmp_ge, cmp_eqI, cmp_neI, cmp_eqS, cmp_neS, bin_add, bin_sub, ix0, ix1, ix2, len_tup, len_lst, truth_tup, q_within, ne_pt, ne_pc, ne_tc, ne_tp, ne_cp, ne_ct, lx2, lx3, ly2, ly3, q_is_kind, bind2, ek1, ek2, ek3, ek4, ek5, ec1, ec2, ec3, ec4, ie1, is_non, is_tf, isB_bl, q_is_int, hi', r0, rL, wi, cont]

theorem body_ok (d : Nat) {x : D} {lo hi : Int} (k : Kd x lo hi) (t : Val) (y : D) (v4 v5 v6 : Option Val) (h : MH) :
    bodyK (callF g (d + 7)) [some (.d x), some t, some (.d (.lst (rgD lo (hi + 1)))), some (.d y), v4, v5, v6] h = .nx [some (.d x), some t, some (.d (.lst (rgD lo (hi + 1)))), some (.d y), some (.d (.bl (isI y))), some (.d (.bl (wi y lo hi))), some (.d (.bl (cont x hi y)))] h := by
  unfold bodyK
  rw [bodyK_pre k t y v4 v5 v6 h _ (fun h => row0 k.ends.2.1 h) (fun h => rowL k.ends.2.1 h) (q_is_int (d + 6) y h)]
  exact bodyK_fin (lo := lo) (hi := hi) (q_is_answer (d + 3) k y h) (q_is_content (d + 3) k y h) (q_boxes_told d k y h) (q_alike_2 (d + 4) _ _ h) _
theorem loopK (d : Nat) {x : D} {lo hi : Int} (k : Kd x lo hi) (t : Val) (h : MH) : ∀ (xs : List D) (v3 v4 v5 v6 : Option Val), ∃ w3 w4 w5 w6,
    loopF (bindS (false, [3])) (bodyK (callF g (d + 7))) xs [some (.d x), some t, some (.d (.lst (rgD lo (hi + 1)))), v3, v4, v5, v6] h = .nx [some (.d x), some t, some (.d (.lst (rgD lo (hi + 1)))), w3, w4, w5, w6] h
  | [], v3, v4, v5, v6 => ⟨v3, v4, v5, v6, rfl⟩
  | y :: xs, v3, v4, v5, v6 => by
    obtain ⟨w3, w4, w5, w6, ih⟩ := loopK d k t h xs (some (.d y)) (some (.d (.bl (isI y)))) (some (.d (.bl (wi y lo hi)))) (some (.d (.bl (cont x hi y))))
    refine ⟨w3, w4, w5, w6, ?_⟩
    unfold loopF
    have eb : bindS (false, [3]) y [some (.d x), some t, some (.d (.lst (rgD lo (hi + 1)))), v3, v4, v5, v6] = some [some (.d x), some t, some (.d (.lst (rgD lo (hi + 1)))), some (.d y), v4, v5, v6] := rfl
    simp only [eb, body_ok d k t y v4 v5 v6 h]
    exact ih
theorem frz_lst (xs : List D) : frozen (.d (.lst xs)) = some xs := rfl
theorem tup_lst (xs : List D) (h : MH) : pCall "tuple" [.d (.lst xs)] h = some (.d (.tup xs)) := rfl
theorem q_kind_told (d : Nat) {x : D} {lo hi : Int} (k : Kd x lo hi) (xs : List D) (h : MH) : callF g (d + 8) "_law_kind_told" [.d x, .d (.lst xs)] h = .ok (.d (.bl true)) h := by
  rw [c__law_kind_told]
  obtain ⟨w3, w4, w5, w6, e⟩ := loopK d k (.d (.lst xs)) h xs none none none none
  have hl : ((rgD lo (hi + 1)).length : Int) = hi - lo + 1 := by
    have := k.ends
    rw [rgD_len]
    omega
  have ea := q_law_answers (d + 6) k h
  have al := q_alike_3 (d + 3) (l := rgD lo (hi + 1)) (by rw [rgD_len]; have := k.ends; omega) (fun x => rgD_int) (hi - lo + 1) h
  have en := q_answers (d + 3) k h
  have es := q_size (d + 3) k h
  have eB : s__law_kind_told (callF g (d + 7)) = seqS (setS 2 (fun σ => usrM (callF g (d + 7)) "_law_answers" 1 [getM σ 0])) (seqS (ifS (fun σ => (notT (tstM (usrM (callF g (d + 7)) "_law_alike" 2 [lstM [usrM (callF g (d + 7)) "is_kind" 1 [getM σ 0], usrM (callF g (d + 7)) "answers_of" 1 [getM σ 0], usrM (callF g (d + 7)) "size_of" 1 [getM σ 0]], lstM [MI.ret (.d (.bl true)), bltM "tuple" [getM σ 2], bltM "len" [getM σ 2]]])))) (retS (fun σ => MI.ret (.d (.bl false)))) (nxS)) (seqS (forS (false, [3]) (fun σ => (frI (getM σ 1))) (bodyK (callF g (d + 7)))) (retS (fun σ => MI.ret (.d (.bl true)))))) := rfl
  rw [eB]
  simp [getM, getV, binM, cmpM, cmp2M, cmp3M, MI.notM, negM, MI.andM, MI.orM, iteM, seqL, tupM, lstM, lstN, ixM, partM, cutM, isM, bltM, usrM, rg1M, rg2M, lrgM, trgM, upM, tstM, notT, andT, orT, retS, expS, setS, unpS, ifS, nxS, raiS, seqS, tryS, endF, fin, ofE, bnd, MI.ret, rd, intV, boolV, toDs, gd, bl, is_int, is_bool, is_str, is_tup, is_lst, isT, isS, isI, isL, isB', truth_bl, cmp_le, cmp_lt, cmp_ge, cmp_eqI, cmp_neI, cmp_eqS, cmp_neS, bin_add, bin_sub, ix0, ix1, ix2, len_tup, len_lst, truth_tup, q_within, ne_pt, ne_pc, ne_tc, ne_tp, ne_cp, ne_ct, lx2, lx3, ly2, ly3, q_is_kind, bind2, ek1, ek2, ek3, ek4, ek5, ec1, ec2, ec3, ec4, ie1, is_non, is_tf, isB_bl, q_is_int, ea, k.isK, en, es, hl, al, tup_lst, forS, frI, frz_lst, e]
end K9
set_option maxRecDepth 100000
namespace K9
open MI PySem
def Dr (h : MH) (i : Nat) (m : Nat) : Prop := ∃ a b c, h[i]? = some (.lst [.int a, .int b, .int c]) ∧ 0 ≤ b ∧ b ≤ (m : Int)
structure Upd (h h' : MH) (i : Nat) (m : Nat) : Prop where
  len : h'.length = h.length
  dr : Dr h' i m
  oth : ∀ j, j ≠ i → h'[j]? = h[j]?
theorem pIxm {h : MH} {i : Nat} {xs : List D} (e : h[i]? = some (.lst xs)) (j : Int) : pIx (.m i) (.d (.int j)) h = (L2.atI xs j).map .d := by
  show (match items (.m i) h with | some xs => (L2.atI xs j).map Val.d | none => none) = _
  unfold items
  simp only [e]
theorem at30 (x y z : D) : L2.atI [x, y, z] 0 = some x := rfl
theorem at31 (x y z : D) : L2.atI [x, y, z] 1 = some y := rfl
theorem at32 (x y z : D) : L2.atI [x, y, z] 2 = some z := rfl
theorem ixN30 : L2.ixN 3 0 = some 0 := rfl
theorem ixN31 : L2.ixN 3 1 = some 1 := rfl
theorem modI (i j : Int) (hj : 0 < j) (h : MH) : pBin .Mod (.d (.int i)) (.d (.int j)) h = some (.d (.int (i % j))) := by
  show gd (decide (0 < j)) (Val.d (.int (i % j))) = _
  rw [decide_eq_true hj]; rfl
theorem divI (i j : Int) (hj : 0 < j) (hj2 : j < 1073741824) (h : MH) : pBin .FloorDiv (.d (.int i)) (.d (.int j)) h = some (.d (.int (i / j))) := by
  show gd (decide (0 < j) && decide (j < 1073741824)) (Val.d (.int (i / j))) = _
  rw [decide_eq_true hj, decide_eq_true hj2]; rfl
theorem bigI {i : Int} (h1 : -1000000000000000 < i) (h2 : i < 1000000000000000) : big i = true := by
  unfold big
  simp only [Bool.and_eq_true, decide_eq_true_eq]
  omega
theorem mulI {i j : Int} (hb : big i = true ∨ big j = true) (h : MH) : pBin .Mult (.d (.int i)) (.d (.int j)) h = some (.d (.int (i * j))) := by
  show gd (big i || big j) (Val.d (.int (i * j))) = _
  rcases hb with hb | hb
  · rw [hb]; rfl
  · rw [hb, Bool.or_true]; rfl
theorem intI (i : Int) (h : MH) : pCall "int" [.d (.int i)] h = some (.d (.int i)) := rfl
theorem subS_ok {o i e : MI.Env → M Val} {σ : MI.Env} {h : MH} {v : D} {a : Nat} {j : Int} {xs : List D} {k : Nat} (he : e σ h = .ok (.d v) h) (ho : o σ h = .ok (.m a) h) (hi : i σ h = .ok (.d (.int j)) h) (hx : h[a]? = some (.lst xs)) (hk : L2.ixN xs.length j = some k) :
    subS o i e σ h = .nx σ (h.set a (.lst (xs.set k v))) := by
  unfold subS
  simp only [ofE, he, ho, hi, hx, hk]
theorem sq {a b : MS} {σ σ1 : MI.Env} {h h1 : MH} (e : a σ h = .nx σ1 h1) : seqS a b σ h = b σ1 h1 := by unfold seqS; rw [e]
theorem sqr {a b : MS} {σ : MI.Env} {h h1 : MH} {v : Val} (e : a σ h = .rt v h1) : seqS a b σ h = .rt v h1 := by unfold seqS; rw [e]
theorem if_t {t : MI.Env → M Bool} {a b : MS} {σ : MI.Env} {h h1 : MH} (e : t σ h = .ok true h1) : ifS t a b σ h = a σ h1 := by unfold ifS ofE; rw [e]; rfl
theorem if_f {t : MI.Env → M Bool} {a b : MS} {σ : MI.Env} {h h1 : MH} (e : t σ h = .ok false h1) : ifS t a b σ h = b σ h1 := by unfold ifS ofE; rw [e]; rfl
theorem st_ok {e : MI.Env → M Val} {i : Nat} {σ : MI.Env} {h h1 : MH} {v : Val} (q : e σ h = .ok v h1) : setS i e σ h = .nx (σ.set i (some v)) h1 := by unfold setS ofE; rw [q]
theorem rt_ok {e : MI.Env → M Val} {σ : MI.Env} {h h1 : MH} {v : Val} (q : e σ h = .ok v h1) : retS e σ h = .rt v h1 := by unfold retS ofE; rw [q]
theorem end_rt {L : Nat} {x : D} {h : MH} (hl : h.length = L) : endF false L (.rt (.d x) h) = .ok (.d x) h := by
  show Res.ok (Val.d x) (h.take L) = _
  rw [List.take_of_length_le (by omega)]
theorem q_next (d : Nat) {h : MH} {i m : Nat} {n : Int} (dr : Dr h i m) (hm : m < 1000000000000) (hn : 0 < n) : ∃ r h', callF g (d + 1) "_law_next" [.m i, .d (.int n)] h = .ok (.d (.int r)) h' ∧ 0 ≤ r ∧ r < n ∧ Upd h h' i (m + 1) := by
  obtain ⟨a, b, c, e, hb, hb2⟩ := dr
  have hi : i < h.length := (List.getElem?_eq_some_iff.mp e).1
  rw [c__law_next]
  unfold s__law_next
  have p0 := pIxm e 0
  rw [at30] at p0
  have p1 := pIxm e 1
  rw [at31] at p1
  have p2 := pIxm e 2
  rw [at32] at p2
  simp only [Option.map_some] at p0 p1 p2
  by_cases ha : 1000 ≤ a
  · have su : ∀ σ2 : Option Val, subS (fun σ => getM σ 0) (fun σ => MI.ret (.d (.int (0)))) (fun σ => binM .FloorDiv (ixM (getM σ 0) (MI.ret (.d (.int (0))))) (MI.ret (.d (.int (1000))))) [some (.m i), some (.d (.int n)), σ2, none] h = .nx [some (.m i), some (.d (.int n)), σ2, none] (h.set i (.lst [.int (a / 1000), .int b, .int c])) := fun σ2 =>
      subS_ok (v := .int (a / 1000)) (xs := [.int a, .int b, .int c]) (j := 0) (k := 0) (by simp [getM, getV, binM, cmpM, cmp2M, cmp3M, MI.notM, negM, MI.andM, MI.orM, iteM, seqL, tupM, lstM, lstN, ixM, partM, cutM, isM, bltM, usrM, rg1M, rg2M, lrgM, trgM, upM, tstM, notT, andT, orT, retS, expS, setS, unpS, ifS, nxS, raiS, seqS, tryS, endF, fin, ofE, bnd, MI.ret, rd, intV, boolV, toDs, gd, bl, is_int, is_bool, is_str, is_tup, is_lst, isT, isS, isI, isL, isB', truth_bl, cmp_le, cmp_lt, cmp_ge, cmp_eqI, cmp_neI, cmp_eqS, cmp_neS, bin_add, bin_sub, ix0, ix1, ix2, len_tup, len_lst, truth_tup, q_within, ne_pt, ne_pc, ne_tc, ne_tp, ne_cp, ne_ct, lx2, lx3, ly2, ly3, q_is_kind, bind2, ek1, ek2, ek3, ek4, ek5, ec1, ec2, ec3, ec4, ie1, is_non, is_tf, isB_bl, q_is_int, p0, divI]) (by simp [getM, getV, binM, cmpM, cmp2M, cmp3M, MI.notM, negM, MI.andM, MI.orM, iteM, seqL, tupM, lstM, lstN, ixM, partM, cutM, isM, bltM, usrM, rg1M, rg2M, lrgM, trgM, upM, tstM, notT, andT, orT, retS, expS, setS, unpS, ifS, nxS, raiS, seqS, tryS, endF, fin, ofE, bnd, MI.ret, rd, intV, boolV, toDs, gd, bl, is_int, is_bool, is_str, is_tup, is_lst, isT, isS, isI, isL, isB', truth_bl, cmp_le, cmp_lt, cmp_ge, cmp_eqI, cmp_neI, cmp_eqS, cmp_neS, bin_add, bin_sub, ix0, ix1, ix2, len_tup, len_lst, truth_tup, q_within, ne_pt, ne_pc, ne_tc, ne_tp, ne_cp, ne_ct, lx2, lx3, ly2, ly3, q_is_kind, bind2, ek1, ek2, ek3, ek4, ek5, ec1, ec2, ec3, ec4, ie1, is_non, is_tf, isB_bl, q_is_int]) (by simp [getM, getV, binM, cmpM, cmp2M, cmp3M, MI.notM, negM, MI.andM, MI.orM, iteM, seqL, tupM, lstM, lstN, ixM, partM, cutM, isM, bltM, usrM, rg1M, rg2M, lrgM, trgM, upM, tstM, notT, andT, orT, retS, expS, setS, unpS, ifS, nxS, raiS, seqS, tryS, endF, fin, ofE, bnd, MI.ret, rd, intV, boolV, toDs, gd, bl, is_int, is_bool, is_str, is_tup, is_lst, isT, isS, isI, isL, isB', truth_bl, cmp_le, cmp_lt, cmp_ge, cmp_eqI, cmp_neI, cmp_eqS, cmp_neS, bin_add, bin_sub, ix0, ix1, ix2, len_tup, len_lst, truth_tup, q_within, ne_pt, ne_pc, ne_tc, ne_tp, ne_cp, ne_ct, lx2, lx3, ly2, ly3, q_is_kind, bind2, ek1, ek2, ek3, ek4, ek5, ec1, ec2, ec3, ec4, ie1, is_non, is_tf, isB_bl, q_is_int]) e rfl
    refine ⟨a % 1000 % n, h.set i (.lst [.int (a / 1000), .int b, .int c]), ?_, Int.emod_nonneg _ (by omega), Int.emod_lt_of_pos _ hn, by simp [getM, getV, binM, cmpM, cmp2M, cmp3M, MI.notM, negM, MI.andM, MI.orM, iteM, seqL, tupM, lstM, lstN, ixM, partM, cutM, isM, bltM, usrM, rg1M, rg2M, lrgM, trgM, upM, tstM, notT, andT, orT, retS, expS, setS, unpS, ifS, nxS, raiS, seqS, tryS, endF, fin, ofE, bnd, MI.ret, rd, intV, boolV, toDs, gd, bl, is_int, is_bool, is_str, is_tup, is_lst, isT, isS, isI, isL, isB', truth_bl, cmp_le, cmp_lt, cmp_ge, cmp_eqI, cmp_neI, cmp_eqS, cmp_neS, bin_add, bin_sub, ix0, ix1, ix2, len_tup, len_lst, truth_tup, q_within, ne_pt, ne_pc, ne_tc, ne_tp, ne_cp, ne_ct, lx2, lx3, ly2, ly3, q_is_kind, bind2, ek1, ek2, ek3, ek4, ek5, ec1, ec2, ec3, ec4, ie1, is_non, is_tf, isB_bl, q_is_int], ⟨a / 1000, b, c, List.getElem?_set_self hi, hb, by push_cast; omega⟩, fun j hj => List.getElem?_set_ne (Ne.symm hj)⟩
    rw [sqr (v := .d (.int (a % 1000 % n))) (h1 := h.set i (.lst [.int (a / 1000), .int b, .int c])) ?_]
    · exact end_rt (by simp [getM, getV, binM, cmpM, cmp2M, cmp3M, MI.notM, negM, MI.andM, MI.orM, iteM, seqL, tupM, lstM, lstN, ixM, partM, cutM, isM, bltM, usrM, rg1M, rg2M, lrgM, trgM, upM, tstM, notT, andT, orT, retS, expS, setS, unpS, ifS, nxS, raiS, seqS, tryS, endF, fin, ofE, bnd, MI.ret, rd, intV, boolV, toDs, gd, bl, is_int, is_bool, is_str, is_tup, is_lst, isT, isS, isI, isL, isB', truth_bl, cmp_le, cmp_lt, cmp_ge, cmp_eqI, cmp_neI, cmp_eqS, cmp_neS, bin_add, bin_sub, ix0, ix1, ix2, len_tup, len_lst, truth_tup, q_within, ne_pt, ne_pc, ne_tc, ne_tp, ne_cp, ne_ct, lx2, lx3, ly2, ly3, q_is_kind, bind2, ek1, ek2, ek3, ek4, ek5, ec1, ec2, ec3, ec4, ie1, is_non, is_tf, isB_bl, q_is_int])
    · rw [if_t (h1 := h) (by simp [getM, getV, binM, cmpM, cmp2M, cmp3M, MI.notM, negM, MI.andM, MI.orM, iteM, seqL, tupM, lstM, lstN, ixM, partM, cutM, isM, bltM, usrM, rg1M, rg2M, lrgM, trgM, upM, tstM, notT, andT, orT, retS, expS, setS, unpS, ifS, nxS, raiS, seqS, tryS, endF, fin, ofE, bnd, MI.ret, rd, intV, boolV, toDs, gd, bl, is_int, is_bool, is_str, is_tup, is_lst, isT, isS, isI, isL, isB', truth_bl, cmp_le, cmp_lt, cmp_ge, cmp_eqI, cmp_neI, cmp_eqS, cmp_neS, bin_add, bin_sub, ix0, ix1, ix2, len_tup, len_lst, truth_tup, q_within, ne_pt, ne_pc, ne_tc, ne_tp, ne_cp, ne_ct, lx2, lx3, ly2, ly3, q_is_kind, bind2, ek1, ek2, ek3, ek4, ek5, ec1, ec2, ec3, ec4, ie1, is_non, is_tf, isB_bl, q_is_int, p0, ha])]
      rw [sq (st_ok (v := .d (.int (a % 1000))) (h1 := h) (by simp [getM, getV, binM, cmpM, cmp2M, cmp3M, MI.notM, negM, MI.andM, MI.orM, iteM, seqL, tupM, lstM, lstN, ixM, partM, cutM, isM, bltM, usrM, rg1M, rg2M, lrgM, trgM, upM, tstM, notT, andT, orT, retS, expS, setS, unpS, ifS, nxS, raiS, seqS, tryS, endF, fin, ofE, bnd, MI.ret, rd, intV, boolV, toDs, gd, bl, is_int, is_bool, is_str, is_tup, is_lst, isT, isS, isI, isL, isB', truth_bl, cmp_le, cmp_lt, cmp_ge, cmp_eqI, cmp_neI, cmp_eqS, cmp_neS, bin_add, bin_sub, ix0, ix1, ix2, len_tup, len_lst, truth_tup, q_within, ne_pt, ne_pc, ne_tc, ne_tp, ne_cp, ne_ct, lx2, lx3, ly2, ly3, q_is_kind, bind2, ek1, ek2, ek3, ek4, ek5, ec1, ec2, ec3, ec4, ie1, is_non, is_tf, isB_bl, q_is_int, p0, modI, intI]))]
      rw [show List.set [some (Val.m i), some (Val.d (.int n)), none, none] 2 (some (Val.d (.int (a % 1000)))) = [some (Val.m i), some (Val.d (.int n)), some (Val.d (.int (a % 1000))), none] from rfl, sq (su _)]
      exact rt_ok (by simp [getM, getV, binM, cmpM, cmp2M, cmp3M, MI.notM, negM, MI.andM, MI.orM, iteM, seqL, tupM, lstM, lstN, ixM, partM, cutM, isM, bltM, usrM, rg1M, rg2M, lrgM, trgM, upM, tstM, notT, andT, orT, retS, expS, setS, unpS, ifS, nxS, raiS, seqS, tryS, endF, fin, ofE, bnd, MI.ret, rd, intV, boolV, toDs, gd, bl, is_int, is_bool, is_str, is_tup, is_lst, isT, isS, isI, isL, isB', truth_bl, cmp_le, cmp_lt, cmp_ge, cmp_eqI, cmp_neI, cmp_eqS, cmp_neS, bin_add, bin_sub, ix0, ix1, ix2, len_tup, len_lst, truth_tup, q_within, ne_pt, ne_pc, ne_tc, ne_tp, ne_cp, ne_ct, lx2, lx3, ly2, ly3, q_is_kind, bind2, ek1, ek2, ek3, ek4, ek5, ec1, ec2, ec3, ec4, ie1, is_non, is_tf, isB_bl, q_is_int, intI, modI _ _ hn])
  · have e' : (h.set i (.lst [.int a, .int (b + 1), .int c]))[i]? = some (.lst [.int a, .int (b + 1), .int c]) := List.getElem?_set_self hi
    have su : subS (fun σ => getM σ 0) (fun σ => MI.ret (.d (.int (1)))) (fun σ => binM .Add (ixM (getM σ 0) (MI.ret (.d (.int (1))))) (MI.ret (.d (.int (1))))) [some (.m i), some (.d (.int n)), none, none] h = .nx [some (.m i), some (.d (.int n)), none, none] (h.set i (.lst [.int a, .int (b + 1), .int c])) :=
      subS_ok (v := .int (b + 1)) (xs := [.int a, .int b, .int c]) (j := 1) (k := 1) (by simp [getM, getV, binM, cmpM, cmp2M, cmp3M, MI.notM, negM, MI.andM, MI.orM, iteM, seqL, tupM, lstM, lstN, ixM, partM, cutM, isM, bltM, usrM, rg1M, rg2M, lrgM, trgM, upM, tstM, notT, andT, orT, retS, expS, setS, unpS, ifS, nxS, raiS, seqS, tryS, endF, fin, ofE, bnd, MI.ret, rd, intV, boolV, toDs, gd, bl, is_int, is_bool, is_str, is_tup, is_lst, isT, isS, isI, isL, isB', truth_bl, cmp_le, cmp_lt, cmp_ge, cmp_eqI, cmp_neI, cmp_eqS, cmp_neS, bin_add, bin_sub, ix0, ix1, ix2, len_tup, len_lst, truth_tup, q_within, ne_pt, ne_pc, ne_tc, ne_tp, ne_cp, ne_ct, lx2, lx3, ly2, ly3, q_is_kind, bind2, ek1, ek2, ek3, ek4, ek5, ec1, ec2, ec3, ec4, ie1, is_non, is_tf, isB_bl, q_is_int, p1]) (by simp [getM, getV, binM, cmpM, cmp2M, cmp3M, MI.notM, negM, MI.andM, MI.orM, iteM, seqL, tupM, lstM, lstN, ixM, partM, cutM, isM, bltM, usrM, rg1M, rg2M, lrgM, trgM, upM, tstM, notT, andT, orT, retS, expS, setS, unpS, ifS, nxS, raiS, seqS, tryS, endF, fin, ofE, bnd, MI.ret, rd, intV, boolV, toDs, gd, bl, is_int, is_bool, is_str, is_tup, is_lst, isT, isS, isI, isL, isB', truth_bl, cmp_le, cmp_lt, cmp_ge, cmp_eqI, cmp_neI, cmp_eqS, cmp_neS, bin_add, bin_sub, ix0, ix1, ix2, len_tup, len_lst, truth_tup, q_within, ne_pt, ne_pc, ne_tc, ne_tp, ne_cp, ne_ct, lx2, lx3, ly2, ly3, q_is_kind, bind2, ek1, ek2, ek3, ek4, ek5, ec1, ec2, ec3, ec4, ie1, is_non, is_tf, isB_bl, q_is_int]) (by simp [getM, getV, binM, cmpM, cmp2M, cmp3M, MI.notM, negM, MI.andM, MI.orM, iteM, seqL, tupM, lstM, lstN, ixM, partM, cutM, isM, bltM, usrM, rg1M, rg2M, lrgM, trgM, upM, tstM, notT, andT, orT, retS, expS, setS, unpS, ifS, nxS, raiS, seqS, tryS, endF, fin, ofE, bnd, MI.ret, rd, intV, boolV, toDs, gd, bl, is_int, is_bool, is_str, is_tup, is_lst, isT, isS, isI, isL, isB', truth_bl, cmp_le, cmp_lt, cmp_ge, cmp_eqI, cmp_neI, cmp_eqS, cmp_neS, bin_add, bin_sub, ix0, ix1, ix2, len_tup, len_lst, truth_tup, q_within, ne_pt, ne_pc, ne_tc, ne_tp, ne_cp, ne_ct, lx2, lx3, ly2, ly3, q_is_kind, bind2, ek1, ek2, ek3, ek4, ek5, ec1, ec2, ec3, ec4, ie1, is_non, is_tf, isB_bl, q_is_int]) e rfl
    have u1 := pIxm e' 1
    rw [at31] at u1
    have u2 := pIxm e' 2
    rw [at32] at u2
    simp only [Option.map_some] at u1 u2
    generalize hh : h.set i (.lst [.int a, .int (b + 1), .int c]) = hq at su e' u1 u2
    have lq : hq.length = h.length := by rw [← hh]; simp [getM, getV, binM, cmpM, cmp2M, cmp3M, MI.notM, negM, MI.andM, MI.orM, iteM, seqL, tupM, lstM, lstN, ixM, partM, cutM, isM, bltM, usrM, rg1M, rg2M, lrgM, trgM, upM, tstM, notT, andT, orT, retS, expS, setS, unpS, ifS, nxS, raiS, seqS, tryS, endF, fin, ofE, bnd, MI.ret, rd, intV, boolV, toDs, gd, bl, is_int, is_bool, is_str, is_tup, is_lst, isT, isS, isI, isL, isB', truth_bl, cmp_le, cmp_lt, cmp_ge, cmp_eqI, cmp_neI, cmp_eqS, cmp_neS, bin_add, bin_sub, ix0, ix1, ix2, len_tup, len_lst, truth_tup, q_within, ne_pt, ne_pc, ne_tc, ne_tp, ne_cp, ne_ct, lx2, lx3, ly2, ly3, q_is_kind, bind2, ek1, ek2, ek3, ek4, ek5, ec1, ec2, ec3, ec4, ie1, is_non, is_tf, isB_bl, q_is_int]
    have oq : ∀ j, j ≠ i → hq[j]? = h[j]? := fun j hj => by rw [← hh]; exact List.getElem?_set_ne (Ne.symm hj)
    have b1 : big (48271 : Int) = true := bigI (by omega) (by omega)
    have b2 : big (69621 : Int) = true := bigI (by omega) (by omega)
    have b3 : big (7 : Int) = true := bigI (by omega) (by omega)
    have b4 : big (31 : Int) = true := bigI (by omega) (by omega)
    have b5 : big (b + 1) = true := bigI (by omega) (by omega)
    have s1 : ∀ v : Option Val, setS 3 (fun σ => binM .Mod (bltM "int" [binM .Add (binM .Mult (binM .Add (binM .Mod (bltM "int" [ixM (getM σ 0) (MI.ret (.d (.int (2))))]) (MI.ret (.d (.int (1000003))))) (MI.ret (.d (.int (1))))) (MI.ret (.d (.int (48271))))) (binM .Mult (ixM (getM σ 0) (MI.ret (.d (.int (1))))) (MI.ret (.d (.int (69621)))))]) (MI.ret (.d (.int (2147483647))))) [some (.m i), some (.d (.int n)), none, v] hq
        = .nx [some (.m i), some (.d (.int n)), none, some (.d (.int (((c % 1000003 + 1) * 48271 + (b + 1) * 69621) % 2147483647)))] hq := fun v => by
      simp [getM, getV, binM, cmpM, cmp2M, cmp3M, MI.notM, negM, MI.andM, MI.orM, iteM, seqL, tupM, lstM, lstN, ixM, partM, cutM, isM, bltM, usrM, rg1M, rg2M, lrgM, trgM, upM, tstM, notT, andT, orT, retS, expS, setS, unpS, ifS, nxS, raiS, seqS, tryS, endF, fin, ofE, bnd, MI.ret, rd, intV, boolV, toDs, gd, bl, is_int, is_bool, is_str, is_tup, is_lst, isT, isS, isI, isL, isB', truth_bl, cmp_le, cmp_lt, cmp_ge, cmp_eqI, cmp_neI, cmp_eqS, cmp_neS, bin_add, bin_sub, ix0, ix1, ix2, len_tup, len_lst, truth_tup, q_within, ne_pt, ne_pc, ne_tc, ne_tp, ne_cp, ne_ct, lx2, lx3, ly2, ly3, q_is_kind, bind2, ek1, ek2, ek3, ek4, ek5, ec1, ec2, ec3, ec4, ie1, is_non, is_tf, isB_bl, q_is_int, u1, u2, modI, intI, mulI (.inr b1), mulI (.inr b2)]
    generalize hm1 : ((c % 1000003 + 1) * 48271 + (b + 1) * 69621) % 2147483647 = m1 at s1
    have hm2 : 0 ≤ m1 ∧ m1 < 2147483647 := by
      rw [← hm1]
      exact ⟨Int.emod_nonneg _ (by omega), Int.emod_lt_of_pos _ (by omega)⟩
    have b6 : big m1 = true := bigI (by omega) (by omega)
    have s2 : setS 3 (fun σ => binM .Mod (bltM "int" [binM .Add (binM .Add (binM .Add (binM .Mult (getM σ 3) (getM σ 3)) (binM .Mult (MI.ret (.d (.int (7)))) (getM σ 3))) (binM .Mult (binM .Mult (ixM (getM σ 0) (MI.ret (.d (.int (1))))) (ixM (getM σ 0) (MI.ret (.d (.int (1)))))) (MI.ret (.d (.int (31)))))) (MI.ret (.d (.int (5))))]) (MI.ret (.d (.int (998244353))))) [some (.m i), some (.d (.int n)), none, some (.d (.int m1))] hq
        = .nx [some (.m i), some (.d (.int n)), none, some (.d (.int ((m1 * m1 + 7 * m1 + (b + 1) * (b + 1) * 31 + 5) % 998244353)))] hq := by
      simp [getM, getV, binM, cmpM, cmp2M, cmp3M, MI.notM, negM, MI.andM, MI.orM, iteM, seqL, tupM, lstM, lstN, ixM, partM, cutM, isM, bltM, usrM, rg1M, rg2M, lrgM, trgM, upM, tstM, notT, andT, orT, retS, expS, setS, unpS, ifS, nxS, raiS, seqS, tryS, endF, fin, ofE, bnd, MI.ret, rd, intV, boolV, toDs, gd, bl, is_int, is_bool, is_str, is_tup, is_lst, isT, isS, isI, isL, isB', truth_bl, cmp_le, cmp_lt, cmp_ge, cmp_eqI, cmp_neI, cmp_eqS, cmp_neS, bin_add, bin_sub, ix0, ix1, ix2, len_tup, len_lst, truth_tup, q_within, ne_pt, ne_pc, ne_tc, ne_tp, ne_cp, ne_ct, lx2, lx3, ly2, ly3, q_is_kind, bind2, ek1, ek2, ek3, ek4, ek5, ec1, ec2, ec3, ec4, ie1, is_non, is_tf, isB_bl, q_is_int, u1, modI, intI, mulI (.inr b6), mulI (.inl b3), mulI (.inr b4), mulI (.inr b5)]
    generalize hm3 : (m1 * m1 + 7 * m1 + (b + 1) * (b + 1) * 31 + 5) % 998244353 = m2 at s2
    refine ⟨m2 / 5 % n, hq, ?_, Int.emod_nonneg _ (by omega), Int.emod_lt_of_pos _ hn, lq, ⟨a, b + 1, c, e', by omega, by push_cast; omega⟩, oq⟩
    rw [sq (σ1 := [some (.m i), some (.d (.int n)), none, none]) (h1 := h) (by rw [if_f (h1 := h) (by simp [getM, getV, binM, cmpM, cmp2M, cmp3M, MI.notM, negM, MI.andM, MI.orM, iteM, seqL, tupM, lstM, lstN, ixM, partM, cutM, isM, bltM, usrM, rg1M, rg2M, lrgM, trgM, upM, tstM, notT, andT, orT, retS, expS, setS, unpS, ifS, nxS, raiS, seqS, tryS, endF, fin, ofE, bnd, MI.ret, rd, intV, boolV, toDs, gd, bl, is_int, is_bool, is_str, is_tup, is_lst, isT, isS, isI, isL, isB', truth_bl, cmp_le, cmp_lt, cmp_ge, cmp_eqI, cmp_neI, cmp_eqS, cmp_neS, bin_add, bin_sub, ix0, ix1, ix2, len_tup, len_lst, truth_tup, q_within, ne_pt, ne_pc, ne_tc, ne_tp, ne_cp, ne_ct, lx2, lx3, ly2, ly3, q_is_kind, bind2, ek1, ek2, ek3, ek4, ek5, ec1, ec2, ec3, ec4, ie1, is_non, is_tf, isB_bl, q_is_int, p0, ha])]; rfl), sq su, sq (s1 _), sq s2, rt_ok (v := .d (.int (m2 / 5 % n))) (h1 := hq) (by simp [getM, getV, binM, cmpM, cmp2M, cmp3M, MI.notM, negM, MI.andM, MI.orM, iteM, seqL, tupM, lstM, lstN, ixM, partM, cutM, isM, bltM, usrM, rg1M, rg2M, lrgM, trgM, upM, tstM, notT, andT, orT, retS, expS, setS, unpS, ifS, nxS, raiS, seqS, tryS, endF, fin, ofE, bnd, MI.ret, rd, intV, boolV, toDs, gd, bl, is_int, is_bool, is_str, is_tup, is_lst, isT, isS, isI, isL, isB', truth_bl, cmp_le, cmp_lt, cmp_ge, cmp_eqI, cmp_neI, cmp_eqS, cmp_neS, bin_add, bin_sub, ix0, ix1, ix2, len_tup, len_lst, truth_tup, q_within, ne_pt, ne_pc, ne_tc, ne_tp, ne_cp, ne_ct, lx2, lx3, ly2, ly3, q_is_kind, bind2, ek1, ek2, ek3, ek4, ek5, ec1, ec2, ec3, ec4, ie1, is_non, is_tf, isB_bl, q_is_int, divI, intI, modI _ _ hn])]
    exact end_rt lq
end K9
set_option maxRecDepth 100000
namespace K9
open MI PySem
theorem Dr.mono {h : MH} {i m m' : Nat} (d : Dr h i m) (hm : m ≤ m') : Dr h i m' := by
  obtain ⟨a, b, c, e, h1, h2⟩ := d
  exact ⟨a, b, c, e, h1, by omega⟩
theorem Upd.trans {h h1 h2 : MH} {i m m' : Nat} (u : Upd h h1 i m) (v : Upd h1 h2 i m') : Upd h h2 i m' := ⟨v.len.trans u.len, v.dr, fun j hj => (v.oth j hj).trans (u.oth j hj)⟩
theorem Upd.mono {h h1 : MH} {i m m' : Nat} (u : Upd h h1 i m) (hm : m ≤ m') : Upd h h1 i m' := ⟨u.len, u.dr.mono hm, u.oth⟩
theorem lstIx (row : List D) (r : Int) (h : MH) : pIx (.d (.lst row)) (.d (.int r)) h = (L2.atI row r).map .d := rfl
theorem atI_in {row : List D} {r : Int} (h1 : 0 ≤ r) (h2 : r < row.length) : ∃ x, x ∈ row ∧ L2.atI row r = some x := by
  have hl : r.toNat < row.length := by omega
  refine ⟨row[r.toNat], List.getElem_mem hl, ?_⟩
  have := atI_nat row r.toNat row[r.toNat] (List.getElem?_eq_getElem hl)
  rwa [Int.toNat_of_nonneg h1] at this
theorem q_pick (d : Nat) {h : MH} {i m : Nat} {row : List D} (dr : Dr h i m) (hm : m < 1000000000000) (hr : row ≠ []) : ∃ x h', callF g (d + 2) "_law_pick" [.m i, .d (.lst row)] h = .ok (.d x) h' ∧ x ∈ row ∧ Upd h h' i (m + 1) := by
  have hl : 0 < (row.length : Int) := by
    cases row with
    | nil => exact absurd rfl hr
    | cons _ _ => first | (simp [getM, getV, binM, cmpM, cmp2M, cmp3M, MI.notM, negM, MI.andM, MI.orM, iteM, seqL, tupM, lstM, lstN, ixM, partM, cutM, isM, bltM, usrM, rg1M, rg2M, lrgM, trgM, upM, tstM, notT, andT, orT, retS, expS, setS, unpS, ifS, nxS, raiS, seqS, tryS, endF, fin, ofE, bnd, MI.ret, rd, intV, boolV, toDs, gd, bl, is_int, is_bool, is_str, is_tup, is_lst, isT, isS, isI, isL, isB', truth_bl, cmp_le, cmp_lt, cmp_ge, cmp_eqI, cmp_neI, cmp_eqS, cmp_neS, bin_add, bin_sub, ix0, ix1, ix2, len_tup, len_lst, truth_tup, q_within, ne_pt, ne_pc, ne_tc, ne_tp, ne_cp, ne_ct, lx2, lx3, ly2, ly3, q_is_kind, bind2, ek1, ek2, ek3, ek4, ek5, ec1, ec2, ec3, ec4, ie1, is_non, is_tf, isB_bl, q_is_int]; done) | (simp [getM, getV, binM, cmpM, cmp2M, cmp3M, MI.notM, negM, MI.andM, MI.orM, iteM, seqL, tupM, lstM, lstN, ixM, partM, cutM, isM, bltM, usrM, rg1M, rg2M, lrgM, trgM, upM, tstM, notT, andT, orT, retS, expS, setS, unpS, ifS, nxS, raiS, seqS, tryS, endF, fin, ofE, bnd, MI.ret, rd, intV, boolV, toDs, gd, bl, is_int, is_bool, is_str, is_tup, is_lst, isT, isS, isI, isL, isB', truth_bl, cmp_le, cmp_lt, cmp_ge, cmp_eqI, cmp_neI, cmp_eqS, cmp_neS, bin_add, bin_sub, ix0, ix1, ix2, len_tup, len_lst, truth_tup, q_within, ne_pt, ne_pc, ne_tc, ne_tp, ne_cp, ne_ct, lx2, lx3, ly2, ly3, q_is_kind, bind2, ek1, ek2, ek3, ek4, ek5, ec1, ec2, ec3, ec4, ie1, is_non, is_tf, isB_bl, q_is_int]; omega)
  obtain ⟨r, h', e, r1, r2, u⟩ := q_next d (n := row.length) dr hm hl
  obtain ⟨x, hx, ex⟩ := atI_in r1 r2
  refine ⟨x, h', ?_, hx, u⟩
  rw [c__law_pick]
  unfold s__law_pick
  rw [rt_ok (v := .d x) (h1 := h') (by simp [getM, getV, binM, cmpM, cmp2M, cmp3M, MI.notM, negM, MI.andM, MI.orM, iteM, seqL, tupM, lstM, lstN, ixM, partM, cutM, isM, bltM, usrM, rg1M, rg2M, lrgM, trgM, upM, tstM, notT, andT, orT, retS, expS, setS, unpS, ifS, nxS, raiS, seqS, tryS, endF, fin, ofE, bnd, MI.ret, rd, intV, boolV, toDs, gd, bl, is_int, is_bool, is_str, is_tup, is_lst, isT, isS, isI, isL, isB', truth_bl, cmp_le, cmp_lt, cmp_ge, cmp_eqI, cmp_neI, cmp_eqS, cmp_neS, bin_add, bin_sub, ix0, ix1, ix2, len_tup, len_lst, truth_tup, q_within, ne_pt, ne_pc, ne_tc, ne_tp, ne_cp, ne_ct, lx2, lx3, ly2, ly3, q_is_kind, bind2, ek1, ek2, ek3, ek4, ek5, ec1, ec2, ec3, ec4, ie1, is_non, is_tf, isB_bl, q_is_int, e, lstIx, ex])]
  exact end_rt u.len
theorem len_scr (ns : List Int) (h : MH) : pCall "len" [.scr ns] h = some (.d (.int ns.length)) := by
  show (lenV (.scr ns) h).map (fun (n : Nat) => Val.d (D.int (n : Int))) = _
  show ((some (ns.map D.int)).map (·.length)).map (fun (n : Nat) => Val.d (D.int (n : Int))) = _
  simp [getM, getV, binM, cmpM, cmp2M, cmp3M, MI.notM, negM, MI.andM, MI.orM, iteM, seqL, tupM, lstM, lstN, ixM, partM, cutM, isM, bltM, usrM, rg1M, rg2M, lrgM, trgM, upM, tstM, notT, andT, orT, retS, expS, setS, unpS, ifS, nxS, raiS, seqS, tryS, endF, fin, ofE, bnd, MI.ret, rd, intV, boolV, toDs, gd, bl, is_int, is_bool, is_str, is_tup, is_lst, isT, isS, isI, isL, isB', truth_bl, cmp_le, cmp_lt, cmp_ge, cmp_eqI, cmp_neI, cmp_eqS, cmp_neS, bin_add, bin_sub, ix0, ix1, ix2, len_tup, len_lst, truth_tup, q_within, ne_pt, ne_pc, ne_tc, ne_tp, ne_cp, ne_ct, lx2, lx3, ly2, ly3, q_is_kind, bind2, ek1, ek2, ek3, ek4, ek5, ec1, ec2, ec3, ec4, ie1, is_non, is_tf, isB_bl, q_is_int]
theorem intsD_map : ∀ l : List Int, intsD (l.map .int) = some l
  | [] => rfl
  | x :: l => by simp [getM, getV, binM, cmpM, cmp2M, cmp3M, MI.notM, negM, MI.andM, MI.orM, iteM, seqL, tupM, lstM, lstN, ixM, partM, cutM, isM, bltM, usrM, rg1M, rg2M, lrgM, trgM, upM, tstM, notT, andT, orT, retS, expS, setS, unpS, ifS, nxS, raiS, seqS, tryS, endF, fin, ofE, bnd, MI.ret, rd, intV, boolV, toDs, gd, bl, is_int, is_bool, is_str, is_tup, is_lst, isT, isS, isI, isL, isB', truth_bl, cmp_le, cmp_lt, cmp_ge, cmp_eqI, cmp_neI, cmp_eqS, cmp_neS, bin_add, bin_sub, ix0, ix1, ix2, len_tup, len_lst, truth_tup, q_within, ne_pt, ne_pc, ne_tc, ne_tp, ne_cp, ne_ct, lx2, lx3, ly2, ly3, q_is_kind, bind2, ek1, ek2, ek3, ek4, ek5, ec1, ec2, ec3, ec4, ie1, is_non, is_tf, isB_bl, q_is_int, intsD, intsD_map l]
theorem cut_scr (ns : List Int) (h : MH) : ∃ l : List Int, cutD (.scr ns) none (some 1) h = some (.d (.lst (l.map .int))) := by
  refine ⟨(ns.drop (HT.sIx (ns.map D.int).length 0 none)).take (HT.sIx (ns.map D.int).length (ns.map D.int).length (some 1) - HT.sIx (ns.map D.int).length 0 none), ?_⟩
  show (some (ns.map D.int)).map (fun xs => Val.d (.lst (cutL xs none (some 1)))) = _
  unfold cutL
  simp [getM, getV, binM, cmpM, cmp2M, cmp3M, MI.notM, negM, MI.andM, MI.orM, iteM, seqL, tupM, lstM, lstN, ixM, partM, cutM, isM, bltM, usrM, rg1M, rg2M, lrgM, trgM, upM, tstM, notT, andT, orT, retS, expS, setS, unpS, ifS, nxS, raiS, seqS, tryS, endF, fin, ofE, bnd, MI.ret, rd, intV, boolV, toDs, gd, bl, is_int, is_bool, is_str, is_tup, is_lst, isT, isS, isI, isL, isB', truth_bl, cmp_le, cmp_lt, cmp_ge, cmp_eqI, cmp_neI, cmp_eqS, cmp_neS, bin_add, bin_sub, ix0, ix1, ix2, len_tup, len_lst, truth_tup, q_within, ne_pt, ne_pc, ne_tc, ne_tp, ne_cp, ne_ct, lx2, lx3, ly2, ly3, q_is_kind, bind2, ek1, ek2, ek3, ek4, ek5, ec1, ec2, ec3, ec4, ie1, is_non, is_tf, isB_bl, q_is_int, List.map_take, List.map_drop]
theorem sum_lst (l : List Int) (h : MH) : pCall "sum" [.d (.lst (l.map .int))] h = some (.d (.int l.sum)) := by
  show ((some (l.map D.int)).bind fun l => (intsD l).map fun l => Val.d (.int l.sum)) = _
  simp [getM, getV, binM, cmpM, cmp2M, cmp3M, MI.notM, negM, MI.andM, MI.orM, iteM, seqL, tupM, lstM, lstN, ixM, partM, cutM, isM, bltM, usrM, rg1M, rg2M, lrgM, trgM, upM, tstM, notT, andT, orT, retS, expS, setS, unpS, ifS, nxS, raiS, seqS, tryS, endF, fin, ofE, bnd, MI.ret, rd, intV, boolV, toDs, gd, bl, is_int, is_bool, is_str, is_tup, is_lst, isT, isS, isI, isL, isB', truth_bl, cmp_le, cmp_lt, cmp_ge, cmp_eqI, cmp_neI, cmp_eqS, cmp_neS, bin_add, bin_sub, ix0, ix1, ix2, len_tup, len_lst, truth_tup, q_within, ne_pt, ne_pc, ne_tc, ne_tp, ne_cp, ne_ct, lx2, lx3, ly2, ly3, q_is_kind, bind2, ek1, ek2, ek3, ek4, ek5, ec1, ec2, ec3, ec4, ie1, is_non, is_tf, isB_bl, q_is_int, intsD_map]
theorem scrIx (ns : List Int) (r : Int) (h : MH) : pIx (.scr ns) (.d (.int r)) h = (L2.atI (ns.map D.int) r).map .d := rfl
theorem q_cell (d : Nat) (ns : List Int) (k : Int) (h0 : 0 ≤ k) (hk : k ≤ 1000) (h : MH) : ∃ c, callF g (d + 1) "_law_cell" [.scr ns, .d (.int k)] h = .ok (.d (.int c)) h := by
  rw [c__law_cell]
  unfold s__law_cell
  by_cases hl : k < ns.length
  · obtain ⟨x, hx, ex⟩ := atI_in (row := ns.map D.int) h0 (by simpa using hl)
    obtain ⟨c, _, rfl⟩ := List.mem_map.mp hx
    refine ⟨c, ?_⟩
    rw [sqr (v := .d (.int c)) (h1 := h) (by rw [if_t (h1 := h) (by simp [getM, getV, binM, cmpM, cmp2M, cmp3M, MI.notM, negM, MI.andM, MI.orM, iteM, seqL, tupM, lstM, lstN, ixM, partM, cutM, isM, bltM, usrM, rg1M, rg2M, lrgM, trgM, upM, tstM, notT, andT, orT, retS, expS, setS, unpS, ifS, nxS, raiS, seqS, tryS, endF, fin, ofE, bnd, MI.ret, rd, intV, boolV, toDs, gd, bl, is_int, is_bool, is_str, is_tup, is_lst, isT, isS, isI, isL, isB', truth_bl, cmp_le, cmp_lt, cmp_ge, cmp_eqI, cmp_neI, cmp_eqS, cmp_neS, bin_add, bin_sub, ix0, ix1, ix2, len_tup, len_lst, truth_tup, q_within, ne_pt, ne_pc, ne_tc, ne_tp, ne_cp, ne_ct, lx2, lx3, ly2, ly3, q_is_kind, bind2, ek1, ek2, ek3, ek4, ek5, ec1, ec2, ec3, ec4, ie1, is_non, is_tf, isB_bl, q_is_int, len_scr, hl])]; exact rt_ok (by simp [getM, getV, binM, cmpM, cmp2M, cmp3M, MI.notM, negM, MI.andM, MI.orM, iteM, seqL, tupM, lstM, lstN, ixM, partM, cutM, isM, bltM, usrM, rg1M, rg2M, lrgM, trgM, upM, tstM, notT, andT, orT, retS, expS, setS, unpS, ifS, nxS, raiS, seqS, tryS, endF, fin, ofE, bnd, MI.ret, rd, intV, boolV, toDs, gd, bl, is_int, is_bool, is_str, is_tup, is_lst, isT, isS, isI, isL, isB', truth_bl, cmp_le, cmp_lt, cmp_ge, cmp_eqI, cmp_neI, cmp_eqS, cmp_neS, bin_add, bin_sub, ix0, ix1, ix2, len_tup, len_lst, truth_tup, q_within, ne_pt, ne_pc, ne_tc, ne_tp, ne_cp, ne_ct, lx2, lx3, ly2, ly3, q_is_kind, bind2, ek1, ek2, ek3, ek4, ek5, ec1, ec2, ec3, ec4, ie1, is_non, is_tf, isB_bl, q_is_int, scrIx, ex]))]
    exact end_rt rfl
  · obtain ⟨l, el⟩ := cut_scr ns h
    have b1 : big (7919 : Int) = true := bigI (by omega) (by omega)
    refine ⟨k * 7919 + l.sum % 1000003, ?_⟩
    rw [sq (σ1 := [some (.scr ns), some (.d (.int k))]) (h1 := h) (by rw [if_f (h1 := h) (by simp [getM, getV, binM, cmpM, cmp2M, cmp3M, MI.notM, negM, MI.andM, MI.orM, iteM, seqL, tupM, lstM, lstN, ixM, partM, cutM, isM, bltM, usrM, rg1M, rg2M, lrgM, trgM, upM, tstM, notT, andT, orT, retS, expS, setS, unpS, ifS, nxS, raiS, seqS, tryS, endF, fin, ofE, bnd, MI.ret, rd, intV, boolV, toDs, gd, bl, is_int, is_bool, is_str, is_tup, is_lst, isT, isS, isI, isL, isB', truth_bl, cmp_le, cmp_lt, cmp_ge, cmp_eqI, cmp_neI, cmp_eqS, cmp_neS, bin_add, bin_sub, ix0, ix1, ix2, len_tup, len_lst, truth_tup, q_within, ne_pt, ne_pc, ne_tc, ne_tp, ne_cp, ne_ct, lx2, lx3, ly2, ly3, q_is_kind, bind2, ek1, ek2, ek3, ek4, ek5, ec1, ec2, ec3, ec4, ie1, is_non, is_tf, isB_bl, q_is_int, len_scr, hl])]; rfl), rt_ok (v := .d (.int (k * 7919 + l.sum % 1000003))) (h1 := h) (by simp [getM, getV, binM, cmpM, cmp2M, cmp3M, MI.notM, negM, MI.andM, MI.orM, iteM, seqL, tupM, lstM, lstN, ixM, partM, cutM, isM, bltM, usrM, rg1M, rg2M, lrgM, trgM, upM, tstM, notT, andT, orT, retS, expS, setS, unpS, ifS, nxS, raiS, seqS, tryS, endF, fin, ofE, bnd, MI.ret, rd, intV, boolV, toDs, gd, bl, is_int, is_bool, is_str, is_tup, is_lst, isT, isS, isI, isL, isB', truth_bl, cmp_le, cmp_lt, cmp_ge, cmp_eqI, cmp_neI, cmp_eqS, cmp_neS, bin_add, bin_sub, ix0, ix1, ix2, len_tup, len_lst, truth_tup, q_within, ne_pt, ne_pc, ne_tc, ne_tp, ne_cp, ne_ct, lx2, lx3, ly2, ly3, q_is_kind, bind2, ek1, ek2, ek3, ek4, ek5, ec1, ec2, ec3, ec4, ie1, is_non, is_tf, isB_bl, q_is_int, mulI (.inr b1), el, sum_lst, intI, modI])]
    exact end_rt rfl
theorem pow18 (h : MH) : pBin .Pow (.d (.int 10)) (.d (.int 18)) h = some (.d (.int 1000000000000000000)) := by kernel_rfl
theorem pow29 (h : MH) : pBin .Pow (.d (.int 10)) (.d (.int 29)) h = some (.d (.int 100000000000000000000000000000)) := by kernel_rfl
theorem absI (i : Int) (h : MH) : pCall "abs" [.d (.int i)] h = some (.d (.int (if i < 0 then -i else i))) := rfl
theorem q_stream (d : Nat) (ns : List Int) (k : Int) (h0 : 0 ≤ k) (hk : k ≤ 1000) (h : MH) : ∃ a c, callF g (d + 2) "_law_stream" [.scr ns, .d (.int k)] h = .ok (.m h.length) (h ++ [.lst [.int a, .int 0, .int c]]) := by
  obtain ⟨c, e⟩ := q_cell d ns k h0 hk h
  rw [c__law_stream]
  unfold s__law_stream
  rw [sq (st_ok (v := .d (.int c)) (h1 := h) (by simp [getM, getV, binM, cmpM, cmp2M, cmp3M, MI.notM, negM, MI.andM, MI.orM, iteM, seqL, tupM, lstM, lstN, ixM, partM, cutM, isM, bltM, usrM, rg1M, rg2M, lrgM, trgM, upM, tstM, notT, andT, orT, retS, expS, setS, unpS, ifS, nxS, raiS, seqS, tryS, endF, fin, ofE, bnd, MI.ret, rd, intV, boolV, toDs, gd, bl, is_int, is_bool, is_str, is_tup, is_lst, isT, isS, isI, isL, isB', truth_bl, cmp_le, cmp_lt, cmp_ge, cmp_eqI, cmp_neI, cmp_eqS, cmp_neS, bin_add, bin_sub, ix0, ix1, ix2, len_tup, len_lst, truth_tup, q_within, ne_pt, ne_pc, ne_tc, ne_tp, ne_cp, ne_ct, lx2, lx3, ly2, ly3, q_is_kind, bind2, ek1, ek2, ek3, ek4, ek5, ec1, ec2, ec3, ec4, ie1, is_non, is_tf, isB_bl, q_is_int, e]))]
  by_cases hc : 1000000000000000000 ≤ (if c < 0 then -c else c)
  · refine ⟨if c < 0 then -c else c, c, ?_⟩
    rw [sqr (v := .m h.length) (h1 := h ++ [.lst [.int (if c < 0 then -c else c), .int 0, .int c]]) (by rw [if_t (h1 := h) (by simp [getM, getV, binM, cmpM, cmp2M, cmp3M, MI.notM, negM, MI.andM, MI.orM, iteM, seqL, tupM, lstM, lstN, ixM, partM, cutM, isM, bltM, usrM, rg1M, rg2M, lrgM, trgM, upM, tstM, notT, andT, orT, retS, expS, setS, unpS, ifS, nxS, raiS, seqS, tryS, endF, fin, ofE, bnd, MI.ret, rd, intV, boolV, toDs, gd, bl, is_int, is_bool, is_str, is_tup, is_lst, isT, isS, isI, isL, isB', truth_bl, cmp_le, cmp_lt, cmp_ge, cmp_eqI, cmp_neI, cmp_eqS, cmp_neS, bin_add, bin_sub, ix0, ix1, ix2, len_tup, len_lst, truth_tup, q_within, ne_pt, ne_pc, ne_tc, ne_tp, ne_cp, ne_ct, lx2, lx3, ly2, ly3, q_is_kind, bind2, ek1, ek2, ek3, ek4, ek5, ec1, ec2, ec3, ec4, ie1, is_non, is_tf, isB_bl, q_is_int, absI, pow18, hc])]; exact rt_ok (by simp [getM, getV, binM, cmpM, cmp2M, cmp3M, MI.notM, negM, MI.andM, MI.orM, iteM, seqL, tupM, lstM, lstN, ixM, partM, cutM, isM, bltM, usrM, rg1M, rg2M, lrgM, trgM, upM, tstM, notT, andT, orT, retS, expS, setS, unpS, ifS, nxS, raiS, seqS, tryS, endF, fin, ofE, bnd, MI.ret, rd, intV, boolV, toDs, gd, bl, is_int, is_bool, is_str, is_tup, is_lst, isT, isS, isI, isL, isB', truth_bl, cmp_le, cmp_lt, cmp_ge, cmp_eqI, cmp_neI, cmp_eqS, cmp_neS, bin_add, bin_sub, ix0, ix1, ix2, len_tup, len_lst, truth_tup, q_within, ne_pt, ne_pc, ne_tc, ne_tp, ne_cp, ne_ct, lx2, lx3, ly2, ly3, q_is_kind, bind2, ek1, ek2, ek3, ek4, ek5, ec1, ec2, ec3, ec4, ie1, is_non, is_tf, isB_bl, q_is_int, absI, MI.alloc]))]
    rfl
  · refine ⟨0, c, ?_⟩
    rw [sq (σ1 := [some (.scr ns), some (.d (.int k)), some (.d (.int c))]) (h1 := h) (by rw [if_f (h1 := h) (by simp [getM, getV, binM, cmpM, cmp2M, cmp3M, MI.notM, negM, MI.andM, MI.orM, iteM, seqL, tupM, lstM, lstN, ixM, partM, cutM, isM, bltM, usrM, rg1M, rg2M, lrgM, trgM, upM, tstM, notT, andT, orT, retS, expS, setS, unpS, ifS, nxS, raiS, seqS, tryS, endF, fin, ofE, bnd, MI.ret, rd, intV, boolV, toDs, gd, bl, is_int, is_bool, is_str, is_tup, is_lst, isT, isS, isI, isL, isB', truth_bl, cmp_le, cmp_lt, cmp_ge, cmp_eqI, cmp_neI, cmp_eqS, cmp_neS, bin_add, bin_sub, ix0, ix1, ix2, len_tup, len_lst, truth_tup, q_within, ne_pt, ne_pc, ne_tc, ne_tp, ne_cp, ne_ct, lx2, lx3, ly2, ly3, q_is_kind, bind2, ek1, ek2, ek3, ek4, ek5, ec1, ec2, ec3, ec4, ie1, is_non, is_tf, isB_bl, q_is_int, absI, pow18, hc])]; rfl), rt_ok (v := .m h.length) (h1 := h ++ [.lst [.int 0, .int 0, .int c]]) (by simp [getM, getV, binM, cmpM, cmp2M, cmp3M, MI.notM, negM, MI.andM, MI.orM, iteM, seqL, tupM, lstM, lstN, ixM, partM, cutM, isM, bltM, usrM, rg1M, rg2M, lrgM, trgM, upM, tstM, notT, andT, orT, retS, expS, setS, unpS, ifS, nxS, raiS, seqS, tryS, endF, fin, ofE, bnd, MI.ret, rd, intV, boolV, toDs, gd, bl, is_int, is_bool, is_str, is_tup, is_lst, isT, isS, isI, isL, isB', truth_bl, cmp_le, cmp_lt, cmp_ge, cmp_eqI, cmp_neI, cmp_eqS, cmp_neS, bin_add, bin_sub, ix0, ix1, ix2, len_tup, len_lst, truth_tup, q_within, ne_pt, ne_pc, ne_tc, ne_tp, ne_cp, ne_ct, lx2, lx3, ly2, ly3, q_is_kind, bind2, ek1, ek2, ek3, ek4, ek5, ec1, ec2, ec3, ec4, ie1, is_non, is_tf, isB_bl, q_is_int, MI.alloc])]
    rfl
theorem q_any (d : Nat) {h : MH} {i m : Nat} (dr : Dr h i m) (hm : m < 100000000000) : ∃ x lo hi h', callF g (d + 3) "_law_any_kind" [.m i] h = .ok (.d x) h' ∧ Kd x lo hi ∧ Upd h h' i (m + 5) := by
  obtain ⟨w, h1, e1, w1, w2, u1⟩ := q_next (d + 1) (n := 4) dr (by omega) (by omega)
  rw [c__law_any_kind]
  unfold s__law_any_kind
  rw [sq (st_ok (v := .d (.int w)) (h1 := h1) (by simp [getM, getV, binM, cmpM, cmp2M, cmp3M, MI.notM, negM, MI.andM, MI.orM, iteM, seqL, tupM, lstM, lstN, ixM, partM, cutM, isM, bltM, usrM, rg1M, rg2M, lrgM, trgM, upM, tstM, notT, andT, orT, retS, expS, setS, unpS, ifS, nxS, raiS, seqS, tryS, endF, fin, ofE, bnd, MI.ret, rd, intV, boolV, toDs, gd, bl, is_int, is_bool, is_str, is_tup, is_lst, isT, isS, isI, isL, isB', truth_bl, cmp_le, cmp_lt, cmp_ge, cmp_eqI, cmp_neI, cmp_eqS, cmp_neS, bin_add, bin_sub, ix0, ix1, ix2, len_tup, len_lst, truth_tup, q_within, ne_pt, ne_pc, ne_tc, ne_tp, ne_cp, ne_ct, lx2, lx3, ly2, ly3, q_is_kind, bind2, ek1, ek2, ek3, ek4, ek5, ec1, ec2, ec3, ec4, ie1, is_non, is_tf, isB_bl, q_is_int, e1]))]
  by_cases c0 : w = 0
  · obtain ⟨r, h2, e2, r1, r2, u2⟩ := q_next (d + 1) (n := 5) u1.dr (by omega) (by omega)
    refine ⟨.tup [.str "pick", .int (2 + r)], _, _, h2, ?_, .p (2 + r) (by omega) (by omega), (u1.trans u2).mono (by omega)⟩
    rw [sqr (v := .d (.tup [.str "pick", .int (2 + r)])) (h1 := h2) (by rw [if_t (h1 := h1) (by simp [getM, getV, binM, cmpM, cmp2M, cmp3M, MI.notM, negM, MI.andM, MI.orM, iteM, seqL, tupM, lstM, lstN, ixM, partM, cutM, isM, bltM, usrM, rg1M, rg2M, lrgM, trgM, upM, tstM, notT, andT, orT, retS, expS, setS, unpS, ifS, nxS, raiS, seqS, tryS, endF, fin, ofE, bnd, MI.ret, rd, intV, boolV, toDs, gd, bl, is_int, is_bool, is_str, is_tup, is_lst, isT, isS, isI, isL, isB', truth_bl, cmp_le, cmp_lt, cmp_ge, cmp_eqI, cmp_neI, cmp_eqS, cmp_neS, bin_add, bin_sub, ix0, ix1, ix2, len_tup, len_lst, truth_tup, q_within, ne_pt, ne_pc, ne_tc, ne_tp, ne_cp, ne_ct, lx2, lx3, ly2, ly3, q_is_kind, bind2, ek1, ek2, ek3, ek4, ek5, ec1, ec2, ec3, ec4, ie1, is_non, is_tf, isB_bl, q_is_int, c0])]; exact rt_ok (by simp [getM, getV, binM, cmpM, cmp2M, cmp3M, MI.notM, negM, MI.andM, MI.orM, iteM, seqL, tupM, lstM, lstN, ixM, partM, cutM, isM, bltM, usrM, rg1M, rg2M, lrgM, trgM, upM, tstM, notT, andT, orT, retS, expS, setS, unpS, ifS, nxS, raiS, seqS, tryS, endF, fin, ofE, bnd, MI.ret, rd, intV, boolV, toDs, gd, bl, is_int, is_bool, is_str, is_tup, is_lst, isT, isS, isI, isL, isB', truth_bl, cmp_le, cmp_lt, cmp_ge, cmp_eqI, cmp_neI, cmp_eqS, cmp_neS, bin_add, bin_sub, ix0, ix1, ix2, len_tup, len_lst, truth_tup, q_within, ne_pt, ne_pc, ne_tc, ne_tp, ne_cp, ne_ct, lx2, lx3, ly2, ly3, q_is_kind, bind2, ek1, ek2, ek3, ek4, ek5, ec1, ec2, ec3, ec4, ie1, is_non, is_tf, isB_bl, q_is_int, e2]))]
    exact end_rt (u1.trans u2).len
  · rw [sq (σ1 := [some (.m i), some (.d (.int w)), none]) (h1 := h1) (by rw [if_f (h1 := h1) (by simp [getM, getV, binM, cmpM, cmp2M, cmp3M, MI.notM, negM, MI.andM, MI.orM, iteM, seqL, tupM, lstM, lstN, ixM, partM, cutM, isM, bltM, usrM, rg1M, rg2M, lrgM, trgM, upM, tstM, notT, andT, orT, retS, expS, setS, unpS, ifS, nxS, raiS, seqS, tryS, endF, fin, ofE, bnd, MI.ret, rd, intV, boolV, toDs, gd, bl, is_int, is_bool, is_str, is_tup, is_lst, isT, isS, isI, isL, isB', truth_bl, cmp_le, cmp_lt, cmp_ge, cmp_eqI, cmp_neI, cmp_eqS, cmp_neS, bin_add, bin_sub, ix0, ix1, ix2, len_tup, len_lst, truth_tup, q_within, ne_pt, ne_pc, ne_tc, ne_tp, ne_cp, ne_ct, lx2, lx3, ly2, ly3, q_is_kind, bind2, ek1, ek2, ek3, ek4, ek5, ec1, ec2, ec3, ec4, ie1, is_non, is_tf, isB_bl, q_is_int, c0])]; rfl)]
    by_cases c1 : w = 1
    · obtain ⟨r, h2, e2, r1, r2, u2⟩ := q_next (d + 1) (n := 3) u1.dr (by omega) (by omega)
      refine ⟨.tup [.str "tick", .int (2 + r)], _, _, h2, ?_, .t (2 + r) (by omega) (by omega), (u1.trans u2).mono (by omega)⟩
      rw [sqr (v := .d (.tup [.str "tick", .int (2 + r)])) (h1 := h2) (by rw [if_t (h1 := h1) (by simp [getM, getV, binM, cmpM, cmp2M, cmp3M, MI.notM, negM, MI.andM, MI.orM, iteM, seqL, tupM, lstM, lstN, ixM, partM, cutM, isM, bltM, usrM, rg1M, rg2M, lrgM, trgM, upM, tstM, notT, andT, orT, retS, expS, setS, unpS, ifS, nxS, raiS, seqS, tryS, endF, fin, ofE, bnd, MI.ret, rd, intV, boolV, toDs, gd, bl, is_int, is_bool, is_str, is_tup, is_lst, isT, isS, isI, isL, isB', truth_bl, cmp_le, cmp_lt, cmp_ge, cmp_eqI, cmp_neI, cmp_eqS, cmp_neS, bin_add, bin_sub, ix0, ix1, ix2, len_tup, len_lst, truth_tup, q_within, ne_pt, ne_pc, ne_tc, ne_tp, ne_cp, ne_ct, lx2, lx3, ly2, ly3, q_is_kind, bind2, ek1, ek2, ek3, ek4, ek5, ec1, ec2, ec3, ec4, ie1, is_non, is_tf, isB_bl, q_is_int, c1])]; exact rt_ok (by simp [getM, getV, binM, cmpM, cmp2M, cmp3M, MI.notM, negM, MI.andM, MI.orM, iteM, seqL, tupM, lstM, lstN, ixM, partM, cutM, isM, bltM, usrM, rg1M, rg2M, lrgM, trgM, upM, tstM, notT, andT, orT, retS, expS, setS, unpS, ifS, nxS, raiS, seqS, tryS, endF, fin, ofE, bnd, MI.ret, rd, intV, boolV, toDs, gd, bl, is_int, is_bool, is_str, is_tup, is_lst, isT, isS, isI, isL, isB', truth_bl, cmp_le, cmp_lt, cmp_ge, cmp_eqI, cmp_neI, cmp_eqS, cmp_neS, bin_add, bin_sub, ix0, ix1, ix2, len_tup, len_lst, truth_tup, q_within, ne_pt, ne_pc, ne_tc, ne_tp, ne_cp, ne_ct, lx2, lx3, ly2, ly3, q_is_kind, bind2, ek1, ek2, ek3, ek4, ek5, ec1, ec2, ec3, ec4, ie1, is_non, is_tf, isB_bl, q_is_int, e2]))]
      exact end_rt (u1.trans u2).len
    · rw [sq (σ1 := [some (.m i), some (.d (.int w)), none]) (h1 := h1) (by rw [if_f (h1 := h1) (by simp [getM, getV, binM, cmpM, cmp2M, cmp3M, MI.notM, negM, MI.andM, MI.orM, iteM, seqL, tupM, lstM, lstN, ixM, partM, cutM, isM, bltM, usrM, rg1M, rg2M, lrgM, trgM, upM, tstM, notT, andT, orT, retS, expS, setS, unpS, ifS, nxS, raiS, seqS, tryS, endF, fin, ofE, bnd, MI.ret, rd, intV, boolV, toDs, gd, bl, is_int, is_bool, is_str, is_tup, is_lst, isT, isS, isI, isL, isB', truth_bl, cmp_le, cmp_lt, cmp_ge, cmp_eqI, cmp_neI, cmp_eqS, cmp_neS, bin_add, bin_sub, ix0, ix1, ix2, len_tup, len_lst, truth_tup, q_within, ne_pt, ne_pc, ne_tc, ne_tp, ne_cp, ne_ct, lx2, lx3, ly2, ly3, q_is_kind, bind2, ek1, ek2, ek3, ek4, ek5, ec1, ec2, ec3, ec4, ie1, is_non, is_tf, isB_bl, q_is_int, c1])]; rfl)]
      obtain ⟨r, h2, e2, r1, r2, u2⟩ := q_next (d + 1) (n := 99) u1.dr (by omega) (by omega)
      obtain ⟨x, h3, e3, hx, u3⟩ := q_pick d (row := [.int 0, .int 1, .int 9, .int 98, .int r]) u2.dr (by omega) (by simp [getM, getV, binM, cmpM, cmp2M, cmp3M, MI.notM, negM, MI.andM, MI.orM, iteM, seqL, tupM, lstM, lstN, ixM, partM, cutM, isM, bltM, usrM, rg1M, rg2M, lrgM, trgM, upM, tstM, notT, andT, orT, retS, expS, setS, unpS, ifS, nxS, raiS, seqS, tryS, endF, fin, ofE, bnd, MI.ret, rd, intV, boolV, toDs, gd, bl, is_int, is_bool, is_str, is_tup, is_lst, isT, isS, isI, isL, isB', truth_bl, cmp_le, cmp_lt, cmp_ge, cmp_eqI, cmp_neI, cmp_eqS, cmp_neS, bin_add, bin_sub, ix0, ix1, ix2, len_tup, len_lst, truth_tup, q_within, ne_pt, ne_pc, ne_tc, ne_tp, ne_cp, ne_ct, lx2, lx3, ly2, ly3, q_is_kind, bind2, ek1, ek2, ek3, ek4, ek5, ec1, ec2, ec3, ec4, ie1, is_non, is_tf, isB_bl, q_is_int])
      obtain ⟨lo, rfl, l1, l2⟩ : ∃ lo, x = .int lo ∧ 0 ≤ lo ∧ lo ≤ 98 := by
        simp [getM, getV, binM, cmpM, cmp2M, cmp3M, MI.notM, negM, MI.andM, MI.orM, iteM, seqL, tupM, lstM, lstN, ixM, partM, cutM, isM, bltM, usrM, rg1M, rg2M, lrgM, trgM, upM, tstM, notT, andT, orT, retS, expS, setS, unpS, ifS, nxS, raiS, seqS, tryS, endF, fin, ofE, bnd, MI.ret, rd, intV, boolV, toDs, gd, bl, is_int, is_bool, is_str, is_tup, is_lst, isT, isS, isI, isL, isB', truth_bl, cmp_le, cmp_lt, cmp_ge, cmp_eqI, cmp_neI, cmp_eqS, cmp_neS, bin_add, bin_sub, ix0, ix1, ix2, len_tup, len_lst, truth_tup, q_within, ne_pt, ne_pc, ne_tc, ne_tp, ne_cp, ne_ct, lx2, lx3, ly2, ly3, q_is_kind, bind2, ek1, ek2, ek3, ek4, ek5, ec1, ec2, ec3, ec4, ie1, is_non, is_tf, isB_bl, q_is_int] at hx
        rcases hx with rfl | rfl | rfl | rfl | rfl
        · exact ⟨_, rfl, by omega, by omega⟩
        · exact ⟨_, rfl, by omega, by omega⟩
        · exact ⟨_, rfl, by omega, by omega⟩
        · exact ⟨_, rfl, by omega, by omega⟩
        · exact ⟨_, rfl, by omega, by omega⟩
      rw [sq (st_ok (v := .d (.int lo)) (h1 := h3) (by simp [getM, getV, binM, cmpM, cmp2M, cmp3M, MI.notM, negM, MI.andM, MI.orM, iteM, seqL, tupM, lstM, lstN, ixM, partM, cutM, isM, bltM, usrM, rg1M, rg2M, lrgM, trgM, upM, tstM, notT, andT, orT, retS, expS, setS, unpS, ifS, nxS, raiS, seqS, tryS, endF, fin, ofE, bnd, MI.ret, rd, intV, boolV, toDs, gd, bl, is_int, is_bool, is_str, is_tup, is_lst, isT, isS, isI, isL, isB', truth_bl, cmp_le, cmp_lt, cmp_ge, cmp_eqI, cmp_neI, cmp_eqS, cmp_neS, bin_add, bin_sub, ix0, ix1, ix2, len_tup, len_lst, truth_tup, q_within, ne_pt, ne_pc, ne_tc, ne_tp, ne_cp, ne_ct, lx2, lx3, ly2, ly3, q_is_kind, bind2, ek1, ek2, ek3, ek4, ek5, ec1, ec2, ec3, ec4, ie1, is_non, is_tf, isB_bl, q_is_int, e2, e3]))]
      obtain ⟨r', h4, e4, r3, r4, u4⟩ := q_next (d + 1) (n := 99 - lo) u3.dr (by omega) (by omega)
      obtain ⟨x, h5, e5, hx, u5⟩ := q_pick d (row := [.int 0, .int (98 - lo), .int r']) u4.dr (by omega) (by simp [getM, getV, binM, cmpM, cmp2M, cmp3M, MI.notM, negM, MI.andM, MI.orM, iteM, seqL, tupM, lstM, lstN, ixM, partM, cutM, isM, bltM, usrM, rg1M, rg2M, lrgM, trgM, upM, tstM, notT, andT, orT, retS, expS, setS, unpS, ifS, nxS, raiS, seqS, tryS, endF, fin, ofE, bnd, MI.ret, rd, intV, boolV, toDs, gd, bl, is_int, is_bool, is_str, is_tup, is_lst, isT, isS, isI, isL, isB', truth_bl, cmp_le, cmp_lt, cmp_ge, cmp_eqI, cmp_neI, cmp_eqS, cmp_neS, bin_add, bin_sub, ix0, ix1, ix2, len_tup, len_lst, truth_tup, q_within, ne_pt, ne_pc, ne_tc, ne_tp, ne_cp, ne_ct, lx2, lx3, ly2, ly3, q_is_kind, bind2, ek1, ek2, ek3, ek4, ek5, ec1, ec2, ec3, ec4, ie1, is_non, is_tf, isB_bl, q_is_int])
      obtain ⟨q, rfl, l3, l4⟩ : ∃ q, x = .int q ∧ 0 ≤ q ∧ q ≤ 98 - lo := by
        simp [getM, getV, binM, cmpM, cmp2M, cmp3M, MI.notM, negM, MI.andM, MI.orM, iteM, seqL, tupM, lstM, lstN, ixM, partM, cutM, isM, bltM, usrM, rg1M, rg2M, lrgM, trgM, upM, tstM, notT, andT, orT, retS, expS, setS, unpS, ifS, nxS, raiS, seqS, tryS, endF, fin, ofE, bnd, MI.ret, rd, intV, boolV, toDs, gd, bl, is_int, is_bool, is_str, is_tup, is_lst, isT, isS, isI, isL, isB', truth_bl, cmp_le, cmp_lt, cmp_ge, cmp_eqI, cmp_neI, cmp_eqS, cmp_neS, bin_add, bin_sub, ix0, ix1, ix2, len_tup, len_lst, truth_tup, q_within, ne_pt, ne_pc, ne_tc, ne_tp, ne_cp, ne_ct, lx2, lx3, ly2, ly3, q_is_kind, bind2, ek1, ek2, ek3, ek4, ek5, ec1, ec2, ec3, ec4, ie1, is_non, is_tf, isB_bl, q_is_int] at hx
        rcases hx with rfl | rfl | rfl
        · exact ⟨_, rfl, by omega, by omega⟩
        · exact ⟨_, rfl, by omega, by omega⟩
        · exact ⟨_, rfl, by omega, by omega⟩
      have u := (((u1.trans u2).trans u3).trans u4).trans u5
      refine ⟨.tup [.str "count", .int lo, .int (lo + 1 + q)], _, _, h5, ?_, .c lo (lo + 1 + q) l1 (by omega) (by omega), u.mono (by omega)⟩
      rw [rt_ok (v := .d (.tup [.str "count", .int lo, .int (lo + 1 + q)])) (h1 := h5) (by simp [getM, getV, binM, cmpM, cmp2M, cmp3M, MI.notM, negM, MI.andM, MI.orM, iteM, seqL, tupM, lstM, lstN, ixM, partM, cutM, isM, bltM, usrM, rg1M, rg2M, lrgM, trgM, upM, tstM, notT, andT, orT, retS, expS, setS, unpS, ifS, nxS, raiS, seqS, tryS, endF, fin, ofE, bnd, MI.ret, rd, intV, boolV, toDs, gd, bl, is_int, is_bool, is_str, is_tup, is_lst, isT, isS, isI, isL, isB', truth_bl, cmp_le, cmp_lt, cmp_ge, cmp_eqI, cmp_neI, cmp_eqS, cmp_neS, bin_add, bin_sub, ix0, ix1, ix2, len_tup, len_lst, truth_tup, q_within, ne_pt, ne_pc, ne_tc, ne_tp, ne_cp, ne_ct, lx2, lx3, ly2, ly3, q_is_kind, bind2, ek1, ek2, ek3, ek4, ek5, ec1, ec2, ec3, ec4, ie1, is_non, is_tf, isB_bl, q_is_int, e4, e5])]
      exact end_rt u.len
theorem addL (xs ys : List D) (hl : xs.length + ys.length ≤ 16777216) (h : MH) : pBin .Add (.d (.lst xs)) (.d (.lst ys)) h = some (.d (.lst (xs ++ ys))) := by
  show gd (decide (xs.length + ys.length ≤ 16777216)) (Val.d (.lst (xs ++ ys))) = _
  rw [decide_eq_true hl]; rfl
theorem q_things (d : Nat) {h : MH} {i m : Nat} (dr : Dr h i m) (hm : m < 100000000000) : ∃ xs h', callF g (d + 2) "_law_things" [.m i] h = .ok (.d (.lst xs)) h' ∧ xs ≠ [] ∧ Upd h h' i (m + 1) := by
  obtain ⟨w, h1, e1, w1, w2, u1⟩ := q_next d (n := 1000) dr (by omega) (by omega)
  rw [c__law_things]
  unfold s__law_things
  rw [sq (st_ok (v := .d (.int (100000000000000000000000000000 + w))) (h1 := h1) (by simp [getM, getV, binM, cmpM, cmp2M, cmp3M, MI.notM, negM, MI.andM, MI.orM, iteM, seqL, tupM, lstM, lstN, ixM, partM, cutM, isM, bltM, usrM, rg1M, rg2M, lrgM, trgM, upM, tstM, notT, andT, orT, retS, expS, setS, unpS, ifS, nxS, raiS, seqS, tryS, endF, fin, ofE, bnd, MI.ret, rd, intV, boolV, toDs, gd, bl, is_int, is_bool, is_str, is_tup, is_lst, isT, isS, isI, isL, isB', truth_bl, cmp_le, cmp_lt, cmp_ge, cmp_eqI, cmp_neI, cmp_eqS, cmp_neS, bin_add, bin_sub, ix0, ix1, ix2, len_tup, len_lst, truth_tup, q_within, ne_pt, ne_pc, ne_tc, ne_tp, ne_cp, ne_ct, lx2, lx3, ly2, ly3, q_is_kind, bind2, ek1, ek2, ek3, ek4, ek5, ec1, ec2, ec3, ec4, ie1, is_non, is_tf, isB_bl, q_is_int, e1, pow29]))]
  have ok : okRg (-4) 104 = true := okRg_of (by omega) (by omega) (by omega) (by omega)
  generalize hz : (100000000000000000000000000000 + w : Int) = far
  refine ⟨rgD (-4) 104 ++ [.int far, .int (-far), .non, .bl true, .bl false, .str "", .str "1", .tup [.int 1], .lst [.int 0], .edict], h1, ?_, by simp [getM, getV, binM, cmpM, cmp2M, cmp3M, MI.notM, negM, MI.andM, MI.orM, iteM, seqL, tupM, lstM, lstN, ixM, partM, cutM, isM, bltM, usrM, rg1M, rg2M, lrgM, trgM, upM, tstM, notT, andT, orT, retS, expS, setS, unpS, ifS, nxS, raiS, seqS, tryS, endF, fin, ofE, bnd, MI.ret, rd, intV, boolV, toDs, gd, bl, is_int, is_bool, is_str, is_tup, is_lst, isT, isS, isI, isL, isB', truth_bl, cmp_le, cmp_lt, cmp_ge, cmp_eqI, cmp_neI, cmp_eqS, cmp_neS, bin_add, bin_sub, ix0, ix1, ix2, len_tup, len_lst, truth_tup, q_within, ne_pt, ne_pc, ne_tc, ne_tp, ne_cp, ne_ct, lx2, lx3, ly2, ly3, q_is_kind, bind2, ek1, ek2, ek3, ek4, ek5, ec1, ec2, ec3, ec4, ie1, is_non, is_tf, isB_bl, q_is_int], u1⟩
  rw [rt_ok (v := .d (.lst (rgD (-4) 104 ++ [.int far, .int (-far), .non, .bl true, .bl false, .str "", .str "1", .tup [.int 1], .lst [.int 0], .edict]))) (h1 := h1) (by simp [getM, getV, binM, cmpM, cmp2M, cmp3M, MI.notM, negM, MI.andM, MI.orM, iteM, seqL, tupM, lstM, lstN, ixM, partM, cutM, isM, bltM, usrM, rg1M, rg2M, lrgM, trgM, upM, tstM, notT, andT, orT, retS, expS, setS, unpS, ifS, nxS, raiS, seqS, tryS, endF, fin, ofE, bnd, MI.ret, rd, intV, boolV, toDs, gd, bl, is_int, is_bool, is_str, is_tup, is_lst, isT, isS, isI, isL, isB', truth_bl, cmp_le, cmp_lt, cmp_ge, cmp_eqI, cmp_neI, cmp_eqS, cmp_neS, bin_add, bin_sub, ix0, ix1, ix2, len_tup, len_lst, truth_tup, q_within, ne_pt, ne_pc, ne_tc, ne_tp, ne_cp, ne_ct, lx2, lx3, ly2, ly3, q_is_kind, bind2, ek1, ek2, ek3, ek4, ek5, ec1, ec2, ec3, ec4, ie1, is_non, is_tf, isB_bl, q_is_int, ok, addL, rgD_len])]
  exact end_rt u1.len
theorem lz2 (n : Nat) : ((n : Int) + 1 + 1 + 1 + 1 < 2) = False := eq_false (by omega)
theorem q_right (d : Nat) (x : D) (h : MH) : callF g (d + 2) "_law_right_kind" [.d x] h = .ok (.d (.bl (isK x))) h := by
  rw [c__law_right_kind]
  unfold s__law_right_kind
  cases x with
  | tup xs =>
    cases xs with
    | nil => simp [getM, getV, binM, cmpM, cmp2M, cmp3M, MI.notM, negM, MI.andM, MI.orM, iteM, seqL, tupM, lstM, lstN, ixM, partM, cutM, isM, bltM, usrM, rg1M, rg2M, lrgM, trgM, upM, tstM, notT, andT, orT, retS, expS, setS, unpS, ifS, nxS, raiS, seqS, tryS, endF, fin, ofE, bnd, MI.ret, rd, intV, boolV, toDs, gd, bl, is_int, is_bool, is_str, is_tup, is_lst, isT, isS, isI, isL, isB', truth_bl, cmp_le, cmp_lt, cmp_ge, cmp_eqI, cmp_neI, cmp_eqS, cmp_neS, bin_add, bin_sub, ix0, ix1, ix2, len_tup, len_lst, truth_tup, q_within, ne_pt, ne_pc, ne_tc, ne_tp, ne_cp, ne_ct, lx2, lx3, ly2, ly3, q_is_kind, bind2, ek1, ek2, ek3, ek4, ek5, ec1, ec2, ec3, ec4, ie1, is_non, is_tf, isB_bl, q_is_int, lz2, isK]
    | cons a r =>
      cases r with
      | nil => cases a <;> simp [getM, getV, binM, cmpM, cmp2M, cmp3M, MI.notM, negM, MI.andM, MI.orM, iteM, seqL, tupM, lstM, lstN, ixM, partM, cutM, isM, bltM, usrM, rg1M, rg2M, lrgM, trgM, upM, tstM, notT, andT, orT, retS, expS, setS, unpS, ifS, nxS, raiS, seqS, tryS, endF, fin, ofE, bnd, MI.ret, rd, intV, boolV, toDs, gd, bl, is_int, is_bool, is_str, is_tup, is_lst, isT, isS, isI, isL, isB', truth_bl, cmp_le, cmp_lt, cmp_ge, cmp_eqI, cmp_neI, cmp_eqS, cmp_neS, bin_add, bin_sub, ix0, ix1, ix2, len_tup, len_lst, truth_tup, q_within, ne_pt, ne_pc, ne_tc, ne_tp, ne_cp, ne_ct, lx2, lx3, ly2, ly3, q_is_kind, bind2, ek1, ek2, ek3, ek4, ek5, ec1, ec2, ec3, ec4, ie1, is_non, is_tf, isB_bl, q_is_int, lz2, isK]
      | cons b r =>
        have n2 : ∀ n : Nat, ¬ ((n : Int) + 1 + 1 < 2) := fun n => by omega
        cases a with
        | str s =>
          rcases str_cases s with rfl | rfl | rfl | ⟨h1, h2, h3⟩
          · cases r with
            | nil =>
              cases b with
              | int i => by_cases g1 : 2 ≤ i <;> simp [getM, getV, binM, cmpM, cmp2M, cmp3M, MI.notM, negM, MI.andM, MI.orM, iteM, seqL, tupM, lstM, lstN, ixM, partM, cutM, isM, bltM, usrM, rg1M, rg2M, lrgM, trgM, upM, tstM, notT, andT, orT, retS, expS, setS, unpS, ifS, nxS, raiS, seqS, tryS, endF, fin, ofE, bnd, MI.ret, rd, intV, boolV, toDs, gd, bl, is_int, is_bool, is_str, is_tup, is_lst, isT, isS, isI, isL, isB', truth_bl, cmp_le, cmp_lt, cmp_ge, cmp_eqI, cmp_neI, cmp_eqS, cmp_neS, bin_add, bin_sub, ix0, ix1, ix2, len_tup, len_lst, truth_tup, q_within, ne_pt, ne_pc, ne_tc, ne_tp, ne_cp, ne_ct, lx2, lx3, ly2, ly3, q_is_kind, bind2, ek1, ek2, ek3, ek4, ek5, ec1, ec2, ec3, ec4, ie1, is_non, is_tf, isB_bl, q_is_int, lz2, isK, wi, g1]
              | _ => simp [getM, getV, binM, cmpM, cmp2M, cmp3M, MI.notM, negM, MI.andM, MI.orM, iteM, seqL, tupM, lstM, lstN, ixM, partM, cutM, isM, bltM, usrM, rg1M, rg2M, lrgM, trgM, upM, tstM, notT, andT, orT, retS, expS, setS, unpS, ifS, nxS, raiS, seqS, tryS, endF, fin, ofE, bnd, MI.ret, rd, intV, boolV, toDs, gd, bl, is_int, is_bool, is_str, is_tup, is_lst, isT, isS, isI, isL, isB', truth_bl, cmp_le, cmp_lt, cmp_ge, cmp_eqI, cmp_neI, cmp_eqS, cmp_neS, bin_add, bin_sub, ix0, ix1, ix2, len_tup, len_lst, truth_tup, q_within, ne_pt, ne_pc, ne_tc, ne_tp, ne_cp, ne_ct, lx2, lx3, ly2, ly3, q_is_kind, bind2, ek1, ek2, ek3, ek4, ek5, ec1, ec2, ec3, ec4, ie1, is_non, is_tf, isB_bl, q_is_int, lz2, isK, wi]
            | cons c r => cases r <;> simp [getM, getV, binM, cmpM, cmp2M, cmp3M, MI.notM, negM, MI.andM, MI.orM, iteM, seqL, tupM, lstM, lstN, ixM, partM, cutM, isM, bltM, usrM, rg1M, rg2M, lrgM, trgM, upM, tstM, notT, andT, orT, retS, expS, setS, unpS, ifS, nxS, raiS, seqS, tryS, endF, fin, ofE, bnd, MI.ret, rd, intV, boolV, toDs, gd, bl, is_int, is_bool, is_str, is_tup, is_lst, isT, isS, isI, isL, isB', truth_bl, cmp_le, cmp_lt, cmp_ge, cmp_eqI, cmp_neI, cmp_eqS, cmp_neS, bin_add, bin_sub, ix0, ix1, ix2, len_tup, len_lst, truth_tup, q_within, ne_pt, ne_pc, ne_tc, ne_tp, ne_cp, ne_ct, lx2, lx3, ly2, ly3, q_is_kind, bind2, ek1, ek2, ek3, ek4, ek5, ec1, ec2, ec3, ec4, ie1, is_non, is_tf, isB_bl, q_is_int, lz2, isK]
          · cases r with
            | nil =>
              cases b with
              | int i => by_cases g1 : 2 ≤ i <;> simp [getM, getV, binM, cmpM, cmp2M, cmp3M, MI.notM, negM, MI.andM, MI.orM, iteM, seqL, tupM, lstM, lstN, ixM, partM, cutM, isM, bltM, usrM, rg1M, rg2M, lrgM, trgM, upM, tstM, notT, andT, orT, retS, expS, setS, unpS, ifS, nxS, raiS, seqS, tryS, endF, fin, ofE, bnd, MI.ret, rd, intV, boolV, toDs, gd, bl, is_int, is_bool, is_str, is_tup, is_lst, isT, isS, isI, isL, isB', truth_bl, cmp_le, cmp_lt, cmp_ge, cmp_eqI, cmp_neI, cmp_eqS, cmp_neS, bin_add, bin_sub, ix0, ix1, ix2, len_tup, len_lst, truth_tup, q_within, ne_pt, ne_pc, ne_tc, ne_tp, ne_cp, ne_ct, lx2, lx3, ly2, ly3, q_is_kind, bind2, ek1, ek2, ek3, ek4, ek5, ec1, ec2, ec3, ec4, ie1, is_non, is_tf, isB_bl, q_is_int, lz2, isK, wi, g1]
              | _ => simp [getM, getV, binM, cmpM, cmp2M, cmp3M, MI.notM, negM, MI.andM, MI.orM, iteM, seqL, tupM, lstM, lstN, ixM, partM, cutM, isM, bltM, usrM, rg1M, rg2M, lrgM, trgM, upM, tstM, notT, andT, orT, retS, expS, setS, unpS, ifS, nxS, raiS, seqS, tryS, endF, fin, ofE, bnd, MI.ret, rd, intV, boolV, toDs, gd, bl, is_int, is_bool, is_str, is_tup, is_lst, isT, isS, isI, isL, isB', truth_bl, cmp_le, cmp_lt, cmp_ge, cmp_eqI, cmp_neI, cmp_eqS, cmp_neS, bin_add, bin_sub, ix0, ix1, ix2, len_tup, len_lst, truth_tup, q_within, ne_pt, ne_pc, ne_tc, ne_tp, ne_cp, ne_ct, lx2, lx3, ly2, ly3, q_is_kind, bind2, ek1, ek2, ek3, ek4, ek5, ec1, ec2, ec3, ec4, ie1, is_non, is_tf, isB_bl, q_is_int, lz2, isK, wi]
            | cons c r => cases r <;> simp [getM, getV, binM, cmpM, cmp2M, cmp3M, MI.notM, negM, MI.andM, MI.orM, iteM, seqL, tupM, lstM, lstN, ixM, partM, cutM, isM, bltM, usrM, rg1M, rg2M, lrgM, trgM, upM, tstM, notT, andT, orT, retS, expS, setS, unpS, ifS, nxS, raiS, seqS, tryS, endF, fin, ofE, bnd, MI.ret, rd, intV, boolV, toDs, gd, bl, is_int, is_bool, is_str, is_tup, is_lst, isT, isS, isI, isL, isB', truth_bl, cmp_le, cmp_lt, cmp_ge, cmp_eqI, cmp_neI, cmp_eqS, cmp_neS, bin_add, bin_sub, ix0, ix1, ix2, len_tup, len_lst, truth_tup, q_within, ne_pt, ne_pc, ne_tc, ne_tp, ne_cp, ne_ct, lx2, lx3, ly2, ly3, q_is_kind, bind2, ek1, ek2, ek3, ek4, ek5, ec1, ec2, ec3, ec4, ie1, is_non, is_tf, isB_bl, q_is_int, lz2, isK]
          · cases r with
            | nil => simp [getM, getV, binM, cmpM, cmp2M, cmp3M, MI.notM, negM, MI.andM, MI.orM, iteM, seqL, tupM, lstM, lstN, ixM, partM, cutM, isM, bltM, usrM, rg1M, rg2M, lrgM, trgM, upM, tstM, notT, andT, orT, retS, expS, setS, unpS, ifS, nxS, raiS, seqS, tryS, endF, fin, ofE, bnd, MI.ret, rd, intV, boolV, toDs, gd, bl, is_int, is_bool, is_str, is_tup, is_lst, isT, isS, isI, isL, isB', truth_bl, cmp_le, cmp_lt, cmp_ge, cmp_eqI, cmp_neI, cmp_eqS, cmp_neS, bin_add, bin_sub, ix0, ix1, ix2, len_tup, len_lst, truth_tup, q_within, ne_pt, ne_pc, ne_tc, ne_tp, ne_cp, ne_ct, lx2, lx3, ly2, ly3, q_is_kind, bind2, ek1, ek2, ek3, ek4, ek5, ec1, ec2, ec3, ec4, ie1, is_non, is_tf, isB_bl, q_is_int, lz2, isK]
            | cons c r =>
              cases r with
              | nil =>
                cases b with
                | int i =>
                  cases c with
                  | int j =>
                    by_cases g1 : 0 ≤ i
                    · by_cases g2 : i < j
                      · have g3 : i + 1 ≤ j := by omega
                        by_cases g4 : j ≤ 99
                        · have g5 : i ≤ 98 := by omega
                          simp [getM, getV, binM, cmpM, cmp2M, cmp3M, MI.notM, negM, MI.andM, MI.orM, iteM, seqL, tupM, lstM, lstN, ixM, partM, cutM, isM, bltM, usrM, rg1M, rg2M, lrgM, trgM, upM, tstM, notT, andT, orT, retS, expS, setS, unpS, ifS, nxS, raiS, seqS, tryS, endF, fin, ofE, bnd, MI.ret, rd, intV, boolV, toDs, gd, bl, is_int, is_bool, is_str, is_tup, is_lst, isT, isS, isI, isL, isB', truth_bl, cmp_le, cmp_lt, cmp_ge, cmp_eqI, cmp_neI, cmp_eqS, cmp_neS, bin_add, bin_sub, ix0, ix1, ix2, len_tup, len_lst, truth_tup, q_within, ne_pt, ne_pc, ne_tc, ne_tp, ne_cp, ne_ct, lx2, lx3, ly2, ly3, q_is_kind, bind2, ek1, ek2, ek3, ek4, ek5, ec1, ec2, ec3, ec4, ie1, is_non, is_tf, isB_bl, q_is_int, lz2, isK, wi, g1, g2, g3, g4, g5]
                        · simp [getM, getV, binM, cmpM, cmp2M, cmp3M, MI.notM, negM, MI.andM, MI.orM, iteM, seqL, tupM, lstM, lstN, ixM, partM, cutM, isM, bltM, usrM, rg1M, rg2M, lrgM, trgM, upM, tstM, notT, andT, orT, retS, expS, setS, unpS, ifS, nxS, raiS, seqS, tryS, endF, fin, ofE, bnd, MI.ret, rd, intV, boolV, toDs, gd, bl, is_int, is_bool, is_str, is_tup, is_lst, isT, isS, isI, isL, isB', truth_bl, cmp_le, cmp_lt, cmp_ge, cmp_eqI, cmp_neI, cmp_eqS, cmp_neS, bin_add, bin_sub, ix0, ix1, ix2, len_tup, len_lst, truth_tup, q_within, ne_pt, ne_pc, ne_tc, ne_tp, ne_cp, ne_ct, lx2, lx3, ly2, ly3, q_is_kind, bind2, ek1, ek2, ek3, ek4, ek5, ec1, ec2, ec3, ec4, ie1, is_non, is_tf, isB_bl, q_is_int, lz2, isK, wi, g1, g2, g3, g4]
                      · have g3 : ¬ i + 1 ≤ j := by omega
                        simp [getM, getV, binM, cmpM, cmp2M, cmp3M, MI.notM, negM, MI.andM, MI.orM, iteM, seqL, tupM, lstM, lstN, ixM, partM, cutM, isM, bltM, usrM, rg1M, rg2M, lrgM, trgM, upM, tstM, notT, andT, orT, retS, expS, setS, unpS, ifS, nxS, raiS, seqS, tryS, endF, fin, ofE, bnd, MI.ret, rd, intV, boolV, toDs, gd, bl, is_int, is_bool, is_str, is_tup, is_lst, isT, isS, isI, isL, isB', truth_bl, cmp_le, cmp_lt, cmp_ge, cmp_eqI, cmp_neI, cmp_eqS, cmp_neS, bin_add, bin_sub, ix0, ix1, ix2, len_tup, len_lst, truth_tup, q_within, ne_pt, ne_pc, ne_tc, ne_tp, ne_cp, ne_ct, lx2, lx3, ly2, ly3, q_is_kind, bind2, ek1, ek2, ek3, ek4, ek5, ec1, ec2, ec3, ec4, ie1, is_non, is_tf, isB_bl, q_is_int, lz2, isK, wi, g1, g2, g3]
                    · simp [getM, getV, binM, cmpM, cmp2M, cmp3M, MI.notM, negM, MI.andM, MI.orM, iteM, seqL, tupM, lstM, lstN, ixM, partM, cutM, isM, bltM, usrM, rg1M, rg2M, lrgM, trgM, upM, tstM, notT, andT, orT, retS, expS, setS, unpS, ifS, nxS, raiS, seqS, tryS, endF, fin, ofE, bnd, MI.ret, rd, intV, boolV, toDs, gd, bl, is_int, is_bool, is_str, is_tup, is_lst, isT, isS, isI, isL, isB', truth_bl, cmp_le, cmp_lt, cmp_ge, cmp_eqI, cmp_neI, cmp_eqS, cmp_neS, bin_add, bin_sub, ix0, ix1, ix2, len_tup, len_lst, truth_tup, q_within, ne_pt, ne_pc, ne_tc, ne_tp, ne_cp, ne_ct, lx2, lx3, ly2, ly3, q_is_kind, bind2, ek1, ek2, ek3, ek4, ek5, ec1, ec2, ec3, ec4, ie1, is_non, is_tf, isB_bl, q_is_int, lz2, isK, wi, g1]
                  | _ => simp [getM, getV, binM, cmpM, cmp2M, cmp3M, MI.notM, negM, MI.andM, MI.orM, iteM, seqL, tupM, lstM, lstN, ixM, partM, cutM, isM, bltM, usrM, rg1M, rg2M, lrgM, trgM, upM, tstM, notT, andT, orT, retS, expS, setS, unpS, ifS, nxS, raiS, seqS, tryS, endF, fin, ofE, bnd, MI.ret, rd, intV, boolV, toDs, gd, bl, is_int, is_bool, is_str, is_tup, is_lst, isT, isS, isI, isL, isB', truth_bl, cmp_le, cmp_lt, cmp_ge, cmp_eqI, cmp_neI, cmp_eqS, cmp_neS, bin_add, bin_sub, ix0, ix1, ix2, len_tup, len_lst, truth_tup, q_within, ne_pt, ne_pc, ne_tc, ne_tp, ne_cp, ne_ct, lx2, lx3, ly2, ly3, q_is_kind, bind2, ek1, ek2, ek3, ek4, ek5, ec1, ec2, ec3, ec4, ie1, is_non, is_tf, isB_bl, q_is_int, lz2, isK, wi]
                | _ => simp [getM, getV, binM, cmpM, cmp2M, cmp3M, MI.notM, negM, MI.andM, MI.orM, iteM, seqL, tupM, lstM, lstN, ixM, partM, cutM, isM, bltM, usrM, rg1M, rg2M, lrgM, trgM, upM, tstM, notT, andT, orT, retS, expS, setS, unpS, ifS, nxS, raiS, seqS, tryS, endF, fin, ofE, bnd, MI.ret, rd, intV, boolV, toDs, gd, bl, is_int, is_bool, is_str, is_tup, is_lst, isT, isS, isI, isL, isB', truth_bl, cmp_le, cmp_lt, cmp_ge, cmp_eqI, cmp_neI, cmp_eqS, cmp_neS, bin_add, bin_sub, ix0, ix1, ix2, len_tup, len_lst, truth_tup, q_within, ne_pt, ne_pc, ne_tc, ne_tp, ne_cp, ne_ct, lx2, lx3, ly2, ly3, q_is_kind, bind2, ek1, ek2, ek3, ek4, ek5, ec1, ec2, ec3, ec4, ie1, is_non, is_tf, isB_bl, q_is_int, lz2, isK, wi]
              | cons e r =>
                have n3 : ¬ ((r.length : Int) + 1 + 1 + 1 + 1 < 2) := by omega
                simp [getM, getV, binM, cmpM, cmp2M, cmp3M, MI.notM, negM, MI.andM, MI.orM, iteM, seqL, tupM, lstM, lstN, ixM, partM, cutM, isM, bltM, usrM, rg1M, rg2M, lrgM, trgM, upM, tstM, notT, andT, orT, retS, expS, setS, unpS, ifS, nxS, raiS, seqS, tryS, endF, fin, ofE, bnd, MI.ret, rd, intV, boolV, toDs, gd, bl, is_int, is_bool, is_str, is_tup, is_lst, isT, isS, isI, isL, isB', truth_bl, cmp_le, cmp_lt, cmp_ge, cmp_eqI, cmp_neI, cmp_eqS, cmp_neS, bin_add, bin_sub, ix0, ix1, ix2, len_tup, len_lst, truth_tup, q_within, ne_pt, ne_pc, ne_tc, ne_tp, ne_cp, ne_ct, lx2, lx3, ly2, ly3, q_is_kind, bind2, ek1, ek2, ek3, ek4, ek5, ec1, ec2, ec3, ec4, ie1, is_non, is_tf, isB_bl, q_is_int, lz2, isK, n3]
          · have g1 : ¬ s = "count" := fun z => by rw [z] at h3; simp [getM, getV, binM, cmpM, cmp2M, cmp3M, MI.notM, negM, MI.andM, MI.orM, iteM, seqL, tupM, lstM, lstN, ixM, partM, cutM, isM, bltM, usrM, rg1M, rg2M, lrgM, trgM, upM, tstM, notT, andT, orT, retS, expS, setS, unpS, ifS, nxS, raiS, seqS, tryS, endF, fin, ofE, bnd, MI.ret, rd, intV, boolV, toDs, gd, bl, is_int, is_bool, is_str, is_tup, is_lst, isT, isS, isI, isL, isB', truth_bl, cmp_le, cmp_lt, cmp_ge, cmp_eqI, cmp_neI, cmp_eqS, cmp_neS, bin_add, bin_sub, ix0, ix1, ix2, len_tup, len_lst, truth_tup, q_within, ne_pt, ne_pc, ne_tc, ne_tp, ne_cp, ne_ct, lx2, lx3, ly2, ly3, q_is_kind, bind2, ek1, ek2, ek3, ek4, ek5, ec1, ec2, ec3, ec4, ie1, is_non, is_tf, isB_bl, q_is_int, lz2] at h3
            cases r with
            | nil => simp [getM, getV, binM, cmpM, cmp2M, cmp3M, MI.notM, negM, MI.andM, MI.orM, iteM, seqL, tupM, lstM, lstN, ixM, partM, cutM, isM, bltM, usrM, rg1M, rg2M, lrgM, trgM, upM, tstM, notT, andT, orT, retS, expS, setS, unpS, ifS, nxS, raiS, seqS, tryS, endF, fin, ofE, bnd, MI.ret, rd, intV, boolV, toDs, gd, bl, is_int, is_bool, is_str, is_tup, is_lst, isT, isS, isI, isL, isB', truth_bl, cmp_le, cmp_lt, cmp_ge, cmp_eqI, cmp_neI, cmp_eqS, cmp_neS, bin_add, bin_sub, ix0, ix1, ix2, len_tup, len_lst, truth_tup, q_within, ne_pt, ne_pc, ne_tc, ne_tp, ne_cp, ne_ct, lx2, lx3, ly2, ly3, q_is_kind, bind2, ek1, ek2, ek3, ek4, ek5, ec1, ec2, ec3, ec4, ie1, is_non, is_tf, isB_bl, q_is_int, lz2, isK, h1, h2, h3]
            | cons c r =>
              have n3 : ¬ ((r.length : Int) + 1 + 1 + 1 < 2) := by omega
              cases r with
              | nil => simp [getM, getV, binM, cmpM, cmp2M, cmp3M, MI.notM, negM, MI.andM, MI.orM, iteM, seqL, tupM, lstM, lstN, ixM, partM, cutM, isM, bltM, usrM, rg1M, rg2M, lrgM, trgM, upM, tstM, notT, andT, orT, retS, expS, setS, unpS, ifS, nxS, raiS, seqS, tryS, endF, fin, ofE, bnd, MI.ret, rd, intV, boolV, toDs, gd, bl, is_int, is_bool, is_str, is_tup, is_lst, isT, isS, isI, isL, isB', truth_bl, cmp_le, cmp_lt, cmp_ge, cmp_eqI, cmp_neI, cmp_eqS, cmp_neS, bin_add, bin_sub, ix0, ix1, ix2, len_tup, len_lst, truth_tup, q_within, ne_pt, ne_pc, ne_tc, ne_tp, ne_cp, ne_ct, lx2, lx3, ly2, ly3, q_is_kind, bind2, ek1, ek2, ek3, ek4, ek5, ec1, ec2, ec3, ec4, ie1, is_non, is_tf, isB_bl, q_is_int, lz2, isK, h1, h2, h3]
              | cons e r =>
                have n3 : ¬ ((r.length : Int) + 1 + 1 + 1 + 1 < 2) := by omega
                simp [getM, getV, binM, cmpM, cmp2M, cmp3M, MI.notM, negM, MI.andM, MI.orM, iteM, seqL, tupM, lstM, lstN, ixM, partM, cutM, isM, bltM, usrM, rg1M, rg2M, lrgM, trgM, upM, tstM, notT, andT, orT, retS, expS, setS, unpS, ifS, nxS, raiS, seqS, tryS, endF, fin, ofE, bnd, MI.ret, rd, intV, boolV, toDs, gd, bl, is_int, is_bool, is_str, is_tup, is_lst, isT, isS, isI, isL, isB', truth_bl, cmp_le, cmp_lt, cmp_ge, cmp_eqI, cmp_neI, cmp_eqS, cmp_neS, bin_add, bin_sub, ix0, ix1, ix2, len_tup, len_lst, truth_tup, q_within, ne_pt, ne_pc, ne_tc, ne_tp, ne_cp, ne_ct, lx2, lx3, ly2, ly3, q_is_kind, bind2, ek1, ek2, ek3, ek4, ek5, ec1, ec2, ec3, ec4, ie1, is_non, is_tf, isB_bl, q_is_int, lz2, isK, h1, h2, h3, n3]
        | _ => simp [getM, getV, binM, cmpM, cmp2M, cmp3M, MI.notM, negM, MI.andM, MI.orM, iteM, seqL, tupM, lstM, lstN, ixM, partM, cutM, isM, bltM, usrM, rg1M, rg2M, lrgM, trgM, upM, tstM, notT, andT, orT, retS, expS, setS, unpS, ifS, nxS, raiS, seqS, tryS, endF, fin, ofE, bnd, MI.ret, rd, intV, boolV, toDs, gd, bl, is_int, is_bool, is_str, is_tup, is_lst, isT, isS, isI, isL, isB', truth_bl, cmp_le, cmp_lt, cmp_ge, cmp_eqI, cmp_neI, cmp_eqS, cmp_neS, bin_add, bin_sub, ix0, ix1, ix2, len_tup, len_lst, truth_tup, q_within, ne_pt, ne_pc, ne_tc, ne_tp, ne_cp, ne_ct, lx2, lx3, ly2, ly3, q_is_kind, bind2, ek1, ek2, ek3, ek4, ek5, ec1, ec2, ec3, ec4, ie1, is_non, is_tf, isB_bl, q_is_int, lz2, isK, n2]
  | _ => simp [getM, getV, binM, cmpM, cmp2M, cmp3M, MI.notM, negM, MI.andM, MI.orM, iteM, seqL, tupM, lstM, lstN, ixM, partM, cutM, isM, bltM, usrM, rg1M, rg2M, lrgM, trgM, upM, tstM, notT, andT, orT, retS, expS, setS, unpS, ifS, nxS, raiS, seqS, tryS, endF, fin, ofE, bnd, MI.ret, rd, intV, boolV, toDs, gd, bl, is_int, is_bool, is_str, is_tup, is_lst, isT, isS, isI, isL, isB', truth_bl, cmp_le, cmp_lt, cmp_ge, cmp_eqI, cmp_neI, cmp_eqS, cmp_neS, bin_add, bin_sub, ix0, ix1, ix2, len_tup, len_lst, truth_tup, q_within, ne_pt, ne_pc, ne_tc, ne_tp, ne_cp, ne_ct, lx2, lx3, ly2, ly3, q_is_kind, bind2, ek1, ek2, ek3, ek4, ek5, ec1, ec2, ec3, ec4, ie1, is_non, is_tf, isB_bl, q_is_int, lz2, isK]
end K9
set_option maxRecDepth 100000
namespace K9
open MI PySem
theorem cut11 (a b : D) (h : MH) : cutD (.d (.tup [a, b])) none (some (-1)) h = some (.d (.tup [a])) := by kernel_rfl
theorem cut12 (a b c : D) (h : MH) : cutD (.d (.tup [a, b, c])) none (some (-1)) h = some (.d (.tup [a, b])) := by kernel_rfl
theorem cut21 (a b : D) (h : MH) : cutD (.d (.tup [a, b])) (some 1) none h = some (.d (.tup [b])) := by kernel_rfl
theorem cut22 (a b c : D) (h : MH) : cutD (.d (.tup [a, b, c])) (some 1) none h = some (.d (.tup [b, c])) := by kernel_rfl
theorem ixl1 (a b : D) (h : MH) : pIx (.d (.tup [a, b])) (.d (.int (-1))) h = some (.d b) := by kernel_rfl
theorem ixl2 (a b c : D) (h : MH) : pIx (.d (.tup [a, b, c])) (.d (.int (-1))) h = some (.d c) := by kernel_rfl
theorem lstT (xs : List D) (h : MH) : pCall "list" [.d (.tup xs)] h = some (.d (.lst xs)) := rfl
theorem strI (i : Int) (h1 : 0 ≤ i) (h2 : i ≤ 100) (h : MH) : ∃ s : Str, pCall "str" [.d (.int i)] h = some (.d (.str s)) := by
  refine ⟨(toString i : String), ?_⟩
  show gd (decide (i.natAbs.log2 < 1920)) (Val.d (.str (toString i : String))) = _
  have : i.natAbs.log2 ≤ i.natAbs := Nat.log2_le_self _
  rw [decide_eq_true (by omega)]; rfl
theorem up1 (h : MH) : upM (MI.ret (.d (.str "pick"))) h = .ok (.d (.str (Txt.upper "pick"))) h := by
  have : decide ((("pick" : Str)).length ≤ 5592405) = true := by decide +kernel
  simp [getM, getV, binM, cmpM, cmp2M, cmp3M, MI.notM, negM, MI.andM, MI.orM, iteM, seqL, tupM, lstM, lstN, ixM, partM, cutM, isM, bltM, usrM, rg1M, rg2M, lrgM, trgM, upM, tstM, notT, andT, orT, retS, expS, setS, unpS, ifS, nxS, raiS, seqS, tryS, endF, fin, ofE, bnd, MI.ret, rd, intV, boolV, toDs, gd, bl, is_int, is_bool, is_str, is_tup, is_lst, isT, isS, isI, isL, isB', truth_bl, cmp_le, cmp_lt, cmp_ge, cmp_eqI, cmp_neI, cmp_eqS, cmp_neS, bin_add, bin_sub, ix0, ix1, ix2, len_tup, len_lst, truth_tup, q_within, ne_pt, ne_pc, ne_tc, ne_tp, ne_cp, ne_ct, lx2, lx3, ly2, ly3, q_is_kind, bind2, ek1, ek2, ek3, ek4, ek5, ec1, ec2, ec3, ec4, ie1, is_non, is_tf, isB_bl, q_is_int, this]
theorem up2 (h : MH) : upM (MI.ret (.d (.str "tick"))) h = .ok (.d (.str (Txt.upper "tick"))) h := by
  have : decide ((("tick" : Str)).length ≤ 5592405) = true := by decide +kernel
  simp [getM, getV, binM, cmpM, cmp2M, cmp3M, MI.notM, negM, MI.andM, MI.orM, iteM, seqL, tupM, lstM, lstN, ixM, partM, cutM, isM, bltM, usrM, rg1M, rg2M, lrgM, trgM, upM, tstM, notT, andT, orT, retS, expS, setS, unpS, ifS, nxS, raiS, seqS, tryS, endF, fin, ofE, bnd, MI.ret, rd, intV, boolV, toDs, gd, bl, is_int, is_bool, is_str, is_tup, is_lst, isT, isS, isI, isL, isB', truth_bl, cmp_le, cmp_lt, cmp_ge, cmp_eqI, cmp_neI, cmp_eqS, cmp_neS, bin_add, bin_sub, ix0, ix1, ix2, len_tup, len_lst, truth_tup, q_within, ne_pt, ne_pc, ne_tc, ne_tp, ne_cp, ne_ct, lx2, lx3, ly2, ly3, q_is_kind, bind2, ek1, ek2, ek3, ek4, ek5, ec1, ec2, ec3, ec4, ie1, is_non, is_tf, isB_bl, q_is_int, this]
theorem up3 (h : MH) : upM (MI.ret (.d (.str "count"))) h = .ok (.d (.str (Txt.upper "count"))) h := by
  have : decide ((("count" : Str)).length ≤ 5592405) = true := by decide +kernel
  simp [getM, getV, binM, cmpM, cmp2M, cmp3M, MI.notM, negM, MI.andM, MI.orM, iteM, seqL, tupM, lstM, lstN, ixM, partM, cutM, isM, bltM, usrM, rg1M, rg2M, lrgM, trgM, upM, tstM, notT, andT, orT, retS, expS, setS, unpS, ifS, nxS, raiS, seqS, tryS, endF, fin, ofE, bnd, MI.ret, rd, intV, boolV, toDs, gd, bl, is_int, is_bool, is_str, is_tup, is_lst, isT, isS, isI, isL, isB', truth_bl, cmp_le, cmp_lt, cmp_ge, cmp_eqI, cmp_neI, cmp_eqS, cmp_neS, bin_add, bin_sub, ix0, ix1, ix2, len_tup, len_lst, truth_tup, q_within, ne_pt, ne_pc, ne_tc, ne_tp, ne_cp, ne_ct, lx2, lx3, ly2, ly3, q_is_kind, bind2, ek1, ek2, ek3, ek4, ek5, ec1, ec2, ec3, ec4, ie1, is_non, is_tf, isB_bl, q_is_int, this]
theorem adds1 (h : MH) : pBin .Add (.d (.str "pick")) (.d (.str "s")) h = some (.d (.str ("pick" ++ "s"))) := by kernel_rfl
theorem adds2 (h : MH) : pBin .Add (.d (.str "tick")) (.d (.str "s")) h = some (.d (.str ("tick" ++ "s"))) := by kernel_rfl
theorem adds3 (h : MH) : pBin .Add (.d (.str "count")) (.d (.str "s")) h = some (.d (.str ("count" ++ "s"))) := by kernel_rfl
theorem addT (a : D) (xs ys : List D) (hl : xs.length + 1 + ys.length ≤ 16777216) (h : MH) : pBin .Add (.d (.tup (a :: xs))) (.d (.tup ys)) h = some (.d (.tup (a :: (xs ++ ys)))) := by
  show gd (decide (xs.length + 1 + ys.length ≤ 16777216)) (Val.d (.tup (a :: (xs ++ ys)))) = _
  rw [decide_eq_true hl]; rfl

theorem stg {e : MI.Env → M Val} {rest : MS} {i : Nat} {σ : MI.Env} {h : MH} (N : Nat) (he : ∃ xs : List D, e σ h = .ok (.d (.lst xs)) h ∧ xs.length ≤ N) (k : ∀ xs : List D, xs.length ≤ N → ∃ ys : List D, rest (σ.set i (some (.d (.lst xs)))) h = .rt (.d (.lst ys)) h ∧ ys.length ≤ 1000) :
    ∃ ys : List D, seqS (setS i e) rest σ h = .rt (.d (.lst ys)) h ∧ ys.length ≤ 1000 := by
  obtain ⟨xs, e1, e2⟩ := he
  obtain ⟨ys, e3, e4⟩ := k xs e2
  exact ⟨ys, by rw [sq (st_ok e1)]; exact e3, e4⟩
theorem addS {a b : M Val} {h : MH} {xs : List D} {N M' : Nat} (ha : a h = .ok (.d (.lst xs)) h) (hx : xs.length ≤ N) (hb : ∃ ys : List D, b h = .ok (.d (.lst ys)) h ∧ ys.length ≤ M') (hN : N + M' ≤ 1000) :
    ∃ zs : List D, binM .Add a b h = .ok (.d (.lst zs)) h ∧ zs.length ≤ N + M' := by
  obtain ⟨ys, e1, e2⟩ := hb
  refine ⟨xs ++ ys, ?_, by rw [List.length_append]; omega⟩
  simp [getM, getV, binM, cmpM, cmp2M, cmp3M, MI.notM, negM, MI.andM, MI.orM, iteM, seqL, tupM, lstM, lstN, ixM, partM, cutM, isM, bltM, usrM, rg1M, rg2M, lrgM, trgM, upM, tstM, notT, andT, orT, retS, expS, setS, unpS, ifS, nxS, raiS, seqS, tryS, endF, fin, ofE, bnd, MI.ret, rd, intV, boolV, toDs, gd, bl, is_int, is_bool, is_str, is_tup, is_lst, isT, isS, isI, isL, isB', truth_bl, cmp_le, cmp_lt, cmp_ge, cmp_eqI, cmp_neI, cmp_eqS, cmp_neS, bin_add, bin_sub, ix0, ix1, ix2, len_tup, len_lst, truth_tup, q_within, ne_pt, ne_pc, ne_tc, ne_tp, ne_cp, ne_ct, lx2, lx3, ly2, ly3, q_is_kind, bind2, ek1, ek2, ek3, ek4, ek5, ec1, ec2, ec3, ec4, ie1, is_non, is_tf, isB_bl, q_is_int, ha, e1, addL xs ys (by omega)]
theorem loopE {item : D → M (Option D)} (hi : ∀ v h, ∃ y, item v h = .ok (some y) h) : ∀ (xs : List D) (h : MH), ∃ ys : List D, loopC item xs h = .ok ys h ∧ ys.length = xs.length
  | [], h => ⟨[], rfl, rfl⟩
  | x :: xs, h => by
    obtain ⟨y, e1⟩ := hi x h
    obtain ⟨ys, e2, e3⟩ := loopE hi xs h
    refine ⟨y :: ys, ?_, by simp [getM, getV, binM, cmpM, cmp2M, cmp3M, MI.notM, negM, MI.andM, MI.orM, iteM, seqL, tupM, lstM, lstN, ixM, partM, cutM, isM, bltM, usrM, rg1M, rg2M, lrgM, trgM, upM, tstM, notT, andT, orT, retS, expS, setS, unpS, ifS, nxS, raiS, seqS, tryS, endF, fin, ofE, bnd, MI.ret, rd, intV, boolV, toDs, gd, bl, is_int, is_bool, is_str, is_tup, is_lst, isT, isS, isI, isL, isB', truth_bl, cmp_le, cmp_lt, cmp_ge, cmp_eqI, cmp_neI, cmp_eqS, cmp_neS, bin_add, bin_sub, ix0, ix1, ix2, len_tup, len_lst, truth_tup, q_within, ne_pt, ne_pc, ne_tc, ne_tp, ne_cp, ne_ct, lx2, lx3, ly2, ly3, q_is_kind, bind2, ek1, ek2, ek3, ek4, ek5, ec1, ec2, ec3, ec4, ie1, is_non, is_tf, isB_bl, q_is_int, e3]⟩
    unfold loopC
    simp [getM, getV, binM, cmpM, cmp2M, cmp3M, MI.notM, negM, MI.andM, MI.orM, iteM, seqL, tupM, lstM, lstN, ixM, partM, cutM, isM, bltM, usrM, rg1M, rg2M, lrgM, trgM, upM, tstM, notT, andT, orT, retS, expS, setS, unpS, ifS, nxS, raiS, seqS, tryS, endF, fin, ofE, bnd, MI.ret, rd, intV, boolV, toDs, gd, bl, is_int, is_bool, is_str, is_tup, is_lst, isT, isS, isI, isL, isB', truth_bl, cmp_le, cmp_lt, cmp_ge, cmp_eqI, cmp_neI, cmp_eqS, cmp_neS, bin_add, bin_sub, ix0, ix1, ix2, len_tup, len_lst, truth_tup, q_within, ne_pt, ne_pc, ne_tc, ne_tp, ne_cp, ne_ct, lx2, lx3, ly2, ly3, q_is_kind, bind2, ek1, ek2, ek3, ek4, ek5, ec1, ec2, ec3, ec4, ie1, is_non, is_tf, isB_bl, q_is_int, e1, e2]
theorem comE {its : M (List D)} {item : D → M (Option D)} {xs : List D} {h : MH} {N : Nat} (hits : its h = .ok xs h) (hi : ∀ v h, ∃ y, item v h = .ok (some y) h) (hx : xs.length ≤ N) (hN : N ≤ 1000) :
    ∃ ys : List D, comM its item h = .ok (.d (.lst ys)) h ∧ ys.length ≤ N := by
  obtain ⟨ys, e1, e2⟩ := loopE hi xs h
  refine ⟨ys, ?_, by omega⟩
  have : decide (xs.length ≤ 16777216) = true := decide_eq_true (by omega)
  unfold comM noexc
  simp [getM, getV, binM, cmpM, cmp2M, cmp3M, MI.notM, negM, MI.andM, MI.orM, iteM, seqL, tupM, lstM, lstN, ixM, partM, cutM, isM, bltM, usrM, rg1M, rg2M, lrgM, trgM, upM, tstM, notT, andT, orT, retS, expS, setS, unpS, ifS, nxS, raiS, seqS, tryS, endF, fin, ofE, bnd, MI.ret, rd, intV, boolV, toDs, gd, bl, is_int, is_bool, is_str, is_tup, is_lst, isT, isS, isI, isL, isB', truth_bl, cmp_le, cmp_lt, cmp_ge, cmp_eqI, cmp_neI, cmp_eqS, cmp_neS, bin_add, bin_sub, ix0, ix1, ix2, len_tup, len_lst, truth_tup, q_within, ne_pt, ne_pc, ne_tc, ne_tp, ne_cp, ne_ct, lx2, lx3, ly2, ly3, q_is_kind, bind2, ek1, ek2, ek3, ek4, ek5, ec1, ec2, ec3, ec4, ie1, is_non, is_tf, isB_bl, q_is_int, hits, this, e1]
structure NK (x : D) (s : Str) (n l : Int) : Prop where
  i0 : ∀ h, pIx (.d x) (.d (.int 0)) h = some (.d (.str s))
  i1 : ∀ h, pIx (.d x) (.d (.int 1)) h = some (.d (.int n))
  iL : ∀ h, pIx (.d x) (.d (.int (-1))) h = some (.d (.int l))
  ls : ∃ y : D, ∀ h, pCall "list" [.d x] h = some (.d y)
  c1 : ∃ y : D, ∀ h, cutD (.d x) none (some (-1)) h = some (.d y)
  c2 : ∃ t : List D, t.length ≤ 10 ∧ ∀ h, cutD (.d x) (some 1) none h = some (.d (.tup t))
  ad : ∃ y : D, ∀ h, pBin .Add (.d x) (.d (.tup [.int l])) h = some (.d y)
  s1 : ∃ y : D, ∀ h, pBin .Add (.d (.str s)) (.d (.str "s")) h = some (.d y)
  up : ∃ y : D, ∀ h, upM (MI.ret (.d (.str s))) h = .ok (.d y) h
  sn : ∃ y : D, ∀ h, pCall "str" [.d (.int n)] h = some (.d y)
  sl : ∃ y : D, ∀ h, pCall "str" [.d (.int l)] h = some (.d y)
theorem strE (i : Int) (h1 : 0 ≤ i) (h2 : i ≤ 100) : ∃ y : D, ∀ h, pCall "str" [.d (.int i)] h = some (.d y) := by
  obtain ⟨s, e⟩ := strI i h1 h2 []
  exact ⟨.str s, fun h => e⟩
theorem Kd.nk {x : D} {lo hi : Int} (k : Kd x lo hi) : ∃ s n l, NK x s n l := by
  cases k with
  | p n h1 h2 => exact ⟨_, n, n, ⟨fun h => ix0 _ _ h, fun h => ix1 _ _ _ h, fun h => ixl1 _ _ h, ⟨_, fun h => lstT _ h⟩, ⟨_, fun h => cut11 _ _ h⟩, ⟨_, by simp [getM, getV, binM, cmpM, cmp2M, cmp3M, MI.notM, negM, MI.andM, MI.orM, iteM, seqL, tupM, lstM, lstN, ixM, partM, cutM, isM, bltM, usrM, rg1M, rg2M, lrgM, trgM, upM, tstM, notT, andT, orT, retS, expS, setS, unpS, ifS, nxS, raiS, seqS, tryS, endF, fin, ofE, bnd, MI.ret, rd, intV, boolV, toDs, gd, bl, is_int, is_bool, is_str, is_tup, is_lst, isT, isS, isI, isL, isB', truth_bl, cmp_le, cmp_lt, cmp_ge, cmp_eqI, cmp_neI, cmp_eqS, cmp_neS, bin_add, bin_sub, ix0, ix1, ix2, len_tup, len_lst, truth_tup, q_within, ne_pt, ne_pc, ne_tc, ne_tp, ne_cp, ne_ct, lx2, lx3, ly2, ly3, q_is_kind, bind2, ek1, ek2, ek3, ek4, ek5, ec1, ec2, ec3, ec4, ie1, is_non, is_tf, isB_bl, q_is_int], fun h => cut21 _ _ h⟩, ⟨_, fun h => addT _ _ _ (by simp [getM, getV, binM, cmpM, cmp2M, cmp3M, MI.notM, negM, MI.andM, MI.orM, iteM, seqL, tupM, lstM, lstN, ixM, partM, cutM, isM, bltM, usrM, rg1M, rg2M, lrgM, trgM, upM, tstM, notT, andT, orT, retS, expS, setS, unpS, ifS, nxS, raiS, seqS, tryS, endF, fin, ofE, bnd, MI.ret, rd, intV, boolV, toDs, gd, bl, is_int, is_bool, is_str, is_tup, is_lst, isT, isS, isI, isL, isB', truth_bl, cmp_le, cmp_lt, cmp_ge, cmp_eqI, cmp_neI, cmp_eqS, cmp_neS, bin_add, bin_sub, ix0, ix1, ix2, len_tup, len_lst, truth_tup, q_within, ne_pt, ne_pc, ne_tc, ne_tp, ne_cp, ne_ct, lx2, lx3, ly2, ly3, q_is_kind, bind2, ek1, ek2, ek3, ek4, ek5, ec1, ec2, ec3, ec4, ie1, is_non, is_tf, isB_bl, q_is_int]) h⟩, ⟨_, fun h => adds1 h⟩, ⟨_, fun h => up1 h⟩, strE n (by omega) (by omega), strE n (by omega) (by omega)⟩⟩
  | t n h1 h2 => exact ⟨_, n, n, ⟨fun h => ix0 _ _ h, fun h => ix1 _ _ _ h, fun h => ixl1 _ _ h, ⟨_, fun h => lstT _ h⟩, ⟨_, fun h => cut11 _ _ h⟩, ⟨_, by simp [getM, getV, binM, cmpM, cmp2M, cmp3M, MI.notM, negM, MI.andM, MI.orM, iteM, seqL, tupM, lstM, lstN, ixM, partM, cutM, isM, bltM, usrM, rg1M, rg2M, lrgM, trgM, upM, tstM, notT, andT, orT, retS, expS, setS, unpS, ifS, nxS, raiS, seqS, tryS, endF, fin, ofE, bnd, MI.ret, rd, intV, boolV, toDs, gd, bl, is_int, is_bool, is_str, is_tup, is_lst, isT, isS, isI, isL, isB', truth_bl, cmp_le, cmp_lt, cmp_ge, cmp_eqI, cmp_neI, cmp_eqS, cmp_neS, bin_add, bin_sub, ix0, ix1, ix2, len_tup, len_lst, truth_tup, q_within, ne_pt, ne_pc, ne_tc, ne_tp, ne_cp, ne_ct, lx2, lx3, ly2, ly3, q_is_kind, bind2, ek1, ek2, ek3, ek4, ek5, ec1, ec2, ec3, ec4, ie1, is_non, is_tf, isB_bl, q_is_int], fun h => cut21 _ _ h⟩, ⟨_, fun h => addT _ _ _ (by simp [getM, getV, binM, cmpM, cmp2M, cmp3M, MI.notM, negM, MI.andM, MI.orM, iteM, seqL, tupM, lstM, lstN, ixM, partM, cutM, isM, bltM, usrM, rg1M, rg2M, lrgM, trgM, upM, tstM, notT, andT, orT, retS, expS, setS, unpS, ifS, nxS, raiS, seqS, tryS, endF, fin, ofE, bnd, MI.ret, rd, intV, boolV, toDs, gd, bl, is_int, is_bool, is_str, is_tup, is_lst, isT, isS, isI, isL, isB', truth_bl, cmp_le, cmp_lt, cmp_ge, cmp_eqI, cmp_neI, cmp_eqS, cmp_neS, bin_add, bin_sub, ix0, ix1, ix2, len_tup, len_lst, truth_tup, q_within, ne_pt, ne_pc, ne_tc, ne_tp, ne_cp, ne_ct, lx2, lx3, ly2, ly3, q_is_kind, bind2, ek1, ek2, ek3, ek4, ek5, ec1, ec2, ec3, ec4, ie1, is_non, is_tf, isB_bl, q_is_int]) h⟩, ⟨_, fun h => adds2 h⟩, ⟨_, fun h => up2 h⟩, strE n (by omega) (by omega), strE n (by omega) (by omega)⟩⟩
  | c a b h1 h2 h3 => exact ⟨_, lo, hi, ⟨fun h => ix0 _ _ h, fun h => ix1 _ _ _ h, fun h => ixl2 _ _ _ h, ⟨_, fun h => lstT _ h⟩, ⟨_, fun h => cut12 _ _ _ h⟩, ⟨_, by simp [getM, getV, binM, cmpM, cmp2M, cmp3M, MI.notM, negM, MI.andM, MI.orM, iteM, seqL, tupM, lstM, lstN, ixM, partM, cutM, isM, bltM, usrM, rg1M, rg2M, lrgM, trgM, upM, tstM, notT, andT, orT, retS, expS, setS, unpS, ifS, nxS, raiS, seqS, tryS, endF, fin, ofE, bnd, MI.ret, rd, intV, boolV, toDs, gd, bl, is_int, is_bool, is_str, is_tup, is_lst, isT, isS, isI, isL, isB', truth_bl, cmp_le, cmp_lt, cmp_ge, cmp_eqI, cmp_neI, cmp_eqS, cmp_neS, bin_add, bin_sub, ix0, ix1, ix2, len_tup, len_lst, truth_tup, q_within, ne_pt, ne_pc, ne_tc, ne_tp, ne_cp, ne_ct, lx2, lx3, ly2, ly3, q_is_kind, bind2, ek1, ek2, ek3, ek4, ek5, ec1, ec2, ec3, ec4, ie1, is_non, is_tf, isB_bl, q_is_int], fun h => cut22 _ _ _ h⟩, ⟨_, fun h => addT _ _ _ (by simp [getM, getV, binM, cmpM, cmp2M, cmp3M, MI.notM, negM, MI.andM, MI.orM, iteM, seqL, tupM, lstM, lstN, ixM, partM, cutM, isM, bltM, usrM, rg1M, rg2M, lrgM, trgM, upM, tstM, notT, andT, orT, retS, expS, setS, unpS, ifS, nxS, raiS, seqS, tryS, endF, fin, ofE, bnd, MI.ret, rd, intV, boolV, toDs, gd, bl, is_int, is_bool, is_str, is_tup, is_lst, isT, isS, isI, isL, isB', truth_bl, cmp_le, cmp_lt, cmp_ge, cmp_eqI, cmp_neI, cmp_eqS, cmp_neS, bin_add, bin_sub, ix0, ix1, ix2, len_tup, len_lst, truth_tup, q_within, ne_pt, ne_pc, ne_tc, ne_tp, ne_cp, ne_ct, lx2, lx3, ly2, ly3, q_is_kind, bind2, ek1, ek2, ek3, ek4, ek5, ec1, ec2, ec3, ec4, ie1, is_non, is_tf, isB_bl, q_is_int]) h⟩, ⟨_, fun h => adds3 h⟩, ⟨_, fun h => up3 h⟩, strE lo (by omega) (by omega), strE hi (by omega) (by omega)⟩⟩
theorem near_end {r : ResS} {h h2 : MH} {i m : Nat} (u : Upd h h2 i m) (hs : ∃ ys : List D, r = .rt (.d (.lst ys)) h2 ∧ ys.length ≤ 1000) : ∃ ys h', endF false h.length r = .ok (.d (.lst ys)) h' ∧ ys.length ≤ 1000 ∧ Upd h h' i m := by
  obtain ⟨ys, e3, e4⟩ := hs
  refine ⟨ys, h2, ?_, e4, u⟩
  rw [e3]
  exact end_rt u.len
theorem q_near (d : Nat) {x : D} {lo hi : Int} (k : Kd x lo hi) {h : MH} {i m : Nat} (dr : Dr h i m) (hm : m < 100000000000) : ∃ ys h', callF g (d + 3) "_law_near" [.d x, .m i] h = .ok (.d (.lst ys)) h' ∧ ys.length ≤ 1000 ∧ Upd h h' i (m + 2) := by
  obtain ⟨s, n, l, i0, i1, iL, ⟨yl, ls⟩, ⟨yc, c1⟩, ⟨t, ht, c2⟩, ⟨ya, ad⟩, ⟨ys1, s1⟩, ⟨yu, up⟩, ⟨yn, sn⟩, ⟨yL, sl⟩⟩ := k.nk
  obtain ⟨w, h1, e1, w1, w2, u1⟩ := q_next (d + 1) (n := 100) dr (by omega) (by omega)
  obtain ⟨xo, h2, e2, hx, u2⟩ := q_pick d (row := [.int 0, .int 1, .int 2, .int 4, .int 5, .int 6, .int 7, .int 98, .int 99, .int 100, .int (-1), .int 100000000000000000000000000000, .int (-100000000000000000000000000000), .int w]) u1.dr (by omega) (by simp [getM, getV, binM, cmpM, cmp2M, cmp3M, MI.notM, negM, MI.andM, MI.orM, iteM, seqL, tupM, lstM, lstN, ixM, partM, cutM, isM, bltM, usrM, rg1M, rg2M, lrgM, trgM, upM, tstM, notT, andT, orT, retS, expS, setS, unpS, ifS, nxS, raiS, seqS, tryS, endF, fin, ofE, bnd, MI.ret, rd, intV, boolV, toDs, gd, bl, is_int, is_bool, is_str, is_tup, is_lst, isT, isS, isI, isL, isB', truth_bl, cmp_le, cmp_lt, cmp_ge, cmp_eqI, cmp_neI, cmp_eqS, cmp_neS, bin_add, bin_sub, ix0, ix1, ix2, len_tup, len_lst, truth_tup, q_within, ne_pt, ne_pc, ne_tc, ne_tp, ne_cp, ne_ct, lx2, lx3, ly2, ly3, q_is_kind, bind2, ek1, ek2, ek3, ek4, ek5, ec1, ec2, ec3, ec4, ie1, is_non, is_tf, isB_bl, q_is_int])
  obtain ⟨o, rfl⟩ : ∃ o, xo = .int o := by
    simp [getM, getV, binM, cmpM, cmp2M, cmp3M, MI.notM, negM, MI.andM, MI.orM, iteM, seqL, tupM, lstM, lstN, ixM, partM, cutM, isM, bltM, usrM, rg1M, rg2M, lrgM, trgM, upM, tstM, notT, andT, orT, retS, expS, setS, unpS, ifS, nxS, raiS, seqS, tryS, endF, fin, ofE, bnd, MI.ret, rd, intV, boolV, toDs, gd, bl, is_int, is_bool, is_str, is_tup, is_lst, isT, isS, isI, isL, isB', truth_bl, cmp_le, cmp_lt, cmp_ge, cmp_eqI, cmp_neI, cmp_eqS, cmp_neS, bin_add, bin_sub, ix0, ix1, ix2, len_tup, len_lst, truth_tup, q_within, ne_pt, ne_pc, ne_tc, ne_tp, ne_cp, ne_ct, lx2, lx3, ly2, ly3, q_is_kind, bind2, ek1, ek2, ek3, ek4, ek5, ec1, ec2, ec3, ec4, ie1, is_non, is_tf, isB_bl, q_is_int] at hx
    rcases hx with rfl | rfl | rfl | rfl | rfl | rfl | rfl | rfl | rfl | rfl | rfl | rfl | rfl | rfl <;> exact ⟨_, rfl⟩
  rw [c__law_near]
  unfold s__law_near
  rw [sq (st_ok (v := .d (.str s)) (h1 := h) (by simp [getM, getV, binM, cmpM, cmp2M, cmp3M, MI.notM, negM, MI.andM, MI.orM, iteM, seqL, tupM, lstM, lstN, ixM, partM, cutM, isM, bltM, usrM, rg1M, rg2M, lrgM, trgM, upM, tstM, notT, andT, orT, retS, expS, setS, unpS, ifS, nxS, raiS, seqS, tryS, endF, fin, ofE, bnd, MI.ret, rd, intV, boolV, toDs, gd, bl, is_int, is_bool, is_str, is_tup, is_lst, isT, isS, isI, isL, isB', truth_bl, cmp_le, cmp_lt, cmp_ge, cmp_eqI, cmp_neI, cmp_eqS, cmp_neS, bin_add, bin_sub, ix0, ix1, ix2, len_tup, len_lst, truth_tup, q_within, ne_pt, ne_pc, ne_tc, ne_tp, ne_cp, ne_ct, lx2, lx3, ly2, ly3, q_is_kind, bind2, ek1, ek2, ek3, ek4, ek5, ec1, ec2, ec3, ec4, ie1, is_non, is_tf, isB_bl, q_is_int, i0])), sq (st_ok (v := .d (.int n)) (h1 := h) (by simp [getM, getV, binM, cmpM, cmp2M, cmp3M, MI.notM, negM, MI.andM, MI.orM, iteM, seqL, tupM, lstM, lstN, ixM, partM, cutM, isM, bltM, usrM, rg1M, rg2M, lrgM, trgM, upM, tstM, notT, andT, orT, retS, expS, setS, unpS, ifS, nxS, raiS, seqS, tryS, endF, fin, ofE, bnd, MI.ret, rd, intV, boolV, toDs, gd, bl, is_int, is_bool, is_str, is_tup, is_lst, isT, isS, isI, isL, isB', truth_bl, cmp_le, cmp_lt, cmp_ge, cmp_eqI, cmp_neI, cmp_eqS, cmp_neS, bin_add, bin_sub, ix0, ix1, ix2, len_tup, len_lst, truth_tup, q_within, ne_pt, ne_pc, ne_tc, ne_tp, ne_cp, ne_ct, lx2, lx3, ly2, ly3, q_is_kind, bind2, ek1, ek2, ek3, ek4, ek5, ec1, ec2, ec3, ec4, ie1, is_non, is_tf, isB_bl, q_is_int, i1])), sq (st_ok (v := .d (.int l)) (h1 := h) (by simp [getM, getV, binM, cmpM, cmp2M, cmp3M, MI.notM, negM, MI.andM, MI.orM, iteM, seqL, tupM, lstM, lstN, ixM, partM, cutM, isM, bltM, usrM, rg1M, rg2M, lrgM, trgM, upM, tstM, notT, andT, orT, retS, expS, setS, unpS, ifS, nxS, raiS, seqS, tryS, endF, fin, ofE, bnd, MI.ret, rd, intV, boolV, toDs, gd, bl, is_int, is_bool, is_str, is_tup, is_lst, isT, isS, isI, isL, isB', truth_bl, cmp_le, cmp_lt, cmp_ge, cmp_eqI, cmp_neI, cmp_eqS, cmp_neS, bin_add, bin_sub, ix0, ix1, ix2, len_tup, len_lst, truth_tup, q_within, ne_pt, ne_pc, ne_tc, ne_tp, ne_cp, ne_ct, lx2, lx3, ly2, ly3, q_is_kind, bind2, ek1, ek2, ek3, ek4, ek5, ec1, ec2, ec3, ec4, ie1, is_non, is_tf, isB_bl, q_is_int, iL])), sq (st_ok (v := .d (.int o)) (h1 := h2) (by simp [getM, getV, binM, cmpM, cmp2M, cmp3M, MI.notM, negM, MI.andM, MI.orM, iteM, seqL, tupM, lstM, lstN, ixM, partM, cutM, isM, bltM, usrM, rg1M, rg2M, lrgM, trgM, upM, tstM, notT, andT, orT, retS, expS, setS, unpS, ifS, nxS, raiS, seqS, tryS, endF, fin, ofE, bnd, MI.ret, rd, intV, boolV, toDs, gd, bl, is_int, is_bool, is_str, is_tup, is_lst, isT, isS, isI, isL, isB', truth_bl, cmp_le, cmp_lt, cmp_ge, cmp_eqI, cmp_neI, cmp_eqS, cmp_neS, bin_add, bin_sub, ix0, ix1, ix2, len_tup, len_lst, truth_tup, q_within, ne_pt, ne_pc, ne_tc, ne_tp, ne_cp, ne_ct, lx2, lx3, ly2, ly3, q_is_kind, bind2, ek1, ek2, ek3, ek4, ek5, ec1, ec2, ec3, ec4, ie1, is_non, is_tf, isB_bl, q_is_int, e1, pow29, e2]))]
  refine near_end ((u1.trans u2).mono (Nat.le_refl _)) ?_
  have up' : ∀ h, (bnd (MI.ret (Val.d (.str s))) fun x => rd fun _ => match x with | .d (.str s) => gd (decide (s.length ≤ 5592405)) (Val.d (.str (Txt.upper s))) | _ => none) h = .ok (.d yu) h := up
  refine stg 20 ⟨[x, .tup [], .lst [], .edict, .str "", .str s, .int n, .non, .bl true, .bl false, .tup [.str s], .tup [.int n], .tup [x], yl, yc], by simp [getM, getV, binM, cmpM, cmp2M, cmp3M, MI.notM, negM, MI.andM, MI.orM, iteM, seqL, tupM, lstM, lstN, ixM, partM, cutM, isM, bltM, usrM, rg1M, rg2M, lrgM, trgM, upM, tstM, notT, andT, orT, retS, expS, setS, unpS, ifS, nxS, raiS, seqS, tryS, endF, fin, ofE, bnd, MI.ret, rd, intV, boolV, toDs, gd, bl, is_int, is_bool, is_str, is_tup, is_lst, isT, isS, isI, isL, isB', truth_bl, cmp_le, cmp_lt, cmp_ge, cmp_eqI, cmp_neI, cmp_eqS, cmp_neS, bin_add, bin_sub, ix0, ix1, ix2, len_tup, len_lst, truth_tup, q_within, ne_pt, ne_pc, ne_tc, ne_tp, ne_cp, ne_ct, lx2, lx3, ly2, ly3, q_is_kind, bind2, ek1, ek2, ek3, ek4, ek5, ec1, ec2, ec3, ec4, ie1, is_non, is_tf, isB_bl, q_is_int, ls, c1], by simp [getM, getV, binM, cmpM, cmp2M, cmp3M, MI.notM, negM, MI.andM, MI.orM, iteM, seqL, tupM, lstM, lstN, ixM, partM, cutM, isM, bltM, usrM, rg1M, rg2M, lrgM, trgM, upM, tstM, notT, andT, orT, retS, expS, setS, unpS, ifS, nxS, raiS, seqS, tryS, endF, fin, ofE, bnd, MI.ret, rd, intV, boolV, toDs, gd, bl, is_int, is_bool, is_str, is_tup, is_lst, isT, isS, isI, isL, isB', truth_bl, cmp_le, cmp_lt, cmp_ge, cmp_eqI, cmp_neI, cmp_eqS, cmp_neS, bin_add, bin_sub, ix0, ix1, ix2, len_tup, len_lst, truth_tup, q_within, ne_pt, ne_pc, ne_tc, ne_tp, ne_cp, ne_ct, lx2, lx3, ly2, ly3, q_is_kind, bind2, ek1, ek2, ek3, ek4, ek5, ec1, ec2, ec3, ec4, ie1, is_non, is_tf, isB_bl, q_is_int]⟩ fun x6 hx6 => ?_
  refine stg 30 (addS (N := 20) (M' := 10) (xs := x6) (by simp [getM, getV, binM, cmpM, cmp2M, cmp3M, MI.notM, negM, MI.andM, MI.orM, iteM, seqL, tupM, lstM, lstN, ixM, partM, cutM, isM, bltM, usrM, rg1M, rg2M, lrgM, trgM, upM, tstM, notT, andT, orT, retS, expS, setS, unpS, ifS, nxS, raiS, seqS, tryS, endF, fin, ofE, bnd, MI.ret, rd, intV, boolV, toDs, gd, bl, is_int, is_bool, is_str, is_tup, is_lst, isT, isS, isI, isL, isB', truth_bl, cmp_le, cmp_lt, cmp_ge, cmp_eqI, cmp_neI, cmp_eqS, cmp_neS, bin_add, bin_sub, ix0, ix1, ix2, len_tup, len_lst, truth_tup, q_within, ne_pt, ne_pc, ne_tc, ne_tp, ne_cp, ne_ct, lx2, lx3, ly2, ly3, q_is_kind, bind2, ek1, ek2, ek3, ek4, ek5, ec1, ec2, ec3, ec4, ie1, is_non, is_tf, isB_bl, q_is_int]) hx6 ⟨[ya, .tup [.str s, .non], .tup [.str s, .bl true], .tup [.str s, yn], .tup [.str s, .tup [.int n]], .tup [.str s, .lst [.int n]]], by simp [getM, getV, binM, cmpM, cmp2M, cmp3M, MI.notM, negM, MI.andM, MI.orM, iteM, seqL, tupM, lstM, lstN, ixM, partM, cutM, isM, bltM, usrM, rg1M, rg2M, lrgM, trgM, upM, tstM, notT, andT, orT, retS, expS, setS, unpS, ifS, nxS, raiS, seqS, tryS, endF, fin, ofE, bnd, MI.ret, rd, intV, boolV, toDs, gd, bl, is_int, is_bool, is_str, is_tup, is_lst, isT, isS, isI, isL, isB', truth_bl, cmp_le, cmp_lt, cmp_ge, cmp_eqI, cmp_neI, cmp_eqS, cmp_neS, bin_add, bin_sub, ix0, ix1, ix2, len_tup, len_lst, truth_tup, q_within, ne_pt, ne_pc, ne_tc, ne_tp, ne_cp, ne_ct, lx2, lx3, ly2, ly3, q_is_kind, bind2, ek1, ek2, ek3, ek4, ek5, ec1, ec2, ec3, ec4, ie1, is_non, is_tf, isB_bl, q_is_int, ad, sn], by simp [getM, getV, binM, cmpM, cmp2M, cmp3M, MI.notM, negM, MI.andM, MI.orM, iteM, seqL, tupM, lstM, lstN, ixM, partM, cutM, isM, bltM, usrM, rg1M, rg2M, lrgM, trgM, upM, tstM, notT, andT, orT, retS, expS, setS, unpS, ifS, nxS, raiS, seqS, tryS, endF, fin, ofE, bnd, MI.ret, rd, intV, boolV, toDs, gd, bl, is_int, is_bool, is_str, is_tup, is_lst, isT, isS, isI, isL, isB', truth_bl, cmp_le, cmp_lt, cmp_ge, cmp_eqI, cmp_neI, cmp_eqS, cmp_neS, bin_add, bin_sub, ix0, ix1, ix2, len_tup, len_lst, truth_tup, q_within, ne_pt, ne_pc, ne_tc, ne_tp, ne_cp, ne_ct, lx2, lx3, ly2, ly3, q_is_kind, bind2, ek1, ek2, ek3, ek4, ek5, ec1, ec2, ec3, ec4, ie1, is_non, is_tf, isB_bl, q_is_int]⟩ (by decide)) fun x6 hx6 => ?_
  refine stg 8 ⟨[.str "", .str "ask", ys1, yu, .non, .int 0, .tup [.str s], .lst [.str s]], by simp [getM, getV, binM, cmpM, cmp2M, cmp3M, MI.notM, negM, MI.andM, MI.orM, iteM, seqL, tupM, lstM, lstN, ixM, partM, cutM, isM, bltM, usrM, rg1M, rg2M, lrgM, trgM, tstM, notT, andT, orT, retS, expS, setS, unpS, ifS, nxS, raiS, seqS, tryS, endF, fin, ofE, bnd, MI.ret, rd, intV, boolV, toDs, gd, bl, is_int, is_bool, is_str, is_tup, is_lst, isT, isS, isI, isL, isB', truth_bl, cmp_le, cmp_lt, cmp_ge, cmp_eqI, cmp_neI, cmp_eqS, cmp_neS, bin_add, bin_sub, ix0, ix1, ix2, len_tup, len_lst, truth_tup, q_within, ne_pt, ne_pc, ne_tc, ne_tp, ne_cp, ne_ct, lx2, lx3, ly2, ly3, q_is_kind, bind2, ek1, ek2, ek3, ek4, ek5, ec1, ec2, ec3, ec4, ie1, is_non, is_tf, isB_bl, q_is_int, s1, getM_c, getM_s, up], by simp [getM, getV, binM, cmpM, cmp2M, cmp3M, MI.notM, negM, MI.andM, MI.orM, iteM, seqL, tupM, lstM, lstN, ixM, partM, cutM, isM, bltM, usrM, rg1M, rg2M, lrgM, trgM, upM, tstM, notT, andT, orT, retS, expS, setS, unpS, ifS, nxS, raiS, seqS, tryS, endF, fin, ofE, bnd, MI.ret, rd, intV, boolV, toDs, gd, bl, is_int, is_bool, is_str, is_tup, is_lst, isT, isS, isI, isL, isB', truth_bl, cmp_le, cmp_lt, cmp_ge, cmp_eqI, cmp_neI, cmp_eqS, cmp_neS, bin_add, bin_sub, ix0, ix1, ix2, len_tup, len_lst, truth_tup, q_within, ne_pt, ne_pc, ne_tc, ne_tp, ne_cp, ne_ct, lx2, lx3, ly2, ly3, q_is_kind, bind2, ek1, ek2, ek3, ek4, ek5, ec1, ec2, ec3, ec4, ie1, is_non, is_tf, isB_bl, q_is_int]⟩ fun x7 hx7 => ?_
  refine stg 38 (addS (N := 30) (M' := 8) (xs := x6) (by simp [getM, getV, binM, cmpM, cmp2M, cmp3M, MI.notM, negM, MI.andM, MI.orM, iteM, seqL, tupM, lstM, lstN, ixM, partM, cutM, isM, bltM, usrM, rg1M, rg2M, lrgM, trgM, upM, tstM, notT, andT, orT, retS, expS, setS, unpS, ifS, nxS, raiS, seqS, tryS, endF, fin, ofE, bnd, MI.ret, rd, intV, boolV, toDs, gd, bl, is_int, is_bool, is_str, is_tup, is_lst, isT, isS, isI, isL, isB', truth_bl, cmp_le, cmp_lt, cmp_ge, cmp_eqI, cmp_neI, cmp_eqS, cmp_neS, bin_add, bin_sub, ix0, ix1, ix2, len_tup, len_lst, truth_tup, q_within, ne_pt, ne_pc, ne_tc, ne_tp, ne_cp, ne_ct, lx2, lx3, ly2, ly3, q_is_kind, bind2, ek1, ek2, ek3, ek4, ek5, ec1, ec2, ec3, ec4, ie1, is_non, is_tf, isB_bl, q_is_int]) hx6 (comE (xs := x7) (by simp [getM, getV, binM, cmpM, cmp2M, cmp3M, MI.notM, negM, MI.andM, MI.orM, iteM, seqL, tupM, lstM, lstN, ixM, partM, cutM, isM, bltM, usrM, rg1M, rg2M, lrgM, trgM, upM, tstM, notT, andT, orT, retS, expS, setS, unpS, ifS, nxS, raiS, seqS, tryS, endF, fin, ofE, bnd, MI.ret, rd, intV, boolV, toDs, gd, bl, is_int, is_bool, is_str, is_tup, is_lst, isT, isS, isI, isL, isB', truth_bl, cmp_le, cmp_lt, cmp_ge, cmp_eqI, cmp_neI, cmp_eqS, cmp_neS, bin_add, bin_sub, ix0, ix1, ix2, len_tup, len_lst, truth_tup, q_within, ne_pt, ne_pc, ne_tc, ne_tp, ne_cp, ne_ct, lx2, lx3, ly2, ly3, q_is_kind, bind2, ek1, ek2, ek3, ek4, ek5, ec1, ec2, ec3, ec4, ie1, is_non, is_tf, isB_bl, q_is_int, frI, frz_lst]) (fun v h => ⟨.tup (v :: t), by simp [getM, getV, binM, cmpM, cmp2M, cmp3M, MI.notM, negM, MI.andM, MI.orM, iteM, seqL, tupM, lstM, lstN, ixM, partM, cutM, isM, bltM, usrM, rg1M, rg2M, lrgM, trgM, upM, tstM, notT, andT, orT, retS, expS, setS, unpS, ifS, nxS, raiS, seqS, tryS, endF, fin, ofE, bnd, MI.ret, rd, intV, boolV, toDs, gd, bl, is_int, is_bool, is_str, is_tup, is_lst, isT, isS, isI, isL, isB', truth_bl, cmp_le, cmp_lt, cmp_ge, cmp_eqI, cmp_neI, cmp_eqS, cmp_neS, bin_add, bin_sub, ix0, ix1, ix2, len_tup, len_lst, truth_tup, q_within, ne_pt, ne_pc, ne_tc, ne_tp, ne_cp, ne_ct, lx2, lx3, ly2, ly3, q_is_kind, bind2, ek1, ek2, ek3, ek4, ek5, ec1, ec2, ec3, ec4, ie1, is_non, is_tf, isB_bl, q_is_int, itemC, wipeE, bindS, c2, oneD, addT v [] t (by simp; omega)]⟩) hx7 (by decide)) (by decide)) fun x6 hx6 => ?_
  refine stg 41 (addS (N := 38) (M' := 3) (xs := x6) (by simp [getM, getV, binM, cmpM, cmp2M, cmp3M, MI.notM, negM, MI.andM, MI.orM, iteM, seqL, tupM, lstM, lstN, ixM, partM, cutM, isM, bltM, usrM, rg1M, rg2M, lrgM, trgM, upM, tstM, notT, andT, orT, retS, expS, setS, unpS, ifS, nxS, raiS, seqS, tryS, endF, fin, ofE, bnd, MI.ret, rd, intV, boolV, toDs, gd, bl, is_int, is_bool, is_str, is_tup, is_lst, isT, isS, isI, isL, isB', truth_bl, cmp_le, cmp_lt, cmp_ge, cmp_eqI, cmp_neI, cmp_eqS, cmp_neS, bin_add, bin_sub, ix0, ix1, ix2, len_tup, len_lst, truth_tup, q_within, ne_pt, ne_pc, ne_tc, ne_tp, ne_cp, ne_ct, lx2, lx3, ly2, ly3, q_is_kind, bind2, ek1, ek2, ek3, ek4, ek5, ec1, ec2, ec3, ec4, ie1, is_non, is_tf, isB_bl, q_is_int]) hx6 (comE (xs := [.str "pick", .str "tick", .str "count"]) (by simp [getM, getV, binM, cmpM, cmp2M, cmp3M, MI.notM, negM, MI.andM, MI.orM, iteM, seqL, tupM, lstM, lstN, ixM, partM, cutM, isM, bltM, usrM, rg1M, rg2M, lrgM, trgM, upM, tstM, notT, andT, orT, retS, expS, setS, unpS, ifS, nxS, raiS, seqS, tryS, endF, fin, ofE, bnd, MI.ret, rd, intV, boolV, toDs, gd, bl, is_int, is_bool, is_str, is_tup, is_lst, isT, isS, isI, isL, isB', truth_bl, cmp_le, cmp_lt, cmp_ge, cmp_eqI, cmp_neI, cmp_eqS, cmp_neS, bin_add, bin_sub, ix0, ix1, ix2, len_tup, len_lst, truth_tup, q_within, ne_pt, ne_pc, ne_tc, ne_tp, ne_cp, ne_ct, lx2, lx3, ly2, ly3, q_is_kind, bind2, ek1, ek2, ek3, ek4, ek5, ec1, ec2, ec3, ec4, ie1, is_non, is_tf, isB_bl, q_is_int, frI, frz_lst]) (fun v h => ⟨.tup [v, .int o], by simp [getM, getV, binM, cmpM, cmp2M, cmp3M, MI.notM, negM, MI.andM, MI.orM, iteM, seqL, tupM, lstM, lstN, ixM, partM, cutM, isM, bltM, usrM, rg1M, rg2M, lrgM, trgM, upM, tstM, notT, andT, orT, retS, expS, setS, unpS, ifS, nxS, raiS, seqS, tryS, endF, fin, ofE, bnd, MI.ret, rd, intV, boolV, toDs, gd, bl, is_int, is_bool, is_str, is_tup, is_lst, isT, isS, isI, isL, isB', truth_bl, cmp_le, cmp_lt, cmp_ge, cmp_eqI, cmp_neI, cmp_eqS, cmp_neS, bin_add, bin_sub, ix0, ix1, ix2, len_tup, len_lst, truth_tup, q_within, ne_pt, ne_pc, ne_tc, ne_tp, ne_cp, ne_ct, lx2, lx3, ly2, ly3, q_is_kind, bind2, ek1, ek2, ek3, ek4, ek5, ec1, ec2, ec3, ec4, ie1, is_non, is_tf, isB_bl, q_is_int, itemC, wipeE, bindS, oneD]⟩) (by simp [getM, getV, binM, cmpM, cmp2M, cmp3M, MI.notM, negM, MI.andM, MI.orM, iteM, seqL, tupM, lstM, lstN, ixM, partM, cutM, isM, bltM, usrM, rg1M, rg2M, lrgM, trgM, upM, tstM, notT, andT, orT, retS, expS, setS, unpS, ifS, nxS, raiS, seqS, tryS, endF, fin, ofE, bnd, MI.ret, rd, intV, boolV, toDs, gd, bl, is_int, is_bool, is_str, is_tup, is_lst, isT, isS, isI, isL, isB', truth_bl, cmp_le, cmp_lt, cmp_ge, cmp_eqI, cmp_neI, cmp_eqS, cmp_neS, bin_add, bin_sub, ix0, ix1, ix2, len_tup, len_lst, truth_tup, q_within, ne_pt, ne_pc, ne_tc, ne_tp, ne_cp, ne_ct, lx2, lx3, ly2, ly3, q_is_kind, bind2, ek1, ek2, ek3, ek4, ek5, ec1, ec2, ec3, ec4, ie1, is_non, is_tf, isB_bl, q_is_int]) (by decide)) (by decide)) fun x6 hx6 => ?_
  refine stg 51 (addS (N := 41) (M' := 10) (xs := x6) (by simp [getM, getV, binM, cmpM, cmp2M, cmp3M, MI.notM, negM, MI.andM, MI.orM, iteM, seqL, tupM, lstM, lstN, ixM, partM, cutM, isM, bltM, usrM, rg1M, rg2M, lrgM, trgM, upM, tstM, notT, andT, orT, retS, expS, setS, unpS, ifS, nxS, raiS, seqS, tryS, endF, fin, ofE, bnd, MI.ret, rd, intV, boolV, toDs, gd, bl, is_int, is_bool, is_str, is_tup, is_lst, isT, isS, isI, isL, isB', truth_bl, cmp_le, cmp_lt, cmp_ge, cmp_eqI, cmp_neI, cmp_eqS, cmp_neS, bin_add, bin_sub, ix0, ix1, ix2, len_tup, len_lst, truth_tup, q_within, ne_pt, ne_pc, ne_tc, ne_tp, ne_cp, ne_ct, lx2, lx3, ly2, ly3, q_is_kind, bind2, ek1, ek2, ek3, ek4, ek5, ec1, ec2, ec3, ec4, ie1, is_non, is_tf, isB_bl, q_is_int]) hx6 ⟨[.tup [.str "count", .int o, .int l], .tup [.str "count", .int n, .int o], .tup [.str "count", .int o, .int (o + 1)], .tup [.str "count", .int o, .int o]], by simp [getM, getV, binM, cmpM, cmp2M, cmp3M, MI.notM, negM, MI.andM, MI.orM, iteM, seqL, tupM, lstM, lstN, ixM, partM, cutM, isM, bltM, usrM, rg1M, rg2M, lrgM, trgM, upM, tstM, notT, andT, orT, retS, expS, setS, unpS, ifS, nxS, raiS, seqS, tryS, endF, fin, ofE, bnd, MI.ret, rd, intV, boolV, toDs, gd, bl, is_int, is_bool, is_str, is_tup, is_lst, isT, isS, isI, isL, isB', truth_bl, cmp_le, cmp_lt, cmp_ge, cmp_eqI, cmp_neI, cmp_eqS, cmp_neS, bin_add, bin_sub, ix0, ix1, ix2, len_tup, len_lst, truth_tup, q_within, ne_pt, ne_pc, ne_tc, ne_tp, ne_cp, ne_ct, lx2, lx3, ly2, ly3, q_is_kind, bind2, ek1, ek2, ek3, ek4, ek5, ec1, ec2, ec3, ec4, ie1, is_non, is_tf, isB_bl, q_is_int], by simp [getM, getV, binM, cmpM, cmp2M, cmp3M, MI.notM, negM, MI.andM, MI.orM, iteM, seqL, tupM, lstM, lstN, ixM, partM, cutM, isM, bltM, usrM, rg1M, rg2M, lrgM, trgM, upM, tstM, notT, andT, orT, retS, expS, setS, unpS, ifS, nxS, raiS, seqS, tryS, endF, fin, ofE, bnd, MI.ret, rd, intV, boolV, toDs, gd, bl, is_int, is_bool, is_str, is_tup, is_lst, isT, isS, isI, isL, isB', truth_bl, cmp_le, cmp_lt, cmp_ge, cmp_eqI, cmp_neI, cmp_eqS, cmp_neS, bin_add, bin_sub, ix0, ix1, ix2, len_tup, len_lst, truth_tup, q_within, ne_pt, ne_pc, ne_tc, ne_tp, ne_cp, ne_ct, lx2, lx3, ly2, ly3, q_is_kind, bind2, ek1, ek2, ek3, ek4, ek5, ec1, ec2, ec3, ec4, ie1, is_non, is_tf, isB_bl, q_is_int]⟩ (by decide)) fun x6 hx6 => ?_
  refine stg 61 (addS (N := 51) (M' := 10) (xs := x6) (by simp [getM, getV, binM, cmpM, cmp2M, cmp3M, MI.notM, negM, MI.andM, MI.orM, iteM, seqL, tupM, lstM, lstN, ixM, partM, cutM, isM, bltM, usrM, rg1M, rg2M, lrgM, trgM, upM, tstM, notT, andT, orT, retS, expS, setS, unpS, ifS, nxS, raiS, seqS, tryS, endF, fin, ofE, bnd, MI.ret, rd, intV, boolV, toDs, gd, bl, is_int, is_bool, is_str, is_tup, is_lst, isT, isS, isI, isL, isB', truth_bl, cmp_le, cmp_lt, cmp_ge, cmp_eqI, cmp_neI, cmp_eqS, cmp_neS, bin_add, bin_sub, ix0, ix1, ix2, len_tup, len_lst, truth_tup, q_within, ne_pt, ne_pc, ne_tc, ne_tp, ne_cp, ne_ct, lx2, lx3, ly2, ly3, q_is_kind, bind2, ek1, ek2, ek3, ek4, ek5, ec1, ec2, ec3, ec4, ie1, is_non, is_tf, isB_bl, q_is_int]) hx6 ⟨[.tup [.str "count", .int l, .int n], .tup [.str "count", .bl false, .int l], .tup [.str "count", .int n, .bl true], .tup [.str "count", .int 0, .bl true]], by simp [getM, getV, binM, cmpM, cmp2M, cmp3M, MI.notM, negM, MI.andM, MI.orM, iteM, seqL, tupM, lstM, lstN, ixM, partM, cutM, isM, bltM, usrM, rg1M, rg2M, lrgM, trgM, upM, tstM, notT, andT, orT, retS, expS, setS, unpS, ifS, nxS, raiS, seqS, tryS, endF, fin, ofE, bnd, MI.ret, rd, intV, boolV, toDs, gd, bl, is_int, is_bool, is_str, is_tup, is_lst, isT, isS, isI, isL, isB', truth_bl, cmp_le, cmp_lt, cmp_ge, cmp_eqI, cmp_neI, cmp_eqS, cmp_neS, bin_add, bin_sub, ix0, ix1, ix2, len_tup, len_lst, truth_tup, q_within, ne_pt, ne_pc, ne_tc, ne_tp, ne_cp, ne_ct, lx2, lx3, ly2, ly3, q_is_kind, bind2, ek1, ek2, ek3, ek4, ek5, ec1, ec2, ec3, ec4, ie1, is_non, is_tf, isB_bl, q_is_int], by simp [getM, getV, binM, cmpM, cmp2M, cmp3M, MI.notM, negM, MI.andM, MI.orM, iteM, seqL, tupM, lstM, lstN, ixM, partM, cutM, isM, bltM, usrM, rg1M, rg2M, lrgM, trgM, upM, tstM, notT, andT, orT, retS, expS, setS, unpS, ifS, nxS, raiS, seqS, tryS, endF, fin, ofE, bnd, MI.ret, rd, intV, boolV, toDs, gd, bl, is_int, is_bool, is_str, is_tup, is_lst, isT, isS, isI, isL, isB', truth_bl, cmp_le, cmp_lt, cmp_ge, cmp_eqI, cmp_neI, cmp_eqS, cmp_neS, bin_add, bin_sub, ix0, ix1, ix2, len_tup, len_lst, truth_tup, q_within, ne_pt, ne_pc, ne_tc, ne_tp, ne_cp, ne_ct, lx2, lx3, ly2, ly3, q_is_kind, bind2, ek1, ek2, ek3, ek4, ek5, ec1, ec2, ec3, ec4, ie1, is_non, is_tf, isB_bl, q_is_int]⟩ (by decide)) fun x6 hx6 => ?_
  obtain ⟨zs, e3, e4⟩ := addS (a := MI.ret (.d (.lst x6))) (b := MI.ret (.d (.lst [.tup [.str "count", .non, .int l], .tup [.str "count", .int n, yL], .tup [.str "pick", .bl false], .tup [.str "tick", .non]]))) (h := h2) (N := 61) (M' := 10) (xs := x6) rfl hx6 ⟨_, rfl, by simp [getM, getV, binM, cmpM, cmp2M, cmp3M, MI.notM, negM, MI.andM, MI.orM, iteM, seqL, tupM, lstM, lstN, ixM, partM, cutM, isM, bltM, usrM, rg1M, rg2M, lrgM, trgM, upM, tstM, notT, andT, orT, retS, expS, setS, unpS, ifS, nxS, raiS, seqS, tryS, endF, fin, ofE, bnd, MI.ret, rd, intV, boolV, toDs, gd, bl, is_int, is_bool, is_str, is_tup, is_lst, isT, isS, isI, isL, isB', truth_bl, cmp_le, cmp_lt, cmp_ge, cmp_eqI, cmp_neI, cmp_eqS, cmp_neS, bin_add, bin_sub, ix0, ix1, ix2, len_tup, len_lst, truth_tup, q_within, ne_pt, ne_pc, ne_tc, ne_tp, ne_cp, ne_ct, lx2, lx3, ly2, ly3, q_is_kind, bind2, ek1, ek2, ek3, ek4, ek5, ec1, ec2, ec3, ec4, ie1, is_non, is_tf, isB_bl, q_is_int]⟩ (by decide)
  refine ⟨zs, rt_ok ?_, by omega⟩
  rw [← e3]
  simp [getM, getV, binM, cmpM, cmp2M, cmp3M, MI.notM, negM, MI.andM, MI.orM, iteM, seqL, tupM, lstM, lstN, ixM, partM, cutM, isM, bltM, usrM, rg1M, rg2M, lrgM, trgM, upM, tstM, notT, andT, orT, retS, expS, setS, unpS, ifS, nxS, raiS, seqS, tryS, endF, fin, ofE, bnd, MI.ret, rd, intV, boolV, toDs, gd, bl, is_int, is_bool, is_str, is_tup, is_lst, isT, isS, isI, isL, isB', truth_bl, cmp_le, cmp_lt, cmp_ge, cmp_eqI, cmp_neI, cmp_eqS, cmp_neS, bin_add, bin_sub, ix0, ix1, ix2, len_tup, len_lst, truth_tup, q_within, ne_pt, ne_pc, ne_tc, ne_tp, ne_cp, ne_ct, lx2, lx3, ly2, ly3, q_is_kind, bind2, ek1, ek2, ek3, ek4, ek5, ec1, ec2, ec3, ec4, ie1, is_non, is_tf, isB_bl, q_is_int, sl]
end K9
set_option maxRecDepth 100000
namespace K9
open MI PySem
def itemL (i : Nat) (cf : Str → List Val → M Val) (σ : MI.Env) : D → M (Option D) := itemC (false, [8]) [8] (fun _ => MI.ret true) (fun σ => usrM cf "_law_no_kind" 3 [getM σ 8, getM σ 6, usrM cf "_law_pick" 2 [getM σ 3, getM σ 4]]) σ
theorem item_ok {d : Nat} {σ0 σ1 σ2 σ5 σ7 σ8 : Option Val} {i m : Nat} {xs : List D} (hx : xs ≠ []) {y : D} (hk : isK y = false) {w : Int} (h1 : 0 ≤ w) (h2 : w ≤ 5) {h : MH} (dr : Dr h i m) (hm : m < 100000000000) :
    ∃ h', itemL i (callF g (d + 6)) [σ0, σ1, σ2, some (.m i), some (.d (.lst xs)), σ5, some (.d y), σ7, σ8] (.int w) h = .ok (some (.bl true)) h' ∧ Upd h h' i (m + 1) := by
  obtain ⟨z, h', e, _, u⟩ := q_pick (d + 4) (row := xs) dr (by omega) hx
  have en := q_no_kind_bad d hk z w h1 h2 h'
  refine ⟨h', ?_, u⟩
  unfold itemL itemC
  simp [getM, getV, binM, cmpM, cmp2M, cmp3M, MI.notM, negM, MI.andM, MI.orM, iteM, seqL, tupM, lstM, lstN, ixM, partM, cutM, isM, bltM, usrM, rg1M, rg2M, lrgM, trgM, upM, tstM, notT, andT, orT, retS, expS, setS, unpS, ifS, nxS, raiS, seqS, tryS, endF, fin, ofE, bnd, MI.ret, rd, intV, boolV, toDs, gd, bl, is_int, is_bool, is_str, is_tup, is_lst, isT, isS, isI, isL, isB', truth_bl, cmp_le, cmp_lt, cmp_ge, cmp_eqI, cmp_neI, cmp_eqS, cmp_neS, bin_add, bin_sub, ix0, ix1, ix2, len_tup, len_lst, truth_tup, q_within, ne_pt, ne_pc, ne_tc, ne_tp, ne_cp, ne_ct, lx2, lx3, ly2, ly3, q_is_kind, bind2, ek1, ek2, ek3, ek4, ek5, ec1, ec2, ec3, ec4, ie1, is_non, is_tf, isB_bl, q_is_int, wipeE, bindS, e, en, oneD]
theorem loopL {d : Nat} {σ0 σ1 σ2 σ5 σ7 σ8 : Option Val} {i : Nat} {xs : List D} (hx : xs ≠ []) {y : D} (hk : isK y = false) : ∀ (ws : List Int) (hw : ∀ w ∈ ws, 0 ≤ w ∧ w ≤ 5) {h : MH} {m : Nat} (dr : Dr h i m) (hm : m + ws.length < 100000000000),
    ∃ h', loopC (itemL i (callF g (d + 6)) [σ0, σ1, σ2, some (.m i), some (.d (.lst xs)), σ5, some (.d y), σ7, σ8]) (ws.map .int) h = .ok (ws.map fun _ => .bl true) h' ∧ Upd h h' i (m + ws.length)
  | [], _, h, m, dr, _ => ⟨h, rfl, rfl, dr, fun _ _ => rfl⟩
  | w :: ws, hw, h, m, dr, hm => by
    have hw0 := hw w List.mem_cons_self
    simp only [List.length_cons] at hm
    obtain ⟨h1, e1, u1⟩ := item_ok (σ0 := σ0) (σ1 := σ1) (σ2 := σ2) (σ5 := σ5) (σ7 := σ7) (σ8 := σ8) (d := d) hx hk hw0.1 hw0.2 dr (by omega)
    obtain ⟨h2, e2, u2⟩ := loopL hx hk ws (fun w q => hw w (List.mem_cons_of_mem _ q)) (σ0 := σ0) (σ1 := σ1) (σ2 := σ2) (σ5 := σ5) (σ7 := σ7) (σ8 := σ8) (d := d) u1.dr (by omega)
    refine ⟨h2, ?_, (u1.trans u2).mono (by simp only [List.length_cons]; omega)⟩
    rw [List.map_cons]
    unfold loopC
    simp [getM, getV, binM, cmpM, cmp2M, cmp3M, MI.notM, negM, MI.andM, MI.orM, iteM, seqL, tupM, lstM, lstN, ixM, partM, cutM, isM, bltM, usrM, rg1M, rg2M, lrgM, trgM, upM, tstM, notT, andT, orT, retS, expS, setS, unpS, ifS, nxS, raiS, seqS, tryS, endF, fin, ofE, bnd, MI.ret, rd, intV, boolV, toDs, gd, bl, is_int, is_bool, is_str, is_tup, is_lst, isT, isS, isI, isL, isB', truth_bl, cmp_le, cmp_lt, cmp_ge, cmp_eqI, cmp_neI, cmp_eqS, cmp_neS, bin_add, bin_sub, ix0, ix1, ix2, len_tup, len_lst, truth_tup, q_within, ne_pt, ne_pc, ne_tc, ne_tp, ne_cp, ne_ct, lx2, lx3, ly2, ly3, q_is_kind, bind2, ek1, ek2, ek3, ek4, ek5, ec1, ec2, ec3, ec4, ie1, is_non, is_tf, isB_bl, q_is_int, e1, e2]
def bodyL (cf : Str → List Val → M Val) : MS := (seqS (setS 7 (fun σ => usrM cf "_law_right_kind" 1 [getM σ 6])) (seqS (ifS (fun σ => (notT (tstM (usrM cf "_law_alike" 2 [usrM cf "is_kind" 1 [getM σ 6], getM σ 7])))) (retS (fun σ => MI.ret (.d (.bl false)))) (nxS)) (ifS (fun σ => (andT (notT (tstM (getM σ 7))) (notT (tstM (bltM "all" [comM (rgI (rg1M (MI.ret (.d (.int (6)))))) (itemC (false, [8]) [8] (fun _ => MI.ret true) (fun σ => usrM cf "_law_no_kind" 3 [getM σ 8, getM σ 6, usrM cf "_law_pick" 2 [getM σ 3, getM σ 4]]) σ)]))))) (retS (fun σ => MI.ret (.d (.bl false)))) (nxS))))
theorem comM_ok {its : M (List D)} {item : D → M (Option D)} {xs ys : List D} {h h' : MH} (e1 : its h = .ok xs h) (hl : xs.length ≤ 16777216) (e2 : loopC item xs h = .ok ys h') : comM its item h = .ok (.d (.lst ys)) h' := by
  have : decide (xs.length ≤ 16777216) = true := decide_eq_true hl
  unfold comM noexc
  simp [getM, getV, binM, cmpM, cmp2M, cmp3M, MI.notM, negM, MI.andM, MI.orM, iteM, seqL, tupM, lstM, lstN, ixM, partM, cutM, isM, bltM, usrM, rg1M, rg2M, lrgM, trgM, upM, tstM, notT, andT, orT, retS, expS, setS, unpS, ifS, nxS, raiS, seqS, tryS, endF, fin, ofE, bnd, MI.ret, rd, intV, boolV, toDs, gd, bl, is_int, is_bool, is_str, is_tup, is_lst, isT, isS, isI, isL, isB', truth_bl, cmp_le, cmp_lt, cmp_ge, cmp_eqI, cmp_neI, cmp_eqS, cmp_neS, bin_add, bin_sub, ix0, ix1, ix2, len_tup, len_lst, truth_tup, q_within, ne_pt, ne_pc, ne_tc, ne_tp, ne_cp, ne_ct, lx2, lx3, ly2, ly3, q_is_kind, bind2, ek1, ek2, ek3, ek4, ek5, ec1, ec2, ec3, ec4, ie1, is_non, is_tf, isB_bl, q_is_int, e1, this, e2]
theorem all6 (h : MH) : pCall "all" [.d (.lst [.bl true, .bl true, .bl true, .bl true, .bl true, .bl true])] h = some (.d (.bl true)) := by kernel_rfl
theorem bodyL_ok {d : Nat} {σ0 σ1 σ2 σ5 σ7 σ8 : Option Val} {i m : Nat} {xs : List D} (hx : xs ≠ []) (y : D) {h : MH} (dr : Dr h i m) (hm : m + 6 < 100000000000) :
    ∃ h', bodyL (callF g (d + 6)) [σ0, σ1, σ2, some (.m i), some (.d (.lst xs)), σ5, some (.d y), σ7, σ8] h = .nx [σ0, σ1, σ2, some (.m i), some (.d (.lst xs)), σ5, some (.d y), some (.d (.bl (isK y))), σ8] h' ∧ Upd h h' i (m + 6) := by
  unfold bodyL
  have er := q_right (d + 4) y h
  have ek := q_is_kind (d + 4) y h
  have ea := q_alike_bl (d + 4) (isK y) h
  rw [sq (st_ok (v := .d (.bl (isK y))) (h1 := h) (by simp [getM, getV, binM, cmpM, cmp2M, cmp3M, MI.notM, negM, MI.andM, MI.orM, iteM, seqL, tupM, lstM, lstN, ixM, partM, cutM, isM, bltM, usrM, rg1M, rg2M, lrgM, trgM, upM, tstM, notT, andT, orT, retS, expS, setS, unpS, ifS, nxS, raiS, seqS, tryS, endF, fin, ofE, bnd, MI.ret, rd, intV, boolV, toDs, gd, bl, is_int, is_bool, is_str, is_tup, is_lst, isT, isS, isI, isL, isB', truth_bl, cmp_le, cmp_lt, cmp_ge, cmp_eqI, cmp_neI, cmp_eqS, cmp_neS, bin_add, bin_sub, ix0, ix1, ix2, len_tup, len_lst, truth_tup, q_within, ne_pt, ne_pc, ne_tc, ne_tp, ne_cp, ne_ct, lx2, lx3, ly2, ly3, q_is_kind, bind2, ek1, ek2, ek3, ek4, ek5, ec1, ec2, ec3, ec4, ie1, is_non, is_tf, isB_bl, q_is_int, er]))]
  rw [show List.set [σ0, σ1, σ2, some (.m i), some (.d (.lst xs)), σ5, some (.d y), σ7, σ8] 7 (some (Val.d (.bl (isK y)))) = [σ0, σ1, σ2, some (.m i), some (.d (.lst xs)), σ5, some (.d y), some (.d (.bl (isK y))), σ8] from rfl]
  rw [sq (σ1 := [σ0, σ1, σ2, some (.m i), some (.d (.lst xs)), σ5, some (.d y), some (.d (.bl (isK y))), σ8]) (h1 := h) (by rw [if_f (h1 := h) (by simp [getM, getV, binM, cmpM, cmp2M, cmp3M, MI.notM, negM, MI.andM, MI.orM, iteM, seqL, tupM, lstM, lstN, ixM, partM, cutM, isM, bltM, usrM, rg1M, rg2M, lrgM, trgM, upM, tstM, notT, andT, orT, retS, expS, setS, unpS, ifS, nxS, raiS, seqS, tryS, endF, fin, ofE, bnd, MI.ret, rd, intV, boolV, toDs, gd, bl, is_int, is_bool, is_str, is_tup, is_lst, isT, isS, isI, isL, isB', truth_bl, cmp_le, cmp_lt, cmp_ge, cmp_eqI, cmp_neI, cmp_eqS, cmp_neS, bin_add, bin_sub, ix0, ix1, ix2, len_tup, len_lst, truth_tup, q_within, ne_pt, ne_pc, ne_tc, ne_tp, ne_cp, ne_ct, lx2, lx3, ly2, ly3, q_is_kind, bind2, ek1, ek2, ek3, ek4, ek5, ec1, ec2, ec3, ec4, ie1, is_non, is_tf, isB_bl, q_is_int, ek, ea])]; rfl)]
  by_cases hk : isK y = true
  · refine ⟨h, ?_, rfl, dr.mono (by omega), fun _ _ => rfl⟩
    rw [if_f (h1 := h) (by simp [getM, getV, binM, cmpM, cmp2M, cmp3M, MI.notM, negM, MI.andM, MI.orM, iteM, seqL, tupM, lstM, lstN, ixM, partM, cutM, isM, bltM, usrM, rg1M, rg2M, lrgM, trgM, upM, tstM, notT, andT, orT, retS, expS, setS, unpS, ifS, nxS, raiS, seqS, tryS, endF, fin, ofE, bnd, MI.ret, rd, intV, boolV, toDs, gd, bl, is_int, is_bool, is_str, is_tup, is_lst, isT, isS, isI, isL, isB', truth_bl, cmp_le, cmp_lt, cmp_ge, cmp_eqI, cmp_neI, cmp_eqS, cmp_neS, bin_add, bin_sub, ix0, ix1, ix2, len_tup, len_lst, truth_tup, q_within, ne_pt, ne_pc, ne_tc, ne_tp, ne_cp, ne_ct, lx2, lx3, ly2, ly3, q_is_kind, bind2, ek1, ek2, ek3, ek4, ek5, ec1, ec2, ec3, ec4, ie1, is_non, is_tf, isB_bl, q_is_int, hk])]
    rfl
  · have hk : isK y = false := by simpa using hk
    obtain ⟨h', e, u⟩ := loopL (σ0 := σ0) (σ1 := σ1) (σ2 := σ2) (σ5 := σ5) (σ7 := some (.d (.bl (isK y)))) (σ8 := σ8) (d := d) hx hk [0, 1, 2, 3, 4, 5] (by intro w hw; simp [getM, getV, binM, cmpM, cmp2M, cmp3M, MI.notM, negM, MI.andM, MI.orM, iteM, seqL, tupM, lstM, lstN, ixM, partM, cutM, isM, bltM, usrM, rg1M, rg2M, lrgM, trgM, upM, tstM, notT, andT, orT, retS, expS, setS, unpS, ifS, nxS, raiS, seqS, tryS, endF, fin, ofE, bnd, MI.ret, rd, intV, boolV, toDs, gd, bl, is_int, is_bool, is_str, is_tup, is_lst, isT, isS, isI, isL, isB', truth_bl, cmp_le, cmp_lt, cmp_ge, cmp_eqI, cmp_neI, cmp_eqS, cmp_neS, bin_add, bin_sub, ix0, ix1, ix2, len_tup, len_lst, truth_tup, q_within, ne_pt, ne_pc, ne_tc, ne_tp, ne_cp, ne_ct, lx2, lx3, ly2, ly3, q_is_kind, bind2, ek1, ek2, ek3, ek4, ek5, ec1, ec2, ec3, ec4, ie1, is_non, is_tf, isB_bl, q_is_int] at hw; omega) dr (by simp [getM, getV, binM, cmpM, cmp2M, cmp3M, MI.notM, negM, MI.andM, MI.orM, iteM, seqL, tupM, lstM, lstN, ixM, partM, cutM, isM, bltM, usrM, rg1M, rg2M, lrgM, trgM, upM, tstM, notT, andT, orT, retS, expS, setS, unpS, ifS, nxS, raiS, seqS, tryS, endF, fin, ofE, bnd, MI.ret, rd, intV, boolV, toDs, gd, bl, is_int, is_bool, is_str, is_tup, is_lst, isT, isS, isI, isL, isB', truth_bl, cmp_le, cmp_lt, cmp_ge, cmp_eqI, cmp_neI, cmp_eqS, cmp_neS, bin_add, bin_sub, ix0, ix1, ix2, len_tup, len_lst, truth_tup, q_within, ne_pt, ne_pc, ne_tc, ne_tp, ne_cp, ne_ct, lx2, lx3, ly2, ly3, q_is_kind, bind2, ek1, ek2, ek3, ek4, ek5, ec1, ec2, ec3, ec4, ie1, is_non, is_tf, isB_bl, q_is_int]; omega)
    refine ⟨h', ?_, u⟩
    have ec : comM (rgI (rg1M (MI.ret (.d (.int (6)))))) (itemL i (callF g (d + 6)) [σ0, σ1, σ2, some (.m i), some (.d (.lst xs)), σ5, some (.d y), some (.d (.bl (isK y))), σ8]) h = .ok (.d (.lst [.bl true, .bl true, .bl true, .bl true, .bl true, .bl true])) h' := by
      have e6 : rgI (rg1M (MI.ret (.d (.int (6))))) h = .ok [.int 0, .int 1, .int 2, .int 3, .int 4, .int 5] h := by kernel_rfl
      have e : loopC (itemL i (callF g (d + 6)) [σ0, σ1, σ2, some (.m i), some (.d (.lst xs)), σ5, some (.d y), some (.d (.bl (isK y))), σ8]) [.int 0, .int 1, .int 2, .int 3, .int 4, .int 5] h = .ok [.bl true, .bl true, .bl true, .bl true, .bl true, .bl true] h' := e
      exact comM_ok e6 (by simp [getM, getV, binM, cmpM, cmp2M, cmp3M, MI.notM, negM, MI.andM, MI.orM, iteM, seqL, tupM, lstM, lstN, ixM, partM, cutM, isM, bltM, usrM, rg1M, rg2M, lrgM, trgM, upM, tstM, notT, andT, orT, retS, expS, setS, unpS, ifS, nxS, raiS, seqS, tryS, endF, fin, ofE, bnd, MI.ret, rd, intV, boolV, toDs, gd, bl, is_int, is_bool, is_str, is_tup, is_lst, isT, isS, isI, isL, isB', truth_bl, cmp_le, cmp_lt, cmp_ge, cmp_eqI, cmp_neI, cmp_eqS, cmp_neS, bin_add, bin_sub, ix0, ix1, ix2, len_tup, len_lst, truth_tup, q_within, ne_pt, ne_pc, ne_tc, ne_tp, ne_cp, ne_ct, lx2, lx3, ly2, ly3, q_is_kind, bind2, ek1, ek2, ek3, ek4, ek5, ec1, ec2, ec3, ec4, ie1, is_non, is_tf, isB_bl, q_is_int]) e
    unfold itemL at ec
    rw [if_f (h1 := h') ?_]
    · rfl
    · have en : notT (tstM (getM [σ0, σ1, σ2, some (.m i), some (.d (.lst xs)), σ5, some (.d y), some (.d (.bl (isK y))), σ8] 7)) h = .ok true h := by simp [getM, getV, binM, cmpM, cmp2M, cmp3M, MI.notM, negM, MI.andM, MI.orM, iteM, seqL, tupM, lstM, lstN, ixM, partM, cutM, isM, bltM, usrM, rg1M, rg2M, lrgM, trgM, upM, tstM, notT, andT, orT, retS, expS, setS, unpS, ifS, nxS, raiS, seqS, tryS, endF, fin, ofE, bnd, MI.ret, rd, intV, boolV, toDs, gd, bl, is_int, is_bool, is_str, is_tup, is_lst, isT, isS, isI, isL, isB', truth_bl, cmp_le, cmp_lt, cmp_ge, cmp_eqI, cmp_neI, cmp_eqS, cmp_neS, bin_add, bin_sub, ix0, ix1, ix2, len_tup, len_lst, truth_tup, q_within, ne_pt, ne_pc, ne_tc, ne_tp, ne_cp, ne_ct, lx2, lx3, ly2, ly3, q_is_kind, bind2, ek1, ek2, ek3, ek4, ek5, ec1, ec2, ec3, ec4, ie1, is_non, is_tf, isB_bl, q_is_int, hk]
      have et : notT (tstM (bltM "all" [comM (rgI (rg1M (MI.ret (.d (.int (6)))))) (itemC (false, [8]) [8] (fun _ => MI.ret true) (fun σ => usrM (callF g (d + 6)) "_law_no_kind" 3 [getM σ 8, getM σ 6, usrM (callF g (d + 6)) "_law_pick" 2 [getM σ 3, getM σ 4]]) [σ0, σ1, σ2, some (.m i), some (.d (.lst xs)), σ5, some (.d y), some (.d (.bl (isK y))), σ8])])) h = .ok false h' := by
        unfold notT tstM bltM seqL seqL
        simp only [bnd, ec, MI.ret, rd, all6, truth_bl]
        rfl
      show andT _ _ h = _
      unfold andT
      simp only [bnd, en, if_true]
      exact et
theorem loopM {d : Nat} {σ0 σ1 σ2 σ5 : Option Val} {i : Nat} {xs : List D} (hx : xs ≠ []) : ∀ (ys : List D) (σ6 σ7 σ8 : Option Val) {h : MH} {m : Nat} (dr : Dr h i m) (hm : m + 6 * ys.length + 6 < 100000000000),
    ∃ w6 w7 h', loopF (bindS (false, [6])) (bodyL (callF g (d + 6))) ys [σ0, σ1, σ2, some (.m i), some (.d (.lst xs)), σ5, σ6, σ7, σ8] h = .nx [σ0, σ1, σ2, some (.m i), some (.d (.lst xs)), σ5, w6, w7, σ8] h'
  | [], σ6, σ7, σ8, h, m, dr, _ => ⟨σ6, σ7, h, rfl⟩
  | y :: ys, σ6, σ7, σ8, h, m, dr, hm => by
    simp only [List.length_cons] at hm
    obtain ⟨h1, e1, u1⟩ := bodyL_ok (σ0 := σ0) (σ1 := σ1) (σ2 := σ2) (σ5 := σ5) (σ7 := σ7) (σ8 := σ8) (d := d) hx y dr (by omega)
    obtain ⟨w6, w7, h2, e2⟩ := loopM hx ys (some (.d y)) (some (.d (.bl (isK y)))) σ8 (σ0 := σ0) (σ1 := σ1) (σ2 := σ2) (σ5 := σ5) (d := d) u1.dr (by omega)
    refine ⟨w6, w7, h2, ?_⟩
    unfold loopF
    have eb : bindS (false, [6]) y [σ0, σ1, σ2, some (.m i), some (.d (.lst xs)), σ5, σ6, σ7, σ8] = some [σ0, σ1, σ2, some (.m i), some (.d (.lst xs)), σ5, some (.d y), σ7, σ8] := rfl
    simp only [eb, e1]
    exact e2

theorem dr_new (h : MH) (a c : Int) : Dr (h ++ [.lst [.int a, .int 0, .int c]]) h.length 0 := ⟨a, 0, c, by simp [getM, getV, binM, cmpM, cmp2M, cmp3M, MI.notM, negM, MI.andM, MI.orM, iteM, seqL, tupM, lstM, lstN, ixM, partM, cutM, isM, bltM, usrM, rg1M, rg2M, lrgM, trgM, upM, tstM, notT, andT, orT, retS, expS, setS, unpS, ifS, nxS, raiS, seqS, tryS, endF, fin, ofE, bnd, MI.ret, rd, intV, boolV, toDs, gd, bl, is_int, is_bool, is_str, is_tup, is_lst, isT, isS, isI, isL, isB', truth_bl, cmp_le, cmp_lt, cmp_ge, cmp_eqI, cmp_neI, cmp_eqS, cmp_neS, bin_add, bin_sub, ix0, ix1, ix2, len_tup, len_lst, truth_tup, q_within, ne_pt, ne_pc, ne_tc, ne_tp, ne_cp, ne_ct, lx2, lx3, ly2, ly3, q_is_kind, bind2, ek1, ek2, ek3, ek4, ek5, ec1, ec2, ec3, ec4, ie1, is_non, is_tf, isB_bl, q_is_int], by omega, by omega⟩
theorem Dr.more {h : MH} {i m : Nat} (d : Dr h i m) (o : O) : Dr (h ++ [o]) i m := by
  obtain ⟨a, b, c, e, h1, h2⟩ := d
  exact ⟨a, b, c, by rw [List.getElem?_append_left (List.getElem?_eq_some_iff.mp e).1]; exact e, h1, h2⟩
theorem loop3 (d : Nat) {x y : D} {l1 l2 l3 l4 : Int} (kx : Kd x l1 l2) (ky : Kd y l3 l4) (σ0 σ1 σ2 σ3 σ5 σ6 σ7 σ8 : Option Val) (xs : List D) (h : MH) :
    loopF (bindS (false, [5])) (ifS (fun σ => (notT (tstM (usrM (callF g (d + 8)) "_law_kind_told" 2 [getM σ 5, getM σ 4])))) (retS (fun σ => MI.ret (.d (.bl false)))) (nxS)) [x, y, x] [σ0, σ1, σ2, σ3, some (.d (.lst xs)), σ5, σ6, σ7, σ8] h
      = .nx [σ0, σ1, σ2, σ3, some (.d (.lst xs)), some (.d x), σ6, σ7, σ8] h := by
  have one : ∀ {z : D} {l1 l2 : Int} (k : Kd z l1 l2), ifS (fun σ => (notT (tstM (usrM (callF g (d + 8)) "_law_kind_told" 2 [getM σ 5, getM σ 4])))) (retS (fun σ => MI.ret (.d (.bl false)))) (nxS) [σ0, σ1, σ2, σ3, some (.d (.lst xs)), some (.d z), σ6, σ7, σ8] h = .nx [σ0, σ1, σ2, σ3, some (.d (.lst xs)), some (.d z), σ6, σ7, σ8] h := fun {z l1 l2} k => by
    have e := q_kind_told d k xs h
    rw [if_f (h1 := h) (by simp [getM, getV, binM, cmpM, cmp2M, cmp3M, MI.notM, negM, MI.andM, MI.orM, iteM, seqL, tupM, lstM, lstN, ixM, partM, cutM, isM, bltM, usrM, rg1M, rg2M, lrgM, trgM, upM, tstM, notT, andT, orT, retS, expS, setS, unpS, ifS, nxS, raiS, seqS, tryS, endF, fin, ofE, bnd, MI.ret, rd, intV, boolV, toDs, gd, bl, is_int, is_bool, is_str, is_tup, is_lst, isT, isS, isI, isL, isB', truth_bl, cmp_le, cmp_lt, cmp_ge, cmp_eqI, cmp_neI, cmp_eqS, cmp_neS, bin_add, bin_sub, ix0, ix1, ix2, len_tup, len_lst, truth_tup, q_within, ne_pt, ne_pc, ne_tc, ne_tp, ne_cp, ne_ct, lx2, lx3, ly2, ly3, q_is_kind, bind2, ek1, ek2, ek3, ek4, ek5, ec1, ec2, ec3, ec4, ie1, is_non, is_tf, isB_bl, q_is_int, e])]
    rfl
  have b : ∀ (z : D) (σ5 : Option Val), bindS (false, [5]) z [σ0, σ1, σ2, σ3, some (.d (.lst xs)), σ5, σ6, σ7, σ8] = some [σ0, σ1, σ2, σ3, some (.d (.lst xs)), some (.d z), σ6, σ7, σ8] := fun z σ5 => rfl
  unfold loopF
  simp only [b, one kx]
  unfold loopF
  simp only [b, one ky]
  unfold loopF
  simp only [b, one kx]
  rfl
theorem for_ok {sl : Bool × List Nat} {its : MI.Env → M (List D)} {body : MS} {σ : MI.Env} {h h1 : MH} {xs : List D} (e : its σ h = .ok xs h1) : forS sl its body σ h = loopF (bindS sl) body xs σ h1 := by unfold forS ofE; rw [e]
theorem law_true (ns : List Int) (hn : ns.length ≤ 63) : ∃ h', callF g 20 "law" [.scr ns] [] = .ok (.d (.bl true)) h' := by
  show ∃ h', callF g (19 + 1) "law" [.scr ns] [] = .ok (.d (.bl true)) h'
  rw [c_law]
  unfold s_law
  obtain ⟨a0, b0, e0⟩ := q_stream 17 ns 0 (by omega) (by omega) []
  have e0 : callF g 19 "_law_stream" [.scr ns, .d (.int 0)] [] = .ok (.m 0) [.lst [.int a0, .int 0, .int b0]] := e0
  obtain ⟨x, l1, l2, h1, e1, kx, u1⟩ := q_any 16 (h := [.lst [.int a0, .int 0, .int b0]]) (i := 0) (m := 0) (dr_new [] a0 b0) (by omega)
  have e1 : callF g 19 "_law_any_kind" [.m 0] [.lst [.int a0, .int 0, .int b0]] = .ok (.d x) h1 := e1
  rw [sq (st_ok (v := .d x) (h1 := h1) (by simp [getM, getV, binM, cmpM, cmp2M, cmp3M, MI.notM, negM, MI.andM, MI.orM, iteM, seqL, tupM, lstM, lstN, ixM, partM, cutM, isM, bltM, usrM, rg1M, rg2M, lrgM, trgM, upM, tstM, notT, andT, orT, retS, expS, setS, unpS, ifS, nxS, raiS, seqS, tryS, endF, fin, ofE, bnd, MI.ret, rd, intV, boolV, toDs, gd, bl, is_int, is_bool, is_str, is_tup, is_lst, isT, isS, isI, isL, isB', truth_bl, cmp_le, cmp_lt, cmp_ge, cmp_eqI, cmp_neI, cmp_eqS, cmp_neS, bin_add, bin_sub, ix0, ix1, ix2, len_tup, len_lst, truth_tup, q_within, ne_pt, ne_pc, ne_tc, ne_tp, ne_cp, ne_ct, lx2, lx3, ly2, ly3, q_is_kind, bind2, ek1, ek2, ek3, ek4, ek5, ec1, ec2, ec3, ec4, ie1, is_non, is_tf, isB_bl, q_is_int, e0, e1]))]
  obtain ⟨a2, b2, e2⟩ := q_stream 17 ns 1 (by omega) (by omega) h1
  have e2 : callF g 19 "_law_stream" [.scr ns, .d (.int 1)] h1 = .ok (.m h1.length) (h1 ++ [.lst [.int a2, .int 0, .int b2]]) := e2
  obtain ⟨y, l3, l4, h3, e3, ky, u3⟩ := q_any 16 (dr_new h1 a2 b2) (by omega)
  have e3 : callF g 19 "_law_any_kind" [.m h1.length] (h1 ++ [.lst [.int a2, .int 0, .int b2]]) = .ok (.d y) h3 := e3
  rw [sq (st_ok (v := .d y) (h1 := h3) (by simp [getM, getV, binM, cmpM, cmp2M, cmp3M, MI.notM, negM, MI.andM, MI.orM, iteM, seqL, tupM, lstM, lstN, ixM, partM, cutM, isM, bltM, usrM, rg1M, rg2M, lrgM, trgM, upM, tstM, notT, andT, orT, retS, expS, setS, unpS, ifS, nxS, raiS, seqS, tryS, endF, fin, ofE, bnd, MI.ret, rd, intV, boolV, toDs, gd, bl, is_int, is_bool, is_str, is_tup, is_lst, isT, isS, isI, isL, isB', truth_bl, cmp_le, cmp_lt, cmp_ge, cmp_eqI, cmp_neI, cmp_eqS, cmp_neS, bin_add, bin_sub, ix0, ix1, ix2, len_tup, len_lst, truth_tup, q_within, ne_pt, ne_pc, ne_tc, ne_tp, ne_cp, ne_ct, lx2, lx3, ly2, ly3, q_is_kind, bind2, ek1, ek2, ek3, ek4, ek5, ec1, ec2, ec3, ec4, ie1, is_non, is_tf, isB_bl, q_is_int, e2, e3]))]
  obtain ⟨a4, b4, e4⟩ := q_stream 17 ns 2 (by omega) (by omega) h3
  have e4 : callF g 19 "_law_stream" [.scr ns, .d (.int 2)] h3 = .ok (.m h3.length) (h3 ++ [.lst [.int a4, .int 0, .int b4]]) := e4
  rw [sq (st_ok (v := .m h3.length) (h1 := h3 ++ [.lst [.int a4, .int 0, .int b4]]) (by simp [getM, getV, binM, cmpM, cmp2M, cmp3M, MI.notM, negM, MI.andM, MI.orM, iteM, seqL, tupM, lstM, lstN, ixM, partM, cutM, isM, bltM, usrM, rg1M, rg2M, lrgM, trgM, upM, tstM, notT, andT, orT, retS, expS, setS, unpS, ifS, nxS, raiS, seqS, tryS, endF, fin, ofE, bnd, MI.ret, rd, intV, boolV, toDs, gd, bl, is_int, is_bool, is_str, is_tup, is_lst, isT, isS, isI, isL, isB', truth_bl, cmp_le, cmp_lt, cmp_ge, cmp_eqI, cmp_neI, cmp_eqS, cmp_neS, bin_add, bin_sub, ix0, ix1, ix2, len_tup, len_lst, truth_tup, q_within, ne_pt, ne_pc, ne_tc, ne_tp, ne_cp, ne_ct, lx2, lx3, ly2, ly3, q_is_kind, bind2, ek1, ek2, ek3, ek4, ek5, ec1, ec2, ec3, ec4, ie1, is_non, is_tf, isB_bl, q_is_int, e4]))]
  obtain ⟨xs, h5, e5, hx, u5⟩ := q_things 17 (dr_new h3 a4 b4) (by omega)
  have e5 : callF g 19 "_law_things" [.m h3.length] (h3 ++ [.lst [.int a4, .int 0, .int b4]]) = .ok (.d (.lst xs)) h5 := e5
  rw [sq (st_ok (v := .d (.lst xs)) (h1 := h5) (by simp [getM, getV, binM, cmpM, cmp2M, cmp3M, MI.notM, negM, MI.andM, MI.orM, iteM, seqL, tupM, lstM, lstN, ixM, partM, cutM, isM, bltM, usrM, rg1M, rg2M, lrgM, trgM, upM, tstM, notT, andT, orT, retS, expS, setS, unpS, ifS, nxS, raiS, seqS, tryS, endF, fin, ofE, bnd, MI.ret, rd, intV, boolV, toDs, gd, bl, is_int, is_bool, is_str, is_tup, is_lst, isT, isS, isI, isL, isB', truth_bl, cmp_le, cmp_lt, cmp_ge, cmp_eqI, cmp_neI, cmp_eqS, cmp_neS, bin_add, bin_sub, ix0, ix1, ix2, len_tup, len_lst, truth_tup, q_within, ne_pt, ne_pc, ne_tc, ne_tp, ne_cp, ne_ct, lx2, lx3, ly2, ly3, q_is_kind, bind2, ek1, ek2, ek3, ek4, ek5, ec1, ec2, ec3, ec4, ie1, is_non, is_tf, isB_bl, q_is_int, e5]))]
  rw [sq (σ1 := [some (.scr ns), some (.d x), some (.d y), some (.m h3.length), some (.d (.lst xs)), some (.d x), none, none, none]) (h1 := h5) (by
    rw [for_ok (xs := [x, y, x]) (h1 := h5) (by simp [getM, getV, binM, cmpM, cmp2M, cmp3M, MI.notM, negM, MI.andM, MI.orM, iteM, seqL, tupM, lstM, lstN, ixM, partM, cutM, isM, bltM, usrM, rg1M, rg2M, lrgM, trgM, upM, tstM, notT, andT, orT, retS, expS, setS, unpS, ifS, nxS, raiS, seqS, tryS, endF, fin, ofE, bnd, MI.ret, rd, intV, boolV, toDs, gd, bl, is_int, is_bool, is_str, is_tup, is_lst, isT, isS, isI, isL, isB', truth_bl, cmp_le, cmp_lt, cmp_ge, cmp_eqI, cmp_neI, cmp_eqS, cmp_neS, bin_add, bin_sub, ix0, ix1, ix2, len_tup, len_lst, truth_tup, q_within, ne_pt, ne_pc, ne_tc, ne_tp, ne_cp, ne_ct, lx2, lx3, ly2, ly3, q_is_kind, bind2, ek1, ek2, ek3, ek4, ek5, ec1, ec2, ec3, ec4, ie1, is_non, is_tf, isB_bl, q_is_int, frI, frz_lst])]
    exact loop3 11 kx ky _ _ _ _ _ _ _ _ xs h5)]
  obtain ⟨y1, h6, e6, hl1, u6⟩ := q_near 16 kx u5.dr (by omega)
  have e6 : callF g 19 "_law_near" [.d x, .m h3.length] h5 = .ok (.d (.lst y1)) h6 := e6
  obtain ⟨a7, b7, e7⟩ := q_stream 17 ns 3 (by omega) (by omega) h6
  have e7 : callF g 19 "_law_stream" [.scr ns, .d (.int 3)] h6 = .ok (.m h6.length) (h6 ++ [.lst [.int a7, .int 0, .int b7]]) := e7
  obtain ⟨y2, h8, e8, hl2, u8⟩ := q_near 16 ky (dr_new h6 a7 b7) (by omega)
  have e8 : callF g 19 "_law_near" [.d y, .m h6.length] (h6 ++ [.lst [.int a7, .int 0, .int b7]]) = .ok (.d (.lst y2)) h8 := e8
  have lt : h3.length < h6.length := by
    rw [u6.len, u5.len, List.length_append]
    simp [getM, getV, binM, cmpM, cmp2M, cmp3M, MI.notM, negM, MI.andM, MI.orM, iteM, seqL, tupM, lstM, lstN, ixM, partM, cutM, isM, bltM, usrM, rg1M, rg2M, lrgM, trgM, upM, tstM, notT, andT, orT, retS, expS, setS, unpS, ifS, nxS, raiS, seqS, tryS, endF, fin, ofE, bnd, MI.ret, rd, intV, boolV, toDs, gd, bl, is_int, is_bool, is_str, is_tup, is_lst, isT, isS, isI, isL, isB', truth_bl, cmp_le, cmp_lt, cmp_ge, cmp_eqI, cmp_neI, cmp_eqS, cmp_neS, bin_add, bin_sub, ix0, ix1, ix2, len_tup, len_lst, truth_tup, q_within, ne_pt, ne_pc, ne_tc, ne_tp, ne_cp, ne_ct, lx2, lx3, ly2, ly3, q_is_kind, bind2, ek1, ek2, ek3, ek4, ek5, ec1, ec2, ec3, ec4, ie1, is_non, is_tf, isB_bl, q_is_int]
  have d8 : Dr h8 h3.length (0 + 1 + 2) := by
    obtain ⟨a, b, c, q1, q2, q3⟩ := u6.dr.more (.lst [.int a7, .int 0, .int b7])
    exact ⟨a, b, c, by rw [u8.oth _ (by omega)]; exact q1, q2, q3⟩
  obtain ⟨w6, w7, h9, e9⟩ := loopM (σ0 := some (.scr ns)) (σ1 := some (.d x)) (σ2 := some (.d y)) (σ5 := some (.d x)) (d := 13) hx (y1 ++ y2) none none none d8 (by rw [List.length_append]; omega)
  rw [sq (σ1 := [some (.scr ns), some (.d x), some (.d y), some (.m h3.length), some (.d (.lst xs)), some (.d x), w6, w7, none]) (h1 := h9) (by
    rw [for_ok (xs := y1 ++ y2) (h1 := h8) (by simp [getM, getV, binM, cmpM, cmp2M, cmp3M, MI.notM, negM, MI.andM, MI.orM, iteM, seqL, tupM, lstM, lstN, ixM, partM, cutM, isM, bltM, usrM, rg1M, rg2M, lrgM, trgM, upM, tstM, notT, andT, orT, retS, expS, setS, unpS, ifS, nxS, raiS, seqS, tryS, endF, fin, ofE, bnd, MI.ret, rd, intV, boolV, toDs, gd, bl, is_int, is_bool, is_str, is_tup, is_lst, isT, isS, isI, isL, isB', truth_bl, cmp_le, cmp_lt, cmp_ge, cmp_eqI, cmp_neI, cmp_eqS, cmp_neS, bin_add, bin_sub, ix0, ix1, ix2, len_tup, len_lst, truth_tup, q_within, ne_pt, ne_pc, ne_tc, ne_tp, ne_cp, ne_ct, lx2, lx3, ly2, ly3, q_is_kind, bind2, ek1, ek2, ek3, ek4, ek5, ec1, ec2, ec3, ec4, ie1, is_non, is_tf, isB_bl, q_is_int, frI, frz_lst, e6, e7, e8, addL y1 y2 (by omega)])]
    exact e9)]
  rw [rt_ok (v := .d (.bl true)) (h1 := h9) rfl]
  exact ⟨_, rfl⟩
end K9
set_option maxRecDepth 100000
open PySem PySem.W PyProof.Rows
set_option maxRecDepth 100000 in
set_option maxHeartbeats 0 in
theorem PySem.Challenge.cw_slipleaf_k09_kinds_and_contents_holds : PySem.Challenge.rw_slipleaf_k09_kinds_and_contents.Holds := by
  w_on; o_law; k_head; (case hw => w_witness2)
  k_fill
  refine L2.walk_of (l := PySem.Challenge.rw_slipleaf_k09_kinds_and_contents) (n := 63) (k := 20) (x := "_law_script") (CX := fun w => L2.CX PySem.Challenge.rw_slipleaf_k09_kinds_and_contents.prog w) (sp := fun w => MI.spLaw _ 63) rfl (by decide) rfl ⟨rfl, by decide, by decide⟩ (fun w h Y => PySem.W.kIn_of Y) ?F (fun _ _ a ns hl _ hS => ⟨a, ns, rfl, hS, hl, fun _ => rfl⟩) (fun _ _ _ _ _ h => by obtain ⟨_, _, _, _, _, _, _, _, _, _, _, _, z⟩ := h; exact z)
  case F =>
    intro w mg fa h KX G hmg
    have f_is_within : MI.FnTX KX mg "is_within" K9.fd_is_within := by
      refine' MI.fnT_mk KX G (K9.topS 1) ?a ?l ?c ?k ⟨rfl, rfl, rfl, by decide +kernel, rfl, by decide +kernel, by decide +kernel⟩ rfl rfl (fun _ _ _ _ _ _ us hl => match us, hl with | [_, _, _], _ => rfl)
      (case a => k_is); (case l => k_is); (case c => k_is); (case k => k_is)
    have f_is_kind : MI.FnTX KX mg "is_kind" K9.fd_is_kind := by
      refine' MI.fnT_mk KX G (K9.topS 10) ?a ?l ?c ?k ⟨rfl, rfl, rfl, by decide +kernel, rfl, by decide +kernel, by decide +kernel⟩ rfl rfl (fun _ _ _ _ _ _ us hl => match us, hl with | [_], _ => rfl)
      (case a => k_is); (case l => k_is); (case c => k_is); (case k => k_is)
    have f__ends : MI.FnTX KX mg "_ends" K9.fd__ends := by
      refine' MI.fnT_mk KX G (K9.topS 11) ?a ?l ?c ?k ⟨rfl, rfl, rfl, by decide +kernel, rfl, by decide +kernel, by decide +kernel⟩ rfl rfl (fun _ _ _ _ _ _ us hl => match us, hl with | [_], _ => rfl)
      (case a => k_is); (case l => k_is); (case c => k_is); (case k => k_is)
    have f_answers_of : MI.FnTX KX mg "answers_of" K9.fd_answers_of := by
      refine' MI.fnT_mk KX G (K9.topS 12) ?a ?l ?c ?k ⟨rfl, rfl, rfl, by decide +kernel, rfl, by decide +kernel, by decide +kernel⟩ rfl rfl (fun _ _ _ _ _ _ us hl => match us, hl with | [_], _ => rfl)
      (case a => k_is); (case l => k_is); (case c => k_is); (case k => k_is)
    have f_size_of : MI.FnTX KX mg "size_of" K9.fd_size_of := by
      refine' MI.fnT_mk KX G (K9.topS 13) ?a ?l ?c ?k ⟨rfl, rfl, rfl, by decide +kernel, rfl, by decide +kernel, by decide +kernel⟩ rfl rfl (fun _ _ _ _ _ _ us hl => match us, hl with | [_], _ => rfl)
      (case a => k_is); (case l => k_is); (case c => k_is); (case k => k_is)
    have f_is_answer : MI.FnTX KX mg "is_answer" K9.fd_is_answer := by
      refine' MI.fnT_mk KX G (K9.topS 14) ?a ?l ?c ?k ⟨rfl, rfl, rfl, by decide +kernel, rfl, by decide +kernel, by decide +kernel⟩ rfl rfl (fun _ _ _ _ _ _ us hl => match us, hl with | [_, _], _ => rfl)
      (case a => k_is); (case l => k_is); (case c => k_is); (case k => k_is)
    have f_is_content : MI.FnTX KX mg "is_content" K9.fd_is_content := by
      refine' MI.fnT_mk KX G (K9.topS 15) ?a ?l ?c ?k ⟨rfl, rfl, rfl, by decide +kernel, rfl, by decide +kernel, by decide +kernel⟩ rfl rfl (fun _ _ _ _ _ _ us hl => match us, hl with | [_, _], _ => rfl)
      (case a => k_is); (case l => k_is); (case c => k_is); (case k => k_is)
    have f_slips_between : MI.FnTX KX mg "slips_between" K9.fd_slips_between := by
      refine' MI.fnT_mk KX G (K9.topS 16) ?a ?l ?c ?k ⟨rfl, rfl, rfl, by decide +kernel, rfl, by decide +kernel, by decide +kernel⟩ rfl rfl (fun _ _ _ _ _ _ us hl => match us, hl with | [_, _, _], _ => rfl)
      (case a => k_is); (case l => k_is); (case c => k_is); (case k => k_is)
    have f_ticked : MI.FnTX KX mg "ticked" K9.fd_ticked := by
      refine' MI.fnT_mk KX G (K9.topS 17) ?a ?l ?c ?k ⟨rfl, rfl, rfl, by decide +kernel, rfl, by decide +kernel, by decide +kernel⟩ rfl rfl (fun _ _ _ _ _ _ us hl => match us, hl with | [_, _], _ => rfl)
      (case a => k_is); (case l => k_is); (case c => k_is); (case k => k_is)
    have f__boxes : MI.FnTX KX mg "_boxes" K9.fd__boxes := by
      refine' MI.fnT_mk KX G (K9.topS 18) ?a ?l ?c ?k ⟨rfl, rfl, rfl, by decide +kernel, rfl, by decide +kernel, by decide +kernel⟩ rfl rfl (fun _ _ _ _ _ _ us hl => match us, hl with | [_], _ => rfl)
      (case a => k_is); (case l => k_is); (case c => k_is); (case k => k_is)
    have f__law_cell : MI.FnTX KX mg "_law_cell" K9.fd__law_cell := by
      refine' MI.fnT_mk KX G (K9.topS 20) ?a ?l ?c ?k ⟨rfl, rfl, rfl, by decide +kernel, rfl, by decide +kernel, by decide +kernel⟩ rfl rfl (fun _ _ _ _ _ _ us hl => match us, hl with | [_, _], _ => rfl)
      (case a => k_is); (case l => k_is); (case c => k_is); (case k => k_is)
    have f__law_stream : MI.FnTX KX mg "_law_stream" K9.fd__law_stream := by
      refine' MI.fnT_mk KX G (K9.topS 21) ?a ?l ?c ?k ⟨rfl, rfl, rfl, by decide +kernel, rfl, by decide +kernel, by decide +kernel⟩ rfl rfl (fun _ _ _ _ _ _ us hl => match us, hl with | [_, _], _ => rfl)
      (case a => k_is); (case l => k_is); (case c => k_is); (case k => k_is)
    have f__law_next : MI.FnTX KX mg "_law_next" K9.fd__law_next := by
      refine' MI.fnT_mk KX G (K9.topS 22) ?a ?l ?c ?k ⟨rfl, rfl, rfl, by decide +kernel, rfl, by decide +kernel, by decide +kernel⟩ rfl rfl (fun _ _ _ _ _ _ us hl => match us, hl with | [_, _], _ => rfl)
      (case a => k_is); (case l => k_is); (case c => k_is); (case k => k_is)
    have f__law_pick : MI.FnTX KX mg "_law_pick" K9.fd__law_pick := by
      refine' MI.fnT_mk KX G (K9.topS 23) ?a ?l ?c ?k ⟨rfl, rfl, rfl, by decide +kernel, rfl, by decide +kernel, by decide +kernel⟩ rfl rfl (fun _ _ _ _ _ _ us hl => match us, hl with | [_, _], _ => rfl)
      (case a => k_is); (case l => k_is); (case c => k_is); (case k => k_is)
    have f__law_is_int : MI.FnTX KX mg "_law_is_int" K9.fd__law_is_int := by
      refine' MI.fnT_mk KX G (K9.topS 24) ?a ?l ?c ?k ⟨rfl, rfl, rfl, by decide +kernel, rfl, by decide +kernel, by decide +kernel⟩ rfl rfl (fun _ _ _ _ _ _ us hl => match us, hl with | [_], _ => rfl)
      (case a => k_is); (case l => k_is); (case c => k_is); (case k => k_is)
    have f__law_alike : MI.FnTX KX mg "_law_alike" K9.fd__law_alike := by
      refine' MI.fnT_mk KX G (K9.topS 25) ?a ?l ?c ?k ⟨rfl, rfl, rfl, by decide +kernel, rfl, by decide +kernel, by decide +kernel⟩ rfl rfl (fun _ _ _ _ _ _ us hl => match us, hl with | [_, _], _ => rfl)
      (case a => k_is); (case l => k_is); (case c => k_is); (case k => k_is)
    have f__law_answers : MI.FnTX KX mg "_law_answers" K9.fd__law_answers := by
      refine' MI.fnT_mk KX G (K9.topS 26) ?a ?l ?c ?k ⟨rfl, rfl, rfl, by decide +kernel, rfl, by decide +kernel, by decide +kernel⟩ rfl rfl (fun _ _ _ _ _ _ us hl => match us, hl with | [_], _ => rfl)
      (case a => k_is); (case l => k_is); (case c => k_is); (case k => k_is)
    have f__law_boxes : MI.FnTX KX mg "_law_boxes" K9.fd__law_boxes := by
      refine' MI.fnT_mk KX G (K9.topS 27) ?a ?l ?c ?k ⟨rfl, rfl, rfl, by decide +kernel, rfl, by decide +kernel, by decide +kernel⟩ rfl rfl (fun _ _ _ _ _ _ us hl => match us, hl with | [_], _ => rfl)
      (case a => k_is); (case l => k_is); (case c => k_is); (case k => k_is)
    have f__law_any_kind : MI.FnTX KX mg "_law_any_kind" K9.fd__law_any_kind := by
      refine' MI.fnT_mk KX G (K9.topS 28) ?a ?l ?c ?k ⟨rfl, rfl, rfl, by decide +kernel, rfl, by decide +kernel, by decide +kernel⟩ rfl rfl (fun _ _ _ _ _ _ us hl => match us, hl with | [_], _ => rfl)
      (case a => k_is); (case l => k_is); (case c => k_is); (case k => k_is)
    have f__law_right_kind : MI.FnTX KX mg "_law_right_kind" K9.fd__law_right_kind := by
      refine' MI.fnT_mk KX G (K9.topS 29) ?a ?l ?c ?k ⟨rfl, rfl, rfl, by decide +kernel, rfl, by decide +kernel, by decide +kernel⟩ rfl rfl (fun _ _ _ _ _ _ us hl => match us, hl with | [_], _ => rfl)
      (case a => k_is); (case l => k_is); (case c => k_is); (case k => k_is)
    have f__law_near : MI.FnTX KX mg "_law_near" K9.fd__law_near := by
      refine' MI.fnT_mk KX G (K9.topS 30) ?a ?l ?c ?k ⟨rfl, rfl, rfl, by decide +kernel, rfl, by decide +kernel, by decide +kernel⟩ rfl rfl (fun _ _ _ _ _ _ us hl => match us, hl with | [_, _], _ => rfl)
      (case a => k_is); (case l => k_is); (case c => k_is); (case k => k_is)
    have f__law_things : MI.FnTX KX mg "_law_things" K9.fd__law_things := by
      refine' MI.fnT_mk KX G (K9.topS 31) ?a ?l ?c ?k ⟨rfl, rfl, rfl, by decide +kernel, rfl, by decide +kernel, by decide +kernel⟩ rfl rfl (fun _ _ _ _ _ _ us hl => match us, hl with | [_], _ => rfl)
      (case a => k_is); (case l => k_is); (case c => k_is); (case k => k_is)
    have f__law_no_kind : MI.FnTX KX mg "_law_no_kind" K9.fd__law_no_kind := by
      refine' MI.fnT_mk KX G (K9.topS 32) ?a ?l ?c ?k ⟨rfl, rfl, rfl, by decide +kernel, rfl, by decide +kernel, by decide +kernel⟩ rfl rfl (fun _ _ _ _ _ _ us hl => match us, hl with | [_, _, _], _ => rfl)
      (case a => k_is); (case l => k_is); (case c => k_is); (case k => k_is)
    have f__law_no_content : MI.FnTX KX mg "_law_no_content" K9.fd__law_no_content := by
      refine' MI.fnT_mk KX G (K9.topS 33) ?a ?l ?c ?k ⟨rfl, rfl, rfl, by decide +kernel, rfl, by decide +kernel, by decide +kernel⟩ rfl rfl (fun _ _ _ _ _ _ us hl => match us, hl with | [_, _], _ => rfl)
      (case a => k_is); (case l => k_is); (case c => k_is); (case k => k_is)
    have f__law_boxes_told : MI.FnTX KX mg "_law_boxes_told" K9.fd__law_boxes_told := by
      refine' MI.fnT_mk KX G (K9.topS 34) ?a ?l ?c ?k ⟨rfl, rfl, rfl, by decide +kernel, rfl, by decide +kernel, by decide +kernel⟩ rfl rfl (fun _ _ _ _ _ _ us hl => match us, hl with | [_, _, _], _ => rfl)
      (case a => k_is); (case l => k_is); (case c => k_is); (case k => k_is)
    have f__law_kind_told : MI.FnTX KX mg "_law_kind_told" K9.fd__law_kind_told := by
      refine' MI.fnT_mk KX G (K9.topS 35) ?a ?l ?c ?k ⟨rfl, rfl, rfl, by decide +kernel, rfl, by decide +kernel, by decide +kernel⟩ rfl rfl (fun _ _ _ _ _ _ us hl => match us, hl with | [_, _], _ => rfl)
      (case a => k_is); (case l => k_is); (case c => k_is); (case k => k_is)
    have f_law : MI.FnTX KX mg "law" K9.fd_law := by
      refine' MI.fnT_mk KX G (K9.topS 36) ?a ?l ?c ?k ⟨rfl, rfl, rfl, by decide +kernel, rfl, by decide +kernel, by decide +kernel⟩ rfl rfl (fun _ _ _ _ _ _ us hl => match us, hl with | [_], _ => rfl)
      (case a => k_is); (case l => k_is); (case c => k_is); (case k => k_is)
    have b_len : mg "len" = none := by
      refine' PySem.W.mg_none_of KX G ?a
      (case a => k_is)
    have b_int : mg "int" = none := by
      refine' PySem.W.mg_none_of KX G ?a
      (case a => k_is)
    have b_abs : mg "abs" = none := by
      refine' PySem.W.mg_none_of KX G ?a
      (case a => k_is)
    have b_max : mg "max" = none := by
      refine' PySem.W.mg_none_of KX G ?a
      (case a => k_is)
    have b_min : mg "min" = none := by
      refine' PySem.W.mg_none_of KX G ?a
      (case a => k_is)
    have b_sum : mg "sum" = none := by
      refine' PySem.W.mg_none_of KX G ?a
      (case a => k_is)
    have b_all : mg "all" = none := by
      refine' PySem.W.mg_none_of KX G ?a
      (case a => k_is)
    have b_any : mg "any" = none := by
      refine' PySem.W.mg_none_of KX G ?a
      (case a => k_is)
    have b_list : mg "list" = none := by
      refine' PySem.W.mg_none_of KX G ?a
      (case a => k_is)
    have b_tuple : mg "tuple" = none := by
      refine' PySem.W.mg_none_of KX G ?a
      (case a => k_is)
    have b_str : mg "str" = none := by
      refine' PySem.W.mg_none_of KX G ?a
      (case a => k_is)
    have b_isinstance : mg "isinstance" = none := by
      refine' PySem.W.mg_none_of KX G ?a
      (case a => k_is)
    have b_range : mg "range" = none := by
      refine' PySem.W.mg_none_of KX G ?a
      (case a => k_is)
    have b_zip : mg "zip" = none := by
      refine' PySem.W.mg_none_of KX G ?a
      (case a => k_is)
    have b_bool : mg "bool" = none := by
      refine' PySem.W.mg_none_of KX G ?a
      (case a => k_is)
    have b_dict : mg "dict" = none := by
      refine' PySem.W.mg_none_of KX G ?a
      (case a => k_is)
    have b_ValueError : mg "ValueError" = none := by
      refine' PySem.W.mg_none_of KX G ?a
      (case a => k_is)
    have c_EMPTY : MI.CnTX KX mg ("EMPTY", MI.D.int (-1)) := by
      refine' MI.cn_int KX G ?a
      (case a => k_is)
    have c_UNREADABLE : MI.CnTX KX mg ("UNREADABLE", MI.D.int (-2)) := by
      refine' MI.cn_int KX G ?a
      (case a => k_is)
    have m_LeafError : ∃ C, mg "LeafError" = some (Value.ref C) := by
      refine' MI.cl_mk KX G ?a
      (case a => k_is)
    have m_BadAnswer : ∃ C, mg "BadAnswer" = some (Value.ref C) := by
      refine' MI.cl_mk KX G ?a
      (case a => k_is)
    have x_BadKind : ∃ C, mg "BadKind" = some (Value.ref C) ∧ MI.ExFX KX K9.g mg C ["BadKind", "LeafError", "ValueError", "Exception", "BaseException"] := by
      refine' MI.exx_mk KX G ?a (MI.exF_mk ?kp ⟨?e1, ?e2, ?e3, ?e4, ?e5, ?e6, ?e7, ?e8⟩ ?xc ?tb ⟨MI.ask_own KX G ?a0 ?p0 ?q0 ?r0 ?s0 ?t0 ?u0, MI.ask_own KX G ?a1 ?p1 ?q1 ?r1 ?s1 ?t1 ?u1, MI.ask_own KX G ?a2 ?p2 ?q2 ?r2 ?s2 ?t2 ?u2, MI.ask_own KX G ?a3 ?p3 ?q3 ?r3 ?s3 ?t3 ?u3, MI.ask_ve KX G ?av ?pv ?qv (by decide +kernel), trivial⟩)
      (case a => k_is); (case kp => k_is); (case e1 => k_is); (case e2 => k_is); (case e3 => k_is); (case e4 => k_is); (case e5 => k_is); (case e6 => k_is); (case e7 => k_is); (case e8 => k_is); (case xc => k_exc); (case tb => k_is)
      (case a0 => k_is); (case p0 => k_is); (case q0 => k_is); (case r0 => k_is); (case s0 => first | rfl | k_is); (case t0 => first | rfl | k_is); (case u0 => decide +kernel); (case a1 => k_is); (case p1 => k_is); (case q1 => k_is); (case r1 => k_is); (case s1 => first | rfl | k_is); (case t1 => first | rfl | k_is); (case u1 => decide +kernel); (case a2 => k_is); (case p2 => k_is); (case q2 => k_is); (case r2 => k_is); (case s2 => first | rfl | k_is); (case t2 => first | rfl | k_is); (case u2 => decide +kernel); (case a3 => k_is); (case p3 => k_is); (case q3 => k_is); (case r3 => k_is); (case s3 => first | rfl | k_is); (case t3 => first | rfl | k_is); (case u3 => decide +kernel); (case av => k_is); (case pv => first | rfl | k_is | decide +kernel); (case qv => k_is)
    have x_BadContent : ∃ C, mg "BadContent" = some (Value.ref C) ∧ MI.ExFX KX K9.g mg C ["BadContent", "LeafError", "ValueError", "Exception", "BaseException"] := by
      refine' MI.exx_mk KX G ?a (MI.exF_mk ?kp ⟨?e1, ?e2, ?e3, ?e4, ?e5, ?e6, ?e7, ?e8⟩ ?xc ?tb ⟨MI.ask_own KX G ?a0 ?p0 ?q0 ?r0 ?s0 ?t0 ?u0, MI.ask_own KX G ?a1 ?p1 ?q1 ?r1 ?s1 ?t1 ?u1, MI.ask_own KX G ?a2 ?p2 ?q2 ?r2 ?s2 ?t2 ?u2, MI.ask_own KX G ?a3 ?p3 ?q3 ?r3 ?s3 ?t3 ?u3, MI.ask_ve KX G ?av ?pv ?qv (by decide +kernel), trivial⟩)
      (case a => k_is); (case kp => k_is); (case e1 => k_is); (case e2 => k_is); (case e3 => k_is); (case e4 => k_is); (case e5 => k_is); (case e6 => k_is); (case e7 => k_is); (case e8 => k_is); (case xc => k_exc); (case tb => k_is)
      (case a0 => k_is); (case p0 => k_is); (case q0 => k_is); (case r0 => k_is); (case s0 => first | rfl | k_is); (case t0 => first | rfl | k_is); (case u0 => decide +kernel); (case a1 => k_is); (case p1 => k_is); (case q1 => k_is); (case r1 => k_is); (case s1 => first | rfl | k_is); (case t1 => first | rfl | k_is); (case u1 => decide +kernel); (case a2 => k_is); (case p2 => k_is); (case q2 => k_is); (case r2 => k_is); (case s2 => first | rfl | k_is); (case t2 => first | rfl | k_is); (case u2 => decide +kernel); (case a3 => k_is); (case p3 => k_is); (case q3 => k_is); (case r3 => k_is); (case s3 => first | rfl | k_is); (case t3 => first | rfl | k_is); (case u3 => decide +kernel); (case av => k_is); (case pv => first | rfl | k_is | decide +kernel); (case qv => k_is)
    have T : MI.TxtX KX K9.g mg := MI.txt_mk ⟨f_is_within, f_is_kind, f__ends, f_answers_of, f_size_of, f_is_answer, f_is_content, f_slips_between, f_ticked, f__boxes, f__law_cell, f__law_stream, f__law_next, f__law_pick, f__law_is_int, f__law_alike, f__law_answers, f__law_boxes, f__law_any_kind, f__law_right_kind, f__law_near, f__law_things, f__law_no_kind, f__law_no_content, f__law_boxes_told, f__law_kind_told, f_law, trivial⟩ ⟨c_EMPTY, c_UNREADABLE, trivial⟩ ⟨b_len, b_int, b_abs, b_max, b_min, b_sum, b_all, b_any, b_list, b_tuple, b_str, b_isinstance, b_range, b_zip, b_bool, b_dict, b_ValueError, trivial⟩ ⟨x_BadKind, x_BadContent, trivial⟩ ⟨m_LeafError, m_BadAnswer, trivial⟩
    exact MI.law_ok (d := 19) T hmg rfl rfl K9.law_true
